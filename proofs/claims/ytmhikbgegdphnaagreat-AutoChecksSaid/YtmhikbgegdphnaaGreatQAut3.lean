import Derived.Test.YtmhikbgegdphnaaGreatQRow2
import Derived.Test.YtmhikbgegdphnaaGreatQSym3
namespace Go.Am
set_option linter.unusedSimpArgs false
set_option linter.unusedVariables false
open Go.RowKit
section
variable {P : Program} {W0 : World} {ops : Array Oper} {H : Heap} {nx n : Nat} {type : TypeId} {pos : String} {after : Array Edge} {l : List Oper} {tm : Nat → Value} {QQ : ASt → Prop} {d : Tmp} {ts : Array TypeId} {f : FuncId} {R : Value → Nat → Heap → Prop}
theorem OpsL.callV1 {c x : Operand} {a : Value} {cap : Array Value} (hd : d < n) (hc : ASt.ev ⟨tm, n, H, nx⟩ c = some (.func (.func f) #[] cap)) (hx : ASt.ev ⟨tm, n, H, nx⟩ x = some a) (hf : Enters P f) (hcall : ACalls P W0 f (a :: cap.toList) nx H R) (h : ∀ v nx' H', R v nx' H' → OpsL P W0 ops l ⟨tmPut tm (some d) v, n, H', nx'⟩ QQ) :
    OpsL P W0 ops (⟨some d, .call ⟨.value c, #[x], ts⟩, type, pos, after, none⟩ :: l) ⟨tm, n, H, nx⟩ QQ :=
  OpsL.call R (by simp [dstOk, hd]) rfl (by simp [callee, hc, evAll, hx]) hf hcall h
theorem OpsL.callV2 {c x y : Operand} {a b : Value} {cap : Array Value} (hd : d < n) (hc : ASt.ev ⟨tm, n, H, nx⟩ c = some (.func (.func f) #[] cap)) (hx : ASt.ev ⟨tm, n, H, nx⟩ x = some a) (hy : ASt.ev ⟨tm, n, H, nx⟩ y = some b) (hf : Enters P f) (hcall : ACalls P W0 f (a :: b :: cap.toList) nx H R) (h : ∀ v nx' H', R v nx' H' → OpsL P W0 ops l ⟨tmPut tm (some d) v, n, H', nx'⟩ QQ) :
    OpsL P W0 ops (⟨some d, .call ⟨.value c, #[x, y], ts⟩, type, pos, after, none⟩ :: l) ⟨tm, n, H, nx⟩ QQ :=
  OpsL.call R (by simp [dstOk, hd]) rfl (by simp [callee, hc, evAll, hx, hy]) hf hcall h
theorem aop_makeFunc {ev : Operand → Option Value} {dst : Option Tmp} {guard : Option (Nat × Bool)} {fn : Fn} {first cap : Array Operand} {a b : List Value} (h1 : evAll ev first.toList = some a) (h2 : evAll ev cap.toList = some b) :
    aop P H nx ev ⟨dst, .makeFunc fn first cap, type, pos, after, guard⟩ = some (.func fn a.toArray b.toArray, .none) := by simp [aop, h1, h2]
end
theorem cell_of {H : Heap} {b e k : Nat} {cs : List Value} {tg : Option Nat} {ro : Bool} {q : Option TypeId} {v : Value} (hH : H b = some (.cells cs e tg ro q)) (h : cs[k]? = some v) : cellAt H ⟨b, k, tg⟩ v := by
  obtain ⟨hk, rfl⟩ := List.getElem?_eq_some_iff.1 h
  exact cellAt_own hH hk
theorem getc_all {H : Heap} {b e : Nat} {cs : List Value} {tg : Option Nat} {ro : Bool} {q : Option TypeId} {m : Nat} (hH : H b = some (.cells cs e tg ro q)) (h : cs.length = m) : getc H ⟨b, 0, tg⟩ m = some cs := by
  unfold getc
  simp only [hH]
  rw [if_pos ⟨trivial, by omega⟩]
  simp [← h]
theorem cell_ext {nx nx' : Nat} {H H' : Heap} {a : Addr} {v : Value} (h : Ext nx H nx' H') (hok : ∀ id o, H id = some o → id < nx) (hc : cellAt H a v) : cellAt H' a v := getc_ext h hok hc
theorem rows_at {α : Type} {enc : α → List Value} {sz : Nat} {H : Heap} {a : Option Addr} {c : Nat} {l : List α} (h : RowsAt enc sz H (.slice a l.length c) l) {i : Nat} (hi : i < l.length) : ∃ p, a = some p ∧ getc H ⟨p.block, p.off + (i : Int).toNat * sz, p.spot⟩ sz = some (enc l[i]) := by
  rcases h with ⟨c', h1, rfl⟩ | ⟨p, c', h1, hs⟩
  · exact absurd hi (by simp)
  · obtain ⟨rfl, _, _⟩ := Value.slice.inj h1
    exact ⟨p, rfl, by rw [Int.toNat_natCast]; exact hs i hi⟩
theorem intsAt_at {H : Heap} {a : Option Addr} {c : Nat} {l : List Int} (h : IntsAt H (.slice a l.length c) l) {i : Nat} (hi : i < l.length) : ∃ p, a = some p ∧ cellAt H ⟨p.block, p.off + (i : Int).toNat * 1, p.spot⟩ (.int .i64 l[i]) := by
  obtain ⟨p, h1, h2⟩ := h.get hi
  exact ⟨p, h1, by simpa using h2⟩
abbrev R4 := Int × Int × Int × Int
abbrev R3 := Int × Int × Int
def e4 (r : R4) : List Value := [.int .i64 r.1, .int .i64 r.2.1, .int .i64 r.2.2.1, .int .i64 r.2.2.2]
def e3 (r : R3) : List Value := [.int .i64 r.1, .int .i64 r.2.1, .int .i64 r.2.2]
structure Aut where
  N : Int
  G : Int
  init : List Int
  final : List Int
  opens : List R4
  closes : List R4
  inners : List R3
def autV (a : Aut) (vi vf vo vc vn : Value) : List Value := [.int .i64 a.N, .int .i64 a.G, vi, vf, vo, vc, vn]
structure AutIn (H : Heap) (a : Aut) (vi vf vo vc vn : Value) : Prop where
  init : IntsAt H vi a.init
  final : IntsAt H vf a.final
  opens : RowsAt e4 4 H vo a.opens
  closes : RowsAt e4 4 H vc a.closes
  inners : RowsAt e3 3 H vn a.inners
theorem AutIn.ext {nx nx' : Nat} {H H' : Heap} {a : Aut} {vi vf vo vc vn : Value} (h : Ext nx H nx' H') (hok : ∀ id o, H id = some o → id < nx) (ha : AutIn H a vi vf vo vc vn) : AutIn H' a vi vf vo vc vn :=
  ⟨ha.init.ext h hok, ha.final.ext h hok, ha.opens.ext h hok, ha.closes.ext h hok, ha.inners.ext h hok⟩
structure AutLen (a : Aut) : Prop where
  init : a.init.length ≤ 1000
  final : a.final.length ≤ 1000
  opens : a.opens.length ≤ 1000
  closes : a.closes.length ≤ 1000
  inners : a.inners.length ≤ 1000
def btF (n a b : Int) : Bool := decide (a ≤ n) && decide (n ≤ b)
def stF (N s : Int) : Bool := decide (0 ≤ s) && decide (s < N)
def kdF (ss : List (ByteArray × Int)) (s k : Int) : Bool := decide (0 ≤ s) && decide (s < ss.length) && (match ss[s.toNat]? with | some x => decide (x.2 = k) | none => false)
def okO (ss : List (ByteArray × Int)) (a : Aut) (r : R4) : Bool := stF a.N r.1 && kdF ss r.2.1 1 && stF a.N r.2.2.1 && btF r.2.2.2 1 a.G
def okC (ss : List (ByteArray × Int)) (a : Aut) (r : R4) : Bool := stF a.N r.1 && kdF ss r.2.1 2 && stF a.N r.2.2.2 && btF r.2.2.1 0 a.G
def okI (ss : List (ByteArray × Int)) (a : Aut) (r : R3) : Bool := stF a.N r.1 && kdF ss r.2.1 3 && stF a.N r.2.2
def sizeF (a : Aut) : Bool := btF a.N 0 200 && btF a.G 0 10000 && decide (((a.opens.length : Int) + a.closes.length) + a.inners.length ≤ 100000)
def checkF (ss : List (ByteArray × Int)) (a : Aut) : Bool := sizeF a && a.init.all (stF a.N) && a.final.all (stF a.N) && a.opens.all (okO ss a) && a.closes.all (okC ss a) && a.inners.all (okI ss a)
theorem all_take {α : Type} {p : α → Bool} {l : List α} {i : Nat} (h : i < l.length) (ht : (l.take i).all p = true) (hi : p l[i] = true) : (l.take (i + 1)).all p = true := by
  rw [List.take_succ_eq_append_getElem h, List.all_append, ht]
  simp [hi]
theorem all_no {α : Type} {p : α → Bool} {l : List α} {i : Nat} (h : i < l.length) (hi : p l[i] = false) : l.all p = false := by
  rw [List.all_eq_false]
  exact ⟨_, List.getElem_mem h, by simp [hi]⟩
end Go.Am
namespace Go.Proofs.YtmhikbgegdphnaaGreat
set_option linter.unusedSimpArgs false
set_option linter.unusedVariables false
open Go.Am Go.RowKit
attribute [local irreducible] aop OpsL Trip blockExit OpsD
theorem entersBetween : Enters Tryz.prog 34 := ⟨Tryz.f34, Tryz.func34, by kernel_rfl, by kernel_rfl⟩
theorem entersState : Enters Tryz.prog 31 := ⟨Tryz.f31, Tryz.func31, by kernel_rfl, by kernel_rfl⟩
theorem entersKind : Enters Tryz.prog 32 := ⟨Tryz.f32, Tryz.func32, by kernel_rfl, by kernel_rfl⟩
theorem entersOpen : Enters Tryz.prog 33 := ⟨Tryz.f33, Tryz.func33, by kernel_rfl, by kernel_rfl⟩
theorem entersClose : Enters Tryz.prog 35 := ⟨Tryz.f35, Tryz.func35, by kernel_rfl, by kernel_rfl⟩
theorem entersStay : Enters Tryz.prog 36 := ⟨Tryz.f36, Tryz.func36, by kernel_rfl, by kernel_rfl⟩
theorem entersSize : Enters Tryz.prog 37 := ⟨Tryz.f37, Tryz.func37, by kernel_rfl, by kernel_rfl⟩
theorem entersRules : Enters Tryz.prog 48 := ⟨Tryz.f48, Tryz.func48, by kernel_rfl, by kernel_rfl⟩
theorem entersCheck : Enters Tryz.prog 15 := ⟨Tryz.f15, Tryz.func15, by kernel_rfl, by kernel_rfl⟩
set_option maxRecDepth 20000 in
set_option maxHeartbeats 4000000 in
theorem betweenC (W0 : World) {nx : Nat} {H : Heap} (x a b : Int) :
    ACalls Tryz.prog W0 34 [.int .i64 x, .int .i64 a, .int .i64 b] nx H fun v nx' H' => v = .bool (btF x a b) ∧ nx' = nx ∧ H' = H := by
  refine ACalls.by_trip (fn := Tryz.f34) (c := _) Tryz.func34 rfl (fun tm n hn0 htm => ?_)
  have e0 : tm 0 = .int .i64 x := htm 0
  have e1 : tm 1 = .int .i64 a := htm 1
  have e2 : tm 2 = .int .i64 b := htm 2
  clear htm
  replace hn0 : n = 15 := hn0
  repeat' (first | (refine OpsL.p (by subst_vars; decide) (by (first | (exact aop_move (by (first | (simp only [ASt.ev, tmPut, ↓reduceIte, Nat.reduceEqDiff, *]; rfl)))) | (exact aop_assign (by (first | (simp only [ASt.ev, tmPut, ↓reduceIte, Nat.reduceEqDiff, *]; rfl)))) | (exact aop_leq (by (first | (simp only [ASt.ev, tmPut, ↓reduceIte, Nat.reduceEqDiff, *]; rfl))) (by (first | (simp only [ASt.ev, tmPut, ↓reduceIte, Nat.reduceEqDiff, *]; rfl)))) | (exact aop_pickT (by (first | (simp only [ASt.ev, tmPut, ↓reduceIte, Nat.reduceEqDiff, *]; rfl))) (by (first | (simp only [ASt.ev, tmPut, ↓reduceIte, Nat.reduceEqDiff, *]; rfl)))) | (exact aop_pickF (by (first | (simp only [ASt.ev, tmPut, ↓reduceIte, Nat.reduceEqDiff, *]; rfl))) (by (first | (simp only [ASt.ev, tmPut, ↓reduceIte, Nat.reduceEqDiff, *]; rfl)))))) ?_) | (refine Trip.seq ?_) | (refine Trip.ops ?_) | (refine Trip.ret ?_; (dsimp only)) | (refine OpsL.nil ?_; (change Trip _ _ _ _ _)) | (refine OpsL.unguard (by exact rfl) (by (first | (simp only [ASt.ev, tmPut, ↓reduceIte, Nat.reduceEqDiff, *]; rfl))) ?_) | (refine OpsL.skipped (by exact rfl) (by (first | (simp only [ASt.ev, tmPut, ↓reduceIte, Nat.reduceEqDiff, *]; rfl))) (by subst_vars; decide) ?_) | (refine OpsL.guardT (by exact rfl) (by (first | (simp only [ASt.ev, tmPut, ↓reduceIte, Nat.reduceEqDiff, *]; rfl))) (by subst_vars; decide) (fun _ => ?_) (fun _ => ?_)))
  all_goals (exact ⟨.inr rfl, _, res_tmp, by simp [tmPut, btF, *], rfl, rfl⟩)
set_option maxRecDepth 20000 in
set_option maxHeartbeats 4000000 in
theorem stateC (W0 : World) {nx : Nat} {H : Heap} {b : Nat} {N : Int} (s : Int) (hN : cellAt H ⟨b, 0, none⟩ (.int .i64 N)) :
    ACalls Tryz.prog W0 31 [.int .i64 s, .pointer (some ⟨b, 0, none⟩)] nx H fun v nx' H' => v = .bool (stF N s) ∧ nx' = nx ∧ H' = H := by
  refine ACalls.by_trip (fn := Tryz.f31) (c := _) Tryz.func31 rfl (fun tm n hn0 htm => ?_)
  have e0 : tm 0 = .int .i64 s := htm 0
  have e1 : tm 1 = .pointer (some ⟨b, 0, none⟩) := htm 1
  clear htm
  replace hn0 : n = 12 := hn0
  repeat' (first | (refine OpsL.p (by subst_vars; decide) (by (first | (exact aop_move (by (first | (simp only [ASt.ev, tmPut, ↓reduceIte, Nat.reduceEqDiff, *]; rfl)))) | (exact aop_assign (by (first | (simp only [ASt.ev, tmPut, ↓reduceIte, Nat.reduceEqDiff, *]; rfl)))) | (exact aop_lss (by (first | (simp only [ASt.ev, tmPut, ↓reduceIte, Nat.reduceEqDiff, *]; rfl))) (by (first | (simp only [ASt.ev, tmPut, ↓reduceIte, Nat.reduceEqDiff, *]; rfl)))) | (exact aop_leq (by (first | (simp only [ASt.ev, tmPut, ↓reduceIte, Nat.reduceEqDiff, *]; rfl))) (by (first | (simp only [ASt.ev, tmPut, ↓reduceIte, Nat.reduceEqDiff, *]; rfl)))) | (exact aop_fieldAddr (by (first | (simp only [ASt.ev, tmPut, ↓reduceIte, Nat.reduceEqDiff, *]; rfl))) (by exact rfl)) | (exact aop_load (by (first | (simp only [ASt.ev, tmPut, ↓reduceIte, Nat.reduceEqDiff, *]; rfl))) (by exact rfl) rfl (by assumption)) | (exact aop_pickT (by (first | (simp only [ASt.ev, tmPut, ↓reduceIte, Nat.reduceEqDiff, *]; rfl))) (by (first | (simp only [ASt.ev, tmPut, ↓reduceIte, Nat.reduceEqDiff, *]; rfl)))) | (exact aop_pickF (by (first | (simp only [ASt.ev, tmPut, ↓reduceIte, Nat.reduceEqDiff, *]; rfl))) (by (first | (simp only [ASt.ev, tmPut, ↓reduceIte, Nat.reduceEqDiff, *]; rfl)))))) ?_) | (refine Trip.seq ?_) | (refine Trip.ops ?_) | (refine Trip.ret ?_; (dsimp only)) | (refine OpsL.nil ?_; (change Trip _ _ _ _ _)) | (refine OpsL.unguard (by exact rfl) (by (first | (simp only [ASt.ev, tmPut, ↓reduceIte, Nat.reduceEqDiff, *]; rfl))) ?_) | (refine OpsL.skipped (by exact rfl) (by (first | (simp only [ASt.ev, tmPut, ↓reduceIte, Nat.reduceEqDiff, *]; rfl))) (by subst_vars; decide) ?_) | (refine OpsL.guardT (by exact rfl) (by (first | (simp only [ASt.ev, tmPut, ↓reduceIte, Nat.reduceEqDiff, *]; rfl))) (by subst_vars; decide) (fun _ => ?_) (fun _ => ?_)))
  all_goals (exact ⟨.inr rfl, _, res_tmp, by simp [tmPut, stF, *], rfl, rfl⟩)
set_option maxRecDepth 20000 in
set_option maxHeartbeats 4000000 in
theorem kindC (W0 : World) {nx : Nat} {H : Heap} {b : Nat} {lv : Value} {ss : List (ByteArray × Int)} (s k : Int) (hc : cellAt H ⟨b, 0, none⟩ lv) (hl : SymsAt H lv ss) (hss : ss.length ≤ 1000) :
    ACalls Tryz.prog W0 32 [.int .i64 s, .int .i64 k, .pointer (some ⟨b, 0, none⟩)] nx H fun v nx' H' => v = .bool (kdF ss s k) ∧ nx' = nx ∧ H' = H := by
  obtain ⟨la, lc, rfl, hl⟩ := hl
  refine ACalls.by_trip (fn := Tryz.f32) (c := _) Tryz.func32 rfl (fun tm n hn0 htm => ?_)
  have e0 : tm 0 = .int .i64 s := htm 0
  have e1 : tm 1 = .int .i64 k := htm 1
  have e2 : tm 2 = .pointer (some ⟨b, 0, none⟩) := htm 2
  clear htm
  replace hn0 : n = 23 := hn0
  by_cases h0 : 0 ≤ s
  · obtain ⟨i, rfl⟩ : ∃ i : Nat, s = i := ⟨s.toNat, by omega⟩
    by_cases h1 : i < ss.length
    · have hc1 := cellAt_of_getc (hl i h1)
      dsimp only at hc1
      have hc2 : cellAt H ⟨la.block, la.off + (i : Int).toNat * 2 + 1, la.spot⟩ (.int .i64 ss[i].2) := by simpa using hc1
      have hk : kdF ss i k = decide (ss[i].2 = k) := by
        unfold kdF
        rw [Int.toNat_natCast, List.getElem?_eq_getElem h1]
        simp [h1]
      repeat' (first | (refine OpsL.p (by subst_vars; decide) (by (first | (exact aop_move (by (first | (simp only [ASt.ev, tmPut, ↓reduceIte, Nat.reduceEqDiff, *]; rfl)))) | (exact aop_assign (by (first | (simp only [ASt.ev, tmPut, ↓reduceIte, Nat.reduceEqDiff, *]; rfl)))) | (exact aop_lss (by (first | (simp only [ASt.ev, tmPut, ↓reduceIte, Nat.reduceEqDiff, *]; rfl))) (by (first | (simp only [ASt.ev, tmPut, ↓reduceIte, Nat.reduceEqDiff, *]; rfl)))) | (exact aop_leq (by (first | (simp only [ASt.ev, tmPut, ↓reduceIte, Nat.reduceEqDiff, *]; rfl))) (by (first | (simp only [ASt.ev, tmPut, ↓reduceIte, Nat.reduceEqDiff, *]; rfl)))) | (exact aop_eql (by (first | (simp only [ASt.ev, tmPut, ↓reduceIte, Nat.reduceEqDiff, *]; rfl))) (by (first | (simp only [ASt.ev, tmPut, ↓reduceIte, Nat.reduceEqDiff, *]; rfl)))) | (exact aop_len (by (first | (simp only [ASt.ev, tmPut, ↓reduceIte, Nat.reduceEqDiff, *]; rfl))) (by exact rfl)) | (exact aop_indexAddr (by (first | (simp only [ASt.ev, tmPut, ↓reduceIte, Nat.reduceEqDiff, *]; rfl))) (by (first | (simp only [ASt.ev, tmPut, ↓reduceIte, Nat.reduceEqDiff, *]; rfl))) (by exact rfl) (by exact rfl) (by omega) (by omega)) | (exact aop_fieldAddr (by (first | (simp only [ASt.ev, tmPut, ↓reduceIte, Nat.reduceEqDiff, *]; rfl))) (by exact rfl)) | (exact aop_load (by (first | (simp only [ASt.ev, tmPut, ↓reduceIte, Nat.reduceEqDiff, *]; rfl))) (by exact rfl) rfl (by assumption)) | (exact aop_pickT (by (first | (simp only [ASt.ev, tmPut, ↓reduceIte, Nat.reduceEqDiff, *]; rfl))) (by (first | (simp only [ASt.ev, tmPut, ↓reduceIte, Nat.reduceEqDiff, *]; rfl)))) | (exact aop_pickF (by (first | (simp only [ASt.ev, tmPut, ↓reduceIte, Nat.reduceEqDiff, *]; rfl))) (by (first | (simp only [ASt.ev, tmPut, ↓reduceIte, Nat.reduceEqDiff, *]; rfl)))))) ?_) | (refine Trip.seq ?_) | (refine Trip.ops ?_) | (refine Trip.ret ?_; (dsimp only)) | (refine OpsL.nil ?_; (change Trip _ _ _ _ _)) | (refine OpsL.unguard (by exact rfl) (by (first | (simp only [ASt.ev, tmPut, ↓reduceIte, Nat.reduceEqDiff, *]; rfl))) ?_) | (refine OpsL.skipped (by exact rfl) (by (first | (simp only [ASt.ev, tmPut, ↓reduceIte, Nat.reduceEqDiff, *]; rfl))) (by subst_vars; decide) ?_) | (refine OpsL.guardT (by exact rfl) (by (first | (simp only [ASt.ev, tmPut, ↓reduceIte, Nat.reduceEqDiff, *]; rfl))) (by subst_vars; decide) (fun _ => ?_) (fun _ => ?_)))
      all_goals first | omega | skip
      all_goals (exact ⟨.inr rfl, _, res_tmp, by rw [hk]; simp [tmPut, *], rfl, rfl⟩)
    · have hk : kdF ss i k = false := by
        unfold kdF
        simp [h1]
      repeat' (first | (refine OpsL.p (by subst_vars; decide) (by (first | (exact aop_move (by (first | (simp only [ASt.ev, tmPut, ↓reduceIte, Nat.reduceEqDiff, *]; rfl)))) | (exact aop_assign (by (first | (simp only [ASt.ev, tmPut, ↓reduceIte, Nat.reduceEqDiff, *]; rfl)))) | (exact aop_lss (by (first | (simp only [ASt.ev, tmPut, ↓reduceIte, Nat.reduceEqDiff, *]; rfl))) (by (first | (simp only [ASt.ev, tmPut, ↓reduceIte, Nat.reduceEqDiff, *]; rfl)))) | (exact aop_leq (by (first | (simp only [ASt.ev, tmPut, ↓reduceIte, Nat.reduceEqDiff, *]; rfl))) (by (first | (simp only [ASt.ev, tmPut, ↓reduceIte, Nat.reduceEqDiff, *]; rfl)))) | (exact aop_len (by (first | (simp only [ASt.ev, tmPut, ↓reduceIte, Nat.reduceEqDiff, *]; rfl))) (by exact rfl)) | (exact aop_indexAddr (by (first | (simp only [ASt.ev, tmPut, ↓reduceIte, Nat.reduceEqDiff, *]; rfl))) (by (first | (simp only [ASt.ev, tmPut, ↓reduceIte, Nat.reduceEqDiff, *]; rfl))) (by exact rfl) (by exact rfl) (by omega) (by omega)) | (exact aop_fieldAddr (by (first | (simp only [ASt.ev, tmPut, ↓reduceIte, Nat.reduceEqDiff, *]; rfl))) (by exact rfl)) | (exact aop_load (by (first | (simp only [ASt.ev, tmPut, ↓reduceIte, Nat.reduceEqDiff, *]; rfl))) (by exact rfl) rfl (by assumption)) | (exact aop_pickT (by (first | (simp only [ASt.ev, tmPut, ↓reduceIte, Nat.reduceEqDiff, *]; rfl))) (by (first | (simp only [ASt.ev, tmPut, ↓reduceIte, Nat.reduceEqDiff, *]; rfl)))) | (exact aop_pickF (by (first | (simp only [ASt.ev, tmPut, ↓reduceIte, Nat.reduceEqDiff, *]; rfl))) (by (first | (simp only [ASt.ev, tmPut, ↓reduceIte, Nat.reduceEqDiff, *]; rfl)))))) ?_) | (refine Trip.seq ?_) | (refine Trip.ops ?_) | (refine Trip.ret ?_; (dsimp only)) | (refine OpsL.nil ?_; (change Trip _ _ _ _ _)) | (refine OpsL.unguard (by exact rfl) (by (first | (simp only [ASt.ev, tmPut, ↓reduceIte, Nat.reduceEqDiff, *]; rfl))) ?_) | (refine OpsL.skipped (by exact rfl) (by (first | (simp only [ASt.ev, tmPut, ↓reduceIte, Nat.reduceEqDiff, *]; rfl))) (by subst_vars; decide) ?_) | (refine OpsL.guardT (by exact rfl) (by (first | (simp only [ASt.ev, tmPut, ↓reduceIte, Nat.reduceEqDiff, *]; rfl))) (by subst_vars; decide) (fun _ => ?_) (fun _ => ?_)))
      all_goals first | omega | skip
      all_goals (exact ⟨.inr rfl, _, res_tmp, by rw [hk]; simp [tmPut, *], rfl, rfl⟩)
  · have hk : kdF ss s k = false := by
      unfold kdF
      simp [h0]
    repeat' (first | (refine OpsL.p (by subst_vars; decide) (by (first | (exact aop_move (by (first | (simp only [ASt.ev, tmPut, ↓reduceIte, Nat.reduceEqDiff, *]; rfl)))) | (exact aop_assign (by (first | (simp only [ASt.ev, tmPut, ↓reduceIte, Nat.reduceEqDiff, *]; rfl)))) | (exact aop_leq (by (first | (simp only [ASt.ev, tmPut, ↓reduceIte, Nat.reduceEqDiff, *]; rfl))) (by (first | (simp only [ASt.ev, tmPut, ↓reduceIte, Nat.reduceEqDiff, *]; rfl)))) | (exact aop_pickF (by (first | (simp only [ASt.ev, tmPut, ↓reduceIte, Nat.reduceEqDiff, *]; done) | (simp only [ASt.ev, tmPut, ↓reduceIte, Nat.reduceEqDiff, *]; rfl))) (by (first | (simp only [ASt.ev, tmPut, ↓reduceIte, Nat.reduceEqDiff, *]; rfl)))))) ?_) | (refine Trip.seq ?_) | (refine Trip.ops ?_) | (refine Trip.ret ?_; (dsimp only)) | (refine OpsL.nil ?_; (change Trip _ _ _ _ _)) | (refine OpsL.skipped (by exact rfl) (by (first | (simp only [ASt.ev, tmPut, ↓reduceIte, Nat.reduceEqDiff, *]; done) | (simp only [ASt.ev, tmPut, ↓reduceIte, Nat.reduceEqDiff, *]; rfl))) (by subst_vars; decide) ?_))
    all_goals first | omega | skip
    all_goals (exact ⟨.inr rfl, _, res_tmp, by rw [hk]; simp [tmPut, *], rfl, rfl⟩)
structure Ctx (H : Heap) (b2 b3 b5 b6 : Nat) (lv : Value) (N G : Int) : Prop where
  c2 : cellAt H ⟨b2, 0, none⟩ lv
  cN : cellAt H ⟨b3, 0, none⟩ (.int .i64 N)
  cG : cellAt H ⟨b3, 1, none⟩ (.int .i64 G)
  c5 : cellAt H ⟨b5, 0, none⟩ (.func (.func 31) #[] #[.pointer (some ⟨b3, 0, none⟩)])
  c6 : cellAt H ⟨b6, 0, none⟩ (.func (.func 32) #[] #[.pointer (some ⟨b2, 0, none⟩)])
theorem Ctx.ext {nx nx' : Nat} {H H' : Heap} {b2 b3 b5 b6 : Nat} {lv : Value} {N G : Int} (h : Ext nx H nx' H') (hok : ∀ id o, H id = some o → id < nx) (hc : Ctx H b2 b3 b5 b6 lv N G) : Ctx H' b2 b3 b5 b6 lv N G :=
  ⟨cell_ext h hok hc.c2, cell_ext h hok hc.cN, cell_ext h hok hc.cG, cell_ext h hok hc.c5, cell_ext h hok hc.c6⟩
set_option maxRecDepth 20000 in
set_option maxHeartbeats 8000000 in
theorem openC (W0 : World) {nx : Nat} {H : Heap} {b2 b3 b5 b6 : Nat} {lv : Value} {ss : List (ByteArray × Int)} {a : Aut} (r : R4) (hc : Ctx H b2 b3 b5 b6 lv a.N a.G) (hl : SymsAt H lv ss) (hss : ss.length ≤ 1000) :
    ACalls Tryz.prog W0 33 [.agg (e4 r).toArray, .pointer (some ⟨b5, 0, none⟩), .pointer (some ⟨b6, 0, none⟩), .pointer (some ⟨b3, 0, none⟩)] nx H fun v nx' H' => v = .bool (okO ss a r) ∧ Ext nx H nx' H' := by
  refine ACalls.by_trip (fn := Tryz.f33) (c := _) Tryz.func33 rfl (fun tm n hn0 htm => ?_)
  have e0 : tm 0 = .agg (e4 r).toArray := htm 0
  have e1 : tm 1 = .pointer (some ⟨b5, 0, none⟩) := htm 1
  have e2 : tm 2 = .pointer (some ⟨b6, 0, none⟩) := htm 2
  have e3 : tm 3 = .pointer (some ⟨b3, 0, none⟩) := htm 3
  clear htm
  replace hn0 : n = 29 := hn0
  refine Trip.ok fun hok => ?_
  replace hok : ∀ id o, H id = some o → id < nx := hok
  refine Trip.seq ?_
  refine Trip.ops ?_
  refine OpsL.new (by subst_vars; decide) (aop_box (by (first | (simp only [ASt.ev, tmPut, ↓reduceIte, Nat.reduceEqDiff, *]; rfl)))) ?_
  obtain ⟨F, hF⟩ : ∃ F, F = H.put nx (.cells (Value.agg (e4 r).toArray).cells.toList 0 none false (some 36)) := ⟨_, rfl⟩
  have hx0 : Ext nx H (nx + 1) F := by rw [hF]; exact Ext.newPut
  have hFn : F nx = some (.cells (e4 r) 0 none false (some 36)) := by rw [hF, Heap.put_eq]; rfl
  obtain ⟨c2, cN, cG, c5, c6⟩ := hc.ext hx0 hok
  replace hl := hl.ext hx0 hok
  have g0 : cellAt F ⟨nx, 0, none⟩ (.int .i64 r.1) := cell_of hFn rfl
  have g1 : cellAt F ⟨nx, 1, none⟩ (.int .i64 r.2.1) := cell_of hFn rfl
  have g2 : cellAt F ⟨nx, 2, none⟩ (.int .i64 r.2.2.1) := cell_of hFn rfl
  have g3 : cellAt F ⟨nx, 3, none⟩ (.int .i64 r.2.2.2) := cell_of hFn rfl
  rw [← hF]
  clear hF
  repeat (first | (refine OpsL.p (by subst_vars; decide) (by (first | (exact aop_assign (by (first | (simp only [ASt.ev, tmPut, ↓reduceIte, Nat.reduceEqDiff, *]; rfl)))) | (exact aop_fieldAddr (by (first | (simp only [ASt.ev, tmPut, ↓reduceIte, Nat.reduceEqDiff, *]; rfl))) (by exact rfl)) | (exact aop_load (by (first | (simp only [ASt.ev, tmPut, ↓reduceIte, Nat.reduceEqDiff, *]; rfl))) (by exact rfl) rfl (by assumption)))) ?_) | (refine Trip.seq ?_) | (refine Trip.ops ?_) | (refine OpsL.nil ?_; (change Trip _ _ _ _ _)))
  refine OpsL.callV1 (cap := #[.pointer (some ⟨b3, 0, none⟩)]) (by subst_vars; decide) (by (first | (simp only [ASt.ev, tmPut, ↓reduceIte, Nat.reduceEqDiff, *]; done))) (by (first | (simp only [ASt.ev, tmPut, ↓reduceIte, Nat.reduceEqDiff, *]; rfl))) entersState (stateC W0 _ cN) ?_
  rintro v2 n2 H2 ⟨rfl, rfl, rfl⟩
  cases hs1 : stF a.N r.1
  · repeat' (first | (refine OpsL.p (by subst_vars; decide) (by (first | (exact aop_move (by (first | (simp only [ASt.ev, tmPut, ↓reduceIte, Nat.reduceEqDiff, *]; rfl)))) | (exact aop_assign (by (first | (simp only [ASt.ev, tmPut, ↓reduceIte, Nat.reduceEqDiff, *]; rfl)))) | (exact aop_pickF (by (first | (simp only [ASt.ev, tmPut, ↓reduceIte, Nat.reduceEqDiff, *]; done) | (simp only [ASt.ev, tmPut, ↓reduceIte, Nat.reduceEqDiff, *]; rfl))) (by (first | (simp only [ASt.ev, tmPut, ↓reduceIte, Nat.reduceEqDiff, *]; rfl)))))) ?_) | (refine Trip.ret ?_; (dsimp only)) | (refine OpsL.nil ?_; (change Trip _ _ _ _ _)) | (refine OpsL.skipped (by exact rfl) (by (first | (simp only [ASt.ev, tmPut, ↓reduceIte, Nat.reduceEqDiff, *]; done) | (simp only [ASt.ev, tmPut, ↓reduceIte, Nat.reduceEqDiff, *]; rfl))) (by subst_vars; decide) ?_))
    exact ⟨.inr rfl, _, res_tmp, by simp [tmPut, okO, *], hx0⟩
  repeat' (first | (refine OpsL.p (by subst_vars; decide) (by (first | (exact aop_move (by (first | (simp only [ASt.ev, tmPut, ↓reduceIte, Nat.reduceEqDiff, *]; rfl)))) | (exact aop_fieldAddr (by (first | (simp only [ASt.ev, tmPut, ↓reduceIte, Nat.reduceEqDiff, *]; rfl))) (by exact rfl)) | (exact aop_load (by (first | (simp only [ASt.ev, tmPut, ↓reduceIte, Nat.reduceEqDiff, *]; rfl))) (by exact rfl) rfl (by assumption)))) ?_) | (refine OpsL.unguard (by exact rfl) (by (first | (simp only [ASt.ev, tmPut, ↓reduceIte, Nat.reduceEqDiff, *]; done))) ?_))
  refine OpsL.callV2 (cap := #[.pointer (some ⟨b2, 0, none⟩)]) (by subst_vars; decide) (by (first | (simp only [ASt.ev, tmPut, ↓reduceIte, Nat.reduceEqDiff, *]; done))) (by (first | (simp only [ASt.ev, tmPut, ↓reduceIte, Nat.reduceEqDiff, *]; rfl))) (by (first | (simp only [ASt.ev, tmPut, ↓reduceIte, Nat.reduceEqDiff, *]; rfl))) entersKind (kindC W0 _ _ c2 hl hss) ?_
  rintro v2 n2 H2 ⟨rfl, rfl, rfl⟩
  cases hs2 : kdF ss r.2.1 1
  · repeat' (first | (refine OpsL.p (by subst_vars; decide) (by (first | (exact aop_move (by (first | (simp only [ASt.ev, tmPut, ↓reduceIte, Nat.reduceEqDiff, *]; rfl)))) | (exact aop_assign (by (first | (simp only [ASt.ev, tmPut, ↓reduceIte, Nat.reduceEqDiff, *]; rfl)))) | (exact aop_pickT (by (first | (simp only [ASt.ev, tmPut, ↓reduceIte, Nat.reduceEqDiff, *]; done) | (simp only [ASt.ev, tmPut, ↓reduceIte, Nat.reduceEqDiff, *]; rfl))) (by (first | (simp only [ASt.ev, tmPut, ↓reduceIte, Nat.reduceEqDiff, *]; rfl)))) | (exact aop_pickF (by (first | (simp only [ASt.ev, tmPut, ↓reduceIte, Nat.reduceEqDiff, *]; done) | (simp only [ASt.ev, tmPut, ↓reduceIte, Nat.reduceEqDiff, *]; rfl))) (by (first | (simp only [ASt.ev, tmPut, ↓reduceIte, Nat.reduceEqDiff, *]; rfl)))))) ?_) | (refine Trip.ret ?_; (dsimp only)) | (refine OpsL.nil ?_; (change Trip _ _ _ _ _)) | (refine OpsL.skipped (by exact rfl) (by (first | (simp only [ASt.ev, tmPut, ↓reduceIte, Nat.reduceEqDiff, *]; done) | (simp only [ASt.ev, tmPut, ↓reduceIte, Nat.reduceEqDiff, *]; rfl))) (by subst_vars; decide) ?_))
    exact ⟨.inr rfl, _, res_tmp, by simp [tmPut, okO, *], hx0⟩
  repeat' (first | (refine OpsL.p (by subst_vars; decide) (by (first | (exact aop_move (by (first | (simp only [ASt.ev, tmPut, ↓reduceIte, Nat.reduceEqDiff, *]; rfl)))) | (exact aop_fieldAddr (by (first | (simp only [ASt.ev, tmPut, ↓reduceIte, Nat.reduceEqDiff, *]; rfl))) (by exact rfl)) | (exact aop_load (by (first | (simp only [ASt.ev, tmPut, ↓reduceIte, Nat.reduceEqDiff, *]; rfl))) (by exact rfl) rfl (by assumption)) | (exact aop_pickT (by (first | (simp only [ASt.ev, tmPut, ↓reduceIte, Nat.reduceEqDiff, *]; done))) (by (first | (simp only [ASt.ev, tmPut, ↓reduceIte, Nat.reduceEqDiff, *]; rfl)))))) ?_) | (refine OpsL.unguard (by exact rfl) (by (first | (simp only [ASt.ev, tmPut, ↓reduceIte, Nat.reduceEqDiff, *]; done))) ?_))
  refine OpsL.callV1 (cap := #[.pointer (some ⟨b3, 0, none⟩)]) (by subst_vars; decide) (by (first | (simp only [ASt.ev, tmPut, ↓reduceIte, Nat.reduceEqDiff, *]; done))) (by (first | (simp only [ASt.ev, tmPut, ↓reduceIte, Nat.reduceEqDiff, *]; rfl))) entersState (stateC W0 _ cN) ?_
  rintro v2 n2 H2 ⟨rfl, rfl, rfl⟩
  cases hs3 : stF a.N r.2.2.1
  · repeat' (first | (refine OpsL.p (by subst_vars; decide) (by (first | (exact aop_move (by (first | (simp only [ASt.ev, tmPut, ↓reduceIte, Nat.reduceEqDiff, *]; rfl)))) | (exact aop_assign (by (first | (simp only [ASt.ev, tmPut, ↓reduceIte, Nat.reduceEqDiff, *]; rfl)))) | (exact aop_pickT (by (first | (simp only [ASt.ev, tmPut, ↓reduceIte, Nat.reduceEqDiff, *]; done) | (simp only [ASt.ev, tmPut, ↓reduceIte, Nat.reduceEqDiff, *]; rfl))) (by (first | (simp only [ASt.ev, tmPut, ↓reduceIte, Nat.reduceEqDiff, *]; rfl)))) | (exact aop_pickF (by (first | (simp only [ASt.ev, tmPut, ↓reduceIte, Nat.reduceEqDiff, *]; done) | (simp only [ASt.ev, tmPut, ↓reduceIte, Nat.reduceEqDiff, *]; rfl))) (by (first | (simp only [ASt.ev, tmPut, ↓reduceIte, Nat.reduceEqDiff, *]; rfl)))))) ?_) | (refine Trip.ret ?_; (dsimp only)) | (refine OpsL.nil ?_; (change Trip _ _ _ _ _)) | (refine OpsL.skipped (by exact rfl) (by (first | (simp only [ASt.ev, tmPut, ↓reduceIte, Nat.reduceEqDiff, *]; done) | (simp only [ASt.ev, tmPut, ↓reduceIte, Nat.reduceEqDiff, *]; rfl))) (by subst_vars; decide) ?_))
    exact ⟨.inr rfl, _, res_tmp, by simp [tmPut, okO, *], hx0⟩
  repeat' (first | (refine OpsL.p (by subst_vars; decide) (by (first | (exact aop_move (by (first | (simp only [ASt.ev, tmPut, ↓reduceIte, Nat.reduceEqDiff, *]; rfl)))) | (exact aop_fieldAddr (by (first | (simp only [ASt.ev, tmPut, ↓reduceIte, Nat.reduceEqDiff, *]; rfl))) (by exact rfl)) | (exact aop_load (by (first | (simp only [ASt.ev, tmPut, ↓reduceIte, Nat.reduceEqDiff, *]; rfl))) (by exact rfl) rfl (by assumption)) | (exact aop_pickT (by (first | (simp only [ASt.ev, tmPut, ↓reduceIte, Nat.reduceEqDiff, *]; done))) (by (first | (simp only [ASt.ev, tmPut, ↓reduceIte, Nat.reduceEqDiff, *]; rfl)))))) ?_) | (refine OpsL.unguard (by exact rfl) (by (first | (simp only [ASt.ev, tmPut, ↓reduceIte, Nat.reduceEqDiff, *]; done))) ?_))
  refine OpsL.call3 (by subst_vars; decide) (by (first | (simp only [ASt.ev, tmPut, ↓reduceIte, Nat.reduceEqDiff, *]; rfl))) (by (first | (simp only [ASt.ev, tmPut, ↓reduceIte, Nat.reduceEqDiff, *]; rfl))) (by (first | (simp only [ASt.ev, tmPut, ↓reduceIte, Nat.reduceEqDiff, *]; rfl))) entersBetween (betweenC W0 _ _ _) ?_
  rintro v2 n2 H2 ⟨rfl, rfl, rfl⟩
  repeat' (first | (refine OpsL.p (by subst_vars; decide) (by (first | (exact aop_assign (by (first | (simp only [ASt.ev, tmPut, ↓reduceIte, Nat.reduceEqDiff, *]; rfl)))) | (exact aop_pickT (by (first | (simp only [ASt.ev, tmPut, ↓reduceIte, Nat.reduceEqDiff, *]; done))) (by (first | (simp only [ASt.ev, tmPut, ↓reduceIte, Nat.reduceEqDiff, *]; rfl)))))) ?_) | (refine Trip.ret ?_; (dsimp only)) | (refine OpsL.nil ?_; (change Trip _ _ _ _ _)))
  exact ⟨.inr rfl, _, res_tmp, by simp [tmPut, okO, *], hx0⟩
set_option maxRecDepth 20000 in
set_option maxHeartbeats 8000000 in
theorem closeC (W0 : World) {nx : Nat} {H : Heap} {b2 b3 b5 b6 : Nat} {lv : Value} {ss : List (ByteArray × Int)} {a : Aut} (r : R4) (hc : Ctx H b2 b3 b5 b6 lv a.N a.G) (hl : SymsAt H lv ss) (hss : ss.length ≤ 1000) :
    ACalls Tryz.prog W0 35 [.agg (e4 r).toArray, .pointer (some ⟨b5, 0, none⟩), .pointer (some ⟨b6, 0, none⟩), .pointer (some ⟨b3, 0, none⟩)] nx H fun v nx' H' => v = .bool (okC ss a r) ∧ Ext nx H nx' H' := by
  refine ACalls.by_trip (fn := Tryz.f35) (c := _) Tryz.func35 rfl (fun tm n hn0 htm => ?_)
  have e0 : tm 0 = .agg (e4 r).toArray := htm 0
  have e1 : tm 1 = .pointer (some ⟨b5, 0, none⟩) := htm 1
  have e2 : tm 2 = .pointer (some ⟨b6, 0, none⟩) := htm 2
  have e3 : tm 3 = .pointer (some ⟨b3, 0, none⟩) := htm 3
  clear htm
  replace hn0 : n = 29 := hn0
  refine Trip.ok fun hok => ?_
  replace hok : ∀ id o, H id = some o → id < nx := hok
  refine Trip.seq ?_
  refine Trip.ops ?_
  refine OpsL.new (by subst_vars; decide) (aop_box (by (first | (simp only [ASt.ev, tmPut, ↓reduceIte, Nat.reduceEqDiff, *]; rfl)))) ?_
  obtain ⟨F, hF⟩ : ∃ F, F = H.put nx (.cells (Value.agg (e4 r).toArray).cells.toList 0 none false (some 38)) := ⟨_, rfl⟩
  have hx0 : Ext nx H (nx + 1) F := by rw [hF]; exact Ext.newPut
  have hFn : F nx = some (.cells (e4 r) 0 none false (some 38)) := by rw [hF, Heap.put_eq]; rfl
  obtain ⟨c2, cN, cG, c5, c6⟩ := hc.ext hx0 hok
  replace hl := hl.ext hx0 hok
  have g0 : cellAt F ⟨nx, 0, none⟩ (.int .i64 r.1) := cell_of hFn rfl
  have g1 : cellAt F ⟨nx, 1, none⟩ (.int .i64 r.2.1) := cell_of hFn rfl
  have g2 : cellAt F ⟨nx, 2, none⟩ (.int .i64 r.2.2.1) := cell_of hFn rfl
  have g3 : cellAt F ⟨nx, 3, none⟩ (.int .i64 r.2.2.2) := cell_of hFn rfl
  rw [← hF]
  clear hF
  repeat (first | (refine OpsL.p (by subst_vars; decide) (by (first | (exact aop_assign (by (first | (simp only [ASt.ev, tmPut, ↓reduceIte, Nat.reduceEqDiff, *]; rfl)))) | (exact aop_fieldAddr (by (first | (simp only [ASt.ev, tmPut, ↓reduceIte, Nat.reduceEqDiff, *]; rfl))) (by exact rfl)) | (exact aop_load (by (first | (simp only [ASt.ev, tmPut, ↓reduceIte, Nat.reduceEqDiff, *]; rfl))) (by exact rfl) rfl (by assumption)))) ?_) | (refine Trip.seq ?_) | (refine Trip.ops ?_) | (refine OpsL.nil ?_; (change Trip _ _ _ _ _)))
  refine OpsL.callV1 (cap := #[.pointer (some ⟨b3, 0, none⟩)]) (by subst_vars; decide) (by (first | (simp only [ASt.ev, tmPut, ↓reduceIte, Nat.reduceEqDiff, *]; done))) (by (first | (simp only [ASt.ev, tmPut, ↓reduceIte, Nat.reduceEqDiff, *]; rfl))) entersState (stateC W0 _ cN) ?_
  rintro v2 n2 H2 ⟨rfl, rfl, rfl⟩
  cases hs1 : stF a.N r.1
  · repeat' (first | (refine OpsL.p (by subst_vars; decide) (by (first | (exact aop_move (by (first | (simp only [ASt.ev, tmPut, ↓reduceIte, Nat.reduceEqDiff, *]; rfl)))) | (exact aop_assign (by (first | (simp only [ASt.ev, tmPut, ↓reduceIte, Nat.reduceEqDiff, *]; rfl)))) | (exact aop_pickF (by (first | (simp only [ASt.ev, tmPut, ↓reduceIte, Nat.reduceEqDiff, *]; done) | (simp only [ASt.ev, tmPut, ↓reduceIte, Nat.reduceEqDiff, *]; rfl))) (by (first | (simp only [ASt.ev, tmPut, ↓reduceIte, Nat.reduceEqDiff, *]; rfl)))))) ?_) | (refine Trip.ret ?_; (dsimp only)) | (refine OpsL.nil ?_; (change Trip _ _ _ _ _)) | (refine OpsL.skipped (by exact rfl) (by (first | (simp only [ASt.ev, tmPut, ↓reduceIte, Nat.reduceEqDiff, *]; done) | (simp only [ASt.ev, tmPut, ↓reduceIte, Nat.reduceEqDiff, *]; rfl))) (by subst_vars; decide) ?_))
    exact ⟨.inr rfl, _, res_tmp, by simp [tmPut, okC, *], hx0⟩
  repeat' (first | (refine OpsL.p (by subst_vars; decide) (by (first | (exact aop_move (by (first | (simp only [ASt.ev, tmPut, ↓reduceIte, Nat.reduceEqDiff, *]; rfl)))) | (exact aop_fieldAddr (by (first | (simp only [ASt.ev, tmPut, ↓reduceIte, Nat.reduceEqDiff, *]; rfl))) (by exact rfl)) | (exact aop_load (by (first | (simp only [ASt.ev, tmPut, ↓reduceIte, Nat.reduceEqDiff, *]; rfl))) (by exact rfl) rfl (by assumption)))) ?_) | (refine OpsL.unguard (by exact rfl) (by (first | (simp only [ASt.ev, tmPut, ↓reduceIte, Nat.reduceEqDiff, *]; done))) ?_))
  refine OpsL.callV2 (cap := #[.pointer (some ⟨b2, 0, none⟩)]) (by subst_vars; decide) (by (first | (simp only [ASt.ev, tmPut, ↓reduceIte, Nat.reduceEqDiff, *]; done))) (by (first | (simp only [ASt.ev, tmPut, ↓reduceIte, Nat.reduceEqDiff, *]; rfl))) (by (first | (simp only [ASt.ev, tmPut, ↓reduceIte, Nat.reduceEqDiff, *]; rfl))) entersKind (kindC W0 _ _ c2 hl hss) ?_
  rintro v2 n2 H2 ⟨rfl, rfl, rfl⟩
  cases hs2 : kdF ss r.2.1 2
  · repeat' (first | (refine OpsL.p (by subst_vars; decide) (by (first | (exact aop_move (by (first | (simp only [ASt.ev, tmPut, ↓reduceIte, Nat.reduceEqDiff, *]; rfl)))) | (exact aop_assign (by (first | (simp only [ASt.ev, tmPut, ↓reduceIte, Nat.reduceEqDiff, *]; rfl)))) | (exact aop_pickT (by (first | (simp only [ASt.ev, tmPut, ↓reduceIte, Nat.reduceEqDiff, *]; done) | (simp only [ASt.ev, tmPut, ↓reduceIte, Nat.reduceEqDiff, *]; rfl))) (by (first | (simp only [ASt.ev, tmPut, ↓reduceIte, Nat.reduceEqDiff, *]; rfl)))) | (exact aop_pickF (by (first | (simp only [ASt.ev, tmPut, ↓reduceIte, Nat.reduceEqDiff, *]; done) | (simp only [ASt.ev, tmPut, ↓reduceIte, Nat.reduceEqDiff, *]; rfl))) (by (first | (simp only [ASt.ev, tmPut, ↓reduceIte, Nat.reduceEqDiff, *]; rfl)))))) ?_) | (refine Trip.ret ?_; (dsimp only)) | (refine OpsL.nil ?_; (change Trip _ _ _ _ _)) | (refine OpsL.skipped (by exact rfl) (by (first | (simp only [ASt.ev, tmPut, ↓reduceIte, Nat.reduceEqDiff, *]; done) | (simp only [ASt.ev, tmPut, ↓reduceIte, Nat.reduceEqDiff, *]; rfl))) (by subst_vars; decide) ?_))
    exact ⟨.inr rfl, _, res_tmp, by simp [tmPut, okC, *], hx0⟩
  repeat' (first | (refine OpsL.p (by subst_vars; decide) (by (first | (exact aop_move (by (first | (simp only [ASt.ev, tmPut, ↓reduceIte, Nat.reduceEqDiff, *]; rfl)))) | (exact aop_fieldAddr (by (first | (simp only [ASt.ev, tmPut, ↓reduceIte, Nat.reduceEqDiff, *]; rfl))) (by exact rfl)) | (exact aop_load (by (first | (simp only [ASt.ev, tmPut, ↓reduceIte, Nat.reduceEqDiff, *]; rfl))) (by exact rfl) rfl (by assumption)) | (exact aop_pickT (by (first | (simp only [ASt.ev, tmPut, ↓reduceIte, Nat.reduceEqDiff, *]; done))) (by (first | (simp only [ASt.ev, tmPut, ↓reduceIte, Nat.reduceEqDiff, *]; rfl)))))) ?_) | (refine OpsL.unguard (by exact rfl) (by (first | (simp only [ASt.ev, tmPut, ↓reduceIte, Nat.reduceEqDiff, *]; done))) ?_))
  refine OpsL.callV1 (cap := #[.pointer (some ⟨b3, 0, none⟩)]) (by subst_vars; decide) (by (first | (simp only [ASt.ev, tmPut, ↓reduceIte, Nat.reduceEqDiff, *]; done))) (by (first | (simp only [ASt.ev, tmPut, ↓reduceIte, Nat.reduceEqDiff, *]; rfl))) entersState (stateC W0 _ cN) ?_
  rintro v2 n2 H2 ⟨rfl, rfl, rfl⟩
  cases hs3 : stF a.N r.2.2.2
  · repeat' (first | (refine OpsL.p (by subst_vars; decide) (by (first | (exact aop_move (by (first | (simp only [ASt.ev, tmPut, ↓reduceIte, Nat.reduceEqDiff, *]; rfl)))) | (exact aop_assign (by (first | (simp only [ASt.ev, tmPut, ↓reduceIte, Nat.reduceEqDiff, *]; rfl)))) | (exact aop_pickT (by (first | (simp only [ASt.ev, tmPut, ↓reduceIte, Nat.reduceEqDiff, *]; done) | (simp only [ASt.ev, tmPut, ↓reduceIte, Nat.reduceEqDiff, *]; rfl))) (by (first | (simp only [ASt.ev, tmPut, ↓reduceIte, Nat.reduceEqDiff, *]; rfl)))) | (exact aop_pickF (by (first | (simp only [ASt.ev, tmPut, ↓reduceIte, Nat.reduceEqDiff, *]; done) | (simp only [ASt.ev, tmPut, ↓reduceIte, Nat.reduceEqDiff, *]; rfl))) (by (first | (simp only [ASt.ev, tmPut, ↓reduceIte, Nat.reduceEqDiff, *]; rfl)))))) ?_) | (refine Trip.ret ?_; (dsimp only)) | (refine OpsL.nil ?_; (change Trip _ _ _ _ _)) | (refine OpsL.skipped (by exact rfl) (by (first | (simp only [ASt.ev, tmPut, ↓reduceIte, Nat.reduceEqDiff, *]; done) | (simp only [ASt.ev, tmPut, ↓reduceIte, Nat.reduceEqDiff, *]; rfl))) (by subst_vars; decide) ?_))
    exact ⟨.inr rfl, _, res_tmp, by simp [tmPut, okC, *], hx0⟩
  repeat' (first | (refine OpsL.p (by subst_vars; decide) (by (first | (exact aop_move (by (first | (simp only [ASt.ev, tmPut, ↓reduceIte, Nat.reduceEqDiff, *]; rfl)))) | (exact aop_fieldAddr (by (first | (simp only [ASt.ev, tmPut, ↓reduceIte, Nat.reduceEqDiff, *]; rfl))) (by exact rfl)) | (exact aop_load (by (first | (simp only [ASt.ev, tmPut, ↓reduceIte, Nat.reduceEqDiff, *]; rfl))) (by exact rfl) rfl (by assumption)) | (exact aop_pickT (by (first | (simp only [ASt.ev, tmPut, ↓reduceIte, Nat.reduceEqDiff, *]; done))) (by (first | (simp only [ASt.ev, tmPut, ↓reduceIte, Nat.reduceEqDiff, *]; rfl)))))) ?_) | (refine OpsL.unguard (by exact rfl) (by (first | (simp only [ASt.ev, tmPut, ↓reduceIte, Nat.reduceEqDiff, *]; done))) ?_))
  refine OpsL.call3 (by subst_vars; decide) (by (first | (simp only [ASt.ev, tmPut, ↓reduceIte, Nat.reduceEqDiff, *]; rfl))) (by (first | (simp only [ASt.ev, tmPut, ↓reduceIte, Nat.reduceEqDiff, *]; rfl))) (by (first | (simp only [ASt.ev, tmPut, ↓reduceIte, Nat.reduceEqDiff, *]; rfl))) entersBetween (betweenC W0 _ _ _) ?_
  rintro v2 n2 H2 ⟨rfl, rfl, rfl⟩
  repeat' (first | (refine OpsL.p (by subst_vars; decide) (by (first | (exact aop_assign (by (first | (simp only [ASt.ev, tmPut, ↓reduceIte, Nat.reduceEqDiff, *]; rfl)))) | (exact aop_pickT (by (first | (simp only [ASt.ev, tmPut, ↓reduceIte, Nat.reduceEqDiff, *]; done))) (by (first | (simp only [ASt.ev, tmPut, ↓reduceIte, Nat.reduceEqDiff, *]; rfl)))))) ?_) | (refine Trip.ret ?_; (dsimp only)) | (refine OpsL.nil ?_; (change Trip _ _ _ _ _)))
  exact ⟨.inr rfl, _, res_tmp, by simp [tmPut, okC, *], hx0⟩
set_option maxRecDepth 20000 in
set_option maxHeartbeats 8000000 in
theorem stayC (W0 : World) {nx : Nat} {H : Heap} {b2 b3 b5 b6 : Nat} {lv : Value} {ss : List (ByteArray × Int)} {a : Aut} (r : R3) (hc : Ctx H b2 b3 b5 b6 lv a.N a.G) (hl : SymsAt H lv ss) (hss : ss.length ≤ 1000) :
    ACalls Tryz.prog W0 36 [.agg (e3 r).toArray, .pointer (some ⟨b5, 0, none⟩), .pointer (some ⟨b6, 0, none⟩)] nx H fun v nx' H' => v = .bool (okI ss a r) ∧ Ext nx H nx' H' := by
  refine ACalls.by_trip (fn := Tryz.f36) (c := _) Tryz.func36 rfl (fun tm n hn0 htm => ?_)
  have e0 : tm 0 = .agg (e3 r).toArray := htm 0
  have e1 : tm 1 = .pointer (some ⟨b5, 0, none⟩) := htm 1
  have e2 : tm 2 = .pointer (some ⟨b6, 0, none⟩) := htm 2
  clear htm
  replace hn0 : n = 21 := hn0
  refine Trip.ok fun hok => ?_
  replace hok : ∀ id o, H id = some o → id < nx := hok
  refine Trip.seq ?_
  refine Trip.ops ?_
  refine OpsL.new (by subst_vars; decide) (aop_box (by (first | (simp only [ASt.ev, tmPut, ↓reduceIte, Nat.reduceEqDiff, *]; rfl)))) ?_
  obtain ⟨F, hF⟩ : ∃ F, F = H.put nx (.cells (Value.agg (e3 r).toArray).cells.toList 0 none false (some 40)) := ⟨_, rfl⟩
  have hx0 : Ext nx H (nx + 1) F := by rw [hF]; exact Ext.newPut
  have hFn : F nx = some (.cells (e3 r) 0 none false (some 40)) := by rw [hF, Heap.put_eq]; rfl
  obtain ⟨c2, cN, cG, c5, c6⟩ := hc.ext hx0 hok
  replace hl := hl.ext hx0 hok
  have g0 : cellAt F ⟨nx, 0, none⟩ (.int .i64 r.1) := cell_of hFn rfl
  have g1 : cellAt F ⟨nx, 1, none⟩ (.int .i64 r.2.1) := cell_of hFn rfl
  have g2 : cellAt F ⟨nx, 2, none⟩ (.int .i64 r.2.2) := cell_of hFn rfl
  rw [← hF]
  clear hF
  repeat (first | (refine OpsL.p (by subst_vars; decide) (by (first | (exact aop_assign (by (first | (simp only [ASt.ev, tmPut, ↓reduceIte, Nat.reduceEqDiff, *]; rfl)))) | (exact aop_fieldAddr (by (first | (simp only [ASt.ev, tmPut, ↓reduceIte, Nat.reduceEqDiff, *]; rfl))) (by exact rfl)) | (exact aop_load (by (first | (simp only [ASt.ev, tmPut, ↓reduceIte, Nat.reduceEqDiff, *]; rfl))) (by exact rfl) rfl (by assumption)))) ?_) | (refine Trip.seq ?_) | (refine Trip.ops ?_) | (refine OpsL.nil ?_; (change Trip _ _ _ _ _)))
  refine OpsL.callV1 (cap := #[.pointer (some ⟨b3, 0, none⟩)]) (by subst_vars; decide) (by (first | (simp only [ASt.ev, tmPut, ↓reduceIte, Nat.reduceEqDiff, *]; done))) (by (first | (simp only [ASt.ev, tmPut, ↓reduceIte, Nat.reduceEqDiff, *]; rfl))) entersState (stateC W0 _ cN) ?_
  rintro v2 n2 H2 ⟨rfl, rfl, rfl⟩
  cases hs1 : stF a.N r.1
  · repeat' (first | (refine OpsL.p (by subst_vars; decide) (by (first | (exact aop_move (by (first | (simp only [ASt.ev, tmPut, ↓reduceIte, Nat.reduceEqDiff, *]; rfl)))) | (exact aop_assign (by (first | (simp only [ASt.ev, tmPut, ↓reduceIte, Nat.reduceEqDiff, *]; rfl)))) | (exact aop_pickF (by (first | (simp only [ASt.ev, tmPut, ↓reduceIte, Nat.reduceEqDiff, *]; done) | (simp only [ASt.ev, tmPut, ↓reduceIte, Nat.reduceEqDiff, *]; rfl))) (by (first | (simp only [ASt.ev, tmPut, ↓reduceIte, Nat.reduceEqDiff, *]; rfl)))))) ?_) | (refine Trip.ret ?_; (dsimp only)) | (refine OpsL.nil ?_; (change Trip _ _ _ _ _)) | (refine OpsL.skipped (by exact rfl) (by (first | (simp only [ASt.ev, tmPut, ↓reduceIte, Nat.reduceEqDiff, *]; done) | (simp only [ASt.ev, tmPut, ↓reduceIte, Nat.reduceEqDiff, *]; rfl))) (by subst_vars; decide) ?_))
    exact ⟨.inr rfl, _, res_tmp, by simp [tmPut, okI, *], hx0⟩
  repeat' (first | (refine OpsL.p (by subst_vars; decide) (by (first | (exact aop_move (by (first | (simp only [ASt.ev, tmPut, ↓reduceIte, Nat.reduceEqDiff, *]; rfl)))) | (exact aop_fieldAddr (by (first | (simp only [ASt.ev, tmPut, ↓reduceIte, Nat.reduceEqDiff, *]; rfl))) (by exact rfl)) | (exact aop_load (by (first | (simp only [ASt.ev, tmPut, ↓reduceIte, Nat.reduceEqDiff, *]; rfl))) (by exact rfl) rfl (by assumption)))) ?_) | (refine OpsL.unguard (by exact rfl) (by (first | (simp only [ASt.ev, tmPut, ↓reduceIte, Nat.reduceEqDiff, *]; done))) ?_))
  refine OpsL.callV2 (cap := #[.pointer (some ⟨b2, 0, none⟩)]) (by subst_vars; decide) (by (first | (simp only [ASt.ev, tmPut, ↓reduceIte, Nat.reduceEqDiff, *]; done))) (by (first | (simp only [ASt.ev, tmPut, ↓reduceIte, Nat.reduceEqDiff, *]; rfl))) (by (first | (simp only [ASt.ev, tmPut, ↓reduceIte, Nat.reduceEqDiff, *]; rfl))) entersKind (kindC W0 _ _ c2 hl hss) ?_
  rintro v2 n2 H2 ⟨rfl, rfl, rfl⟩
  cases hs2 : kdF ss r.2.1 3
  · repeat' (first | (refine OpsL.p (by subst_vars; decide) (by (first | (exact aop_move (by (first | (simp only [ASt.ev, tmPut, ↓reduceIte, Nat.reduceEqDiff, *]; rfl)))) | (exact aop_assign (by (first | (simp only [ASt.ev, tmPut, ↓reduceIte, Nat.reduceEqDiff, *]; rfl)))) | (exact aop_pickT (by (first | (simp only [ASt.ev, tmPut, ↓reduceIte, Nat.reduceEqDiff, *]; done) | (simp only [ASt.ev, tmPut, ↓reduceIte, Nat.reduceEqDiff, *]; rfl))) (by (first | (simp only [ASt.ev, tmPut, ↓reduceIte, Nat.reduceEqDiff, *]; rfl)))) | (exact aop_pickF (by (first | (simp only [ASt.ev, tmPut, ↓reduceIte, Nat.reduceEqDiff, *]; done) | (simp only [ASt.ev, tmPut, ↓reduceIte, Nat.reduceEqDiff, *]; rfl))) (by (first | (simp only [ASt.ev, tmPut, ↓reduceIte, Nat.reduceEqDiff, *]; rfl)))))) ?_) | (refine Trip.ret ?_; (dsimp only)) | (refine OpsL.nil ?_; (change Trip _ _ _ _ _)) | (refine OpsL.skipped (by exact rfl) (by (first | (simp only [ASt.ev, tmPut, ↓reduceIte, Nat.reduceEqDiff, *]; done) | (simp only [ASt.ev, tmPut, ↓reduceIte, Nat.reduceEqDiff, *]; rfl))) (by subst_vars; decide) ?_))
    exact ⟨.inr rfl, _, res_tmp, by simp [tmPut, okI, *], hx0⟩
  repeat' (first | (refine OpsL.p (by subst_vars; decide) (by (first | (exact aop_move (by (first | (simp only [ASt.ev, tmPut, ↓reduceIte, Nat.reduceEqDiff, *]; rfl)))) | (exact aop_fieldAddr (by (first | (simp only [ASt.ev, tmPut, ↓reduceIte, Nat.reduceEqDiff, *]; rfl))) (by exact rfl)) | (exact aop_load (by (first | (simp only [ASt.ev, tmPut, ↓reduceIte, Nat.reduceEqDiff, *]; rfl))) (by exact rfl) rfl (by assumption)) | (exact aop_pickT (by (first | (simp only [ASt.ev, tmPut, ↓reduceIte, Nat.reduceEqDiff, *]; done))) (by (first | (simp only [ASt.ev, tmPut, ↓reduceIte, Nat.reduceEqDiff, *]; rfl)))))) ?_) | (refine OpsL.unguard (by exact rfl) (by (first | (simp only [ASt.ev, tmPut, ↓reduceIte, Nat.reduceEqDiff, *]; done))) ?_))
  refine OpsL.callV1 (cap := #[.pointer (some ⟨b3, 0, none⟩)]) (by subst_vars; decide) (by (first | (simp only [ASt.ev, tmPut, ↓reduceIte, Nat.reduceEqDiff, *]; done))) (by (first | (simp only [ASt.ev, tmPut, ↓reduceIte, Nat.reduceEqDiff, *]; rfl))) entersState (stateC W0 _ cN) ?_
  rintro v2 n2 H2 ⟨rfl, rfl, rfl⟩
  cases hs3 : stF a.N r.2.2
  all_goals
    repeat' (first | (refine OpsL.p (by subst_vars; decide) (by (first | (exact aop_assign (by (first | (simp only [ASt.ev, tmPut, ↓reduceIte, Nat.reduceEqDiff, *]; rfl)))) | (exact aop_pickT (by (first | (simp only [ASt.ev, tmPut, ↓reduceIte, Nat.reduceEqDiff, *]; done))) (by (first | (simp only [ASt.ev, tmPut, ↓reduceIte, Nat.reduceEqDiff, *]; rfl)))))) ?_) | (refine Trip.ret ?_; (dsimp only)) | (refine OpsL.nil ?_; (change Trip _ _ _ _ _)))
    exact ⟨.inr rfl, _, res_tmp, by simp [tmPut, okI, *], hx0⟩
end Go.Proofs.YtmhikbgegdphnaaGreat
