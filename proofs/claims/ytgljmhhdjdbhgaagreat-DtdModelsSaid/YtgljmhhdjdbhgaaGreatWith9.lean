/-
  Sets of states laid into one: the one call of dtd that goes through two hundred places, told whole.
-/
import Derived.Test.YtgljmhhdjdbhgaaGreatRows
import Derived.Test.YtgljmhhdjdbhgaaGreatAmTC
import Derived.Test.YtgljmhhdjdbhgaaGreatAmY
namespace Go.Am
set_option linter.unusedSimpArgs false
set_option linter.unusedVariables false
open Go.RowKit
attribute [local irreducible] aop OpsL Trip blockExit OpsD

/-- Plain data, and aggregates of it. -/
def plain2 : Value → Bool
  | .agg a => a.toList.all plain1
  | v => plain1 v

theorem plain2_VR {nx : Nat} {H : Heap} {C : Corr} {v : Value} (h : plain2 v = true) : VR nx H C v v := by
  cases v with
  | agg a =>
    refine .agg a a rfl fun i p q => plain1_VR (List.all_eq_true.1 h _ ?_)
    simp
  | _ => exact plain1_VR h

theorem plain1_eq {nx : Nat} {H : Heap} {C : Corr} {v v' : Value} (h : plain1 v = true) (hv : VR nx H C v v') : v' = v := by
  cases hv <;> first | rfl | (simp [plain1] at h)

theorem plain2_eq {nx : Nat} {H : Heap} {C : Corr} {v v' : Value} (h : plain2 v = true) (hv : VR nx H C v v') : v' = v := by
  cases hv with
  | agg a a' ha h1 =>
    congr 1
    apply Array.ext ha.symm
    intro i p q
    refine plain1_eq (List.all_eq_true.1 h _ ?_) (h1 i q p)
    simp
  | _ => first | rfl | (simp [plain2, plain1] at h)

variable {P : Program} {W0 : World}
theorem plain2_VRs {nx : Nat} {H : Heap} {C : Corr} {l : List Value} (h : l.all plain2 = true) : VRs nx H C l l := ⟨rfl, fun i p _ => plain2_VR (List.all_eq_true.1 h _ (List.getElem_mem p))⟩

/-- What a call of plain data answers, worked out on a heap of nothing, may be taken as told. -/
theorem told_of_acalls {f : FuncId} {args : List Value} {r : Value} (hf : Enters P f) (ha : args.all plain2 = true) (hr : plain2 r = true)
    (h : ∀ w nx H, ACalls P w f args nx H fun v _ _ => v = r) : AsTold P W0 (f, args, r) := by
  refine ⟨hf, fun nx H C w args' hR hargs => ?_⟩
  have hargs' : args' = args := by
    apply List.ext_getElem hargs.1.symm
    intro i p q
    exact plain2_eq (List.all_eq_true.1 ha args[i] (List.getElem_mem q)) (hargs.2 i q p)
  subst hargs'
  refine (h w NG (tabTree []).get (Corr.tab w) w args' (Rel.tabs Tabs.nil (Below.refl _ _)) (plain2_VRs ha)).mono ?_
  rintro e w' ⟨v, v', C', nx', H', rfl, rfl, hR', hv, hS⟩
  obtain rfl := plain2_eq hr hv
  exact ⟨_, _, C, nx, H, rfl, ⟨rfl, rfl, rfl⟩, hR.world (hR.below.trans (hR'.below.mono hR.below.size)) (fun k hk => hR'.below.block k hk), plain2_VR hr, Stp.refl _ _ _⟩

variable {nx : Nat} {H : Heap} {ev : Operand → Option Value} {dst : Option Tmp} {type : TypeId} {pos : String} {after : Array Edge} {guard : Option (Nat × Bool)}
theorem aop_indexAddrA {t e : TypeId} {x i : Operand} {a : Addr} {len sz : Nat} {k : IntKind} {j : Int} (hx : ev x = some (.pointer (some a))) (hi : ev i = some (.int k j)) (hu : P.underlying t = some (.array len e)) (hs : szOf P e = some sz) (h0 : 0 ≤ j) (h1 : j < len) :
    aop P H nx ev ⟨dst, .indexAddr t x i, type, pos, after, guard⟩ = some (.pointer (some ⟨a.block, a.off + j.toNat * sz, a.spot⟩), .none) := by
  simp [aop, aIndexAddr, hx, hi, hu, hs, h0, h1]
theorem aop_indexA {t e : TypeId} {x i : Operand} {cs : Array Value} {len : Nat} {d : TypeDesc} {k : IntKind} {j : Int} {v : Value} (hx : ev x = some (.agg cs)) (hi : ev i = some (.int k j)) (hu : P.underlying t = some (.array len e)) (hs : szOf P e = some 1) (hd : P.underlying e = some d) (ha : isAggD d = false) (h0 : 0 ≤ j) (h1 : j < len) (hv : cs.toList[j.toNat]? = some v) :
    aop P H nx ev ⟨dst, .index t x i, type, pos, after, guard⟩ = some (v, .none) := by
  have hv' : cs[j.toNat]? = some v := by simpa using hv
  simp [aop, aIndex, getPart, hx, hi, hu, hs, hd, ha, h0, h1, hv']

/-! ### rows of yes and no -/
def bv (l : List Bool) : List Value := l.map .bool
def orL (s t : List Bool) : List Bool := List.zipWith (· || ·) s t
/-- What stands there once so many places have been gone through. -/
def mixL (s t : List Bool) (i : Nat) : List Bool := orL (s.take i) (t.take i) ++ s.drop i
theorem mixL_len {s t : List Bool} (h : s.length = t.length) (i : Nat) : (mixL s t i).length = s.length := by
  simp [mixL, orL]; omega
theorem mixL_zero {s t : List Bool} : mixL s t 0 = s := by simp [mixL, orL]
theorem mixL_all {s t : List Bool} (h : s.length = t.length) : mixL s t s.length = orL s t := by
  unfold mixL
  rw [List.take_length, h, List.take_length, List.drop_eq_nil_of_le (by omega), List.append_nil]
theorem mixL_at {s t : List Bool} (h : s.length = t.length) {i : Nat} (hi : i < s.length) : (mixL s t i)[i]? = some s[i] := by
  unfold mixL orL
  rw [List.getElem?_append_right (by simp; omega)]
  simp only [List.length_zipWith, List.length_take, List.getElem?_drop]
  rw [show i + (i - min (min i s.length) (min i t.length)) = i by omega, List.getElem?_eq_getElem hi]
theorem mixL_set {s t : List Bool} (h : s.length = t.length) {i : Nat} (hi : i < s.length) : (mixL s t i).set i (s[i] || t[i]'(h ▸ hi)) = mixL s t (i + 1) := by
  unfold mixL orL
  rw [List.set_append_right _ _ (by simp; omega)]
  simp only [List.length_zipWith, List.length_take]
  rw [show i - min (min i s.length) (min i t.length) = 0 by omega, List.drop_eq_getElem_cons hi, List.set_cons_zero, List.take_succ_eq_append_getElem hi, List.take_succ_eq_append_getElem (h ▸ hi), List.zipWith_append (by simp; omega)]
  simp
end Go.Am

namespace Go.Proofs.YtgljmhhdjdbhgaaGreat
set_option linter.unusedSimpArgs false
set_option linter.unusedVariables false
open Go.Am Go.RowKit
attribute [local irreducible] aop OpsL Trip blockExit OpsD

theorem bv_toList (l : List Bool) : (bv l).toArray.toList = bv l := rfl
theorem bv_one (l : List Bool) : (bv l).all (·.oneCell') = true := by simp [bv, Value.oneCell']
theorem bv_len (l : List Bool) : (bv l).length = l.length := by simp [bv]
theorem getc_all {H : Heap} {b e : Nat} {cs : List Value} {tg : Option Nat} {ro : Bool} {q : Option TypeId} {m : Nat} (hH : H b = some (.cells cs e tg ro q)) (h : cs.length = m) : getc H ⟨b, 0, tg⟩ m = some cs := by
  unfold getc
  simp only [hH]
  rw [if_pos ⟨trivial, by omega⟩]
  simp [← h]

set_option maxRecDepth 20000 in
set_option maxHeartbeats 4000000 in
theorem withC (W0 : World) {nx : Nat} {H : Heap} (s t : List Bool) (hs : s.length = 200) (ht : t.length = 200) :
    ACalls Tryz.prog W0 124 [.agg (bv s).toArray, .agg (bv t).toArray] nx H fun v _ _ => v = .agg (bv (orL s t)).toArray := by
  have hst : s.length = t.length := by omega
  refine ACalls.by_trip (fn := Tryz.f124) (c := _) Tryz.func124 rfl (fun tm n hn0 htm => ?_)
  have e0 : tm 0 = .agg (bv s).toArray := htm 0
  have e1 : tm 1 = .agg (bv t).toArray := htm 1
  clear htm
  replace hn0 : n = 22 := hn0
  repeat (first | (refine Trip.seq ?_) | (refine Trip.ops ?_) | fail)
  refine OpsL.new (by subst_vars; decide) (aop_box (v := .agg (bv s).toArray) (by (first | (simp only [ASt.ev, tmPut, ↓reduceIte, reduceIte, Nat.reduceEqDiff, plain1, *]; done) | fail))) ?_
  refine OpsL.new (by subst_vars; decide) (aop_box (v := .agg (bv t).toArray) (by (first | (simp only [ASt.ev, tmPut, ↓reduceIte, reduceIte, Nat.reduceEqDiff, plain1, *]; done) | fail))) ?_
  refine OpsL.new (by subst_vars; decide) (aop_alloc (l := rep 200 [.bool false]) (by kernel_rfl)) ?_
  repeat (first | (refine Trip.seq ?_) | (refine Trip.ops ?_) | (refine OpsL.nil ?_; ((repeat (first | refine blockExit_eq ?_ | refine blockExit_ne (by decide) ?_ | refine blockExit_normal ?_ | refine blockExit_ret ?_ | refine blockExit_goto ?_)); first | (change Trip _ _ _ _ _) | dsimp only | skip)) | fail)
  refine OpsL.p (by subst_vars; decide) (aop_loadAgg (k := 200) (vs := bv t) (by (first | (simp only [ASt.ev, tmPut, ↓reduceIte, reduceIte, Nat.reduceEqDiff, plain1, *]; rfl) | fail)) (by exact rfl) rfl (by kernel_rfl) (getc_all (e := 0) (ro := false) (q := some 123) ?_ (by rw [bv_len, ht]))) ?_
  · rw [Heap.put_ne (by omega), Heap.put_eq]
    rfl
  repeat (first | (refine OpsL.p (by subst_vars; decide) (by (first | (exact aop_move (by (first | (simp only [ASt.ev, tmPut, ↓reduceIte, reduceIte, Nat.reduceEqDiff, plain1, *]; rfl) | fail))) | fail)) ?_) | (refine Trip.block ?_) | (refine OpsL.nil ?_; ((repeat (first | refine blockExit_eq ?_ | refine blockExit_ne (by decide) ?_ | refine blockExit_normal ?_ | refine blockExit_ret ?_ | refine blockExit_goto ?_)); first | (change Trip _ _ _ _ _) | dsimp only | skip)) | fail)
  refine Trip.inv (fun (i : Nat) st => ∃ (tm : Nat → Value) (H' : Heap), st = ⟨tm, n, H', nx + 1 + 1 + 1⟩ ∧ H' nx = some (.cells (bv (mixL s t i)) 0 none false (some 123)) ∧ H' (nx + 1 + 1) = some (.cells (rep 200 [.bool false]) 0 none false (some 123)) ∧
      tm 2 = .pointer (some ⟨nx, 0, none⟩) ∧ tm 4 = .pointer (some ⟨nx + 1 + 1, 0, none⟩) ∧ tm 7 = .agg (bv t).toArray ∧ tm 8 = .int .i64 i ∧ i ≤ 200) (fun i => 200 - i) 0 ?_ ?_
  · refine ⟨_, _, rfl, ?_, ?_, rfl, rfl, rfl, rfl, by omega⟩
    · rw [Heap.put_ne (by omega), Heap.put_ne (by omega), Heap.put_eq, mixL_zero]
      rfl
    · rw [Heap.put_eq]
  · rintro i st ⟨tm, H', rfl, hH, hH4, e2, e4, e7, e8, hi⟩
    repeat (first | (refine OpsL.p (by subst_vars; decide) (by (first | (exact aop_move (by (first | (simp only [ASt.ev, tmPut, ↓reduceIte, reduceIte, Nat.reduceEqDiff, plain1, *]; rfl) | fail))) | (exact aop_lss (by (first | (simp only [ASt.ev, tmPut, ↓reduceIte, reduceIte, Nat.reduceEqDiff, plain1, *]; rfl) | fail)) (by (first | (simp only [ASt.ev, tmPut, ↓reduceIte, reduceIte, Nat.reduceEqDiff, plain1, *]; rfl) | fail))) | fail)) ?_) | (refine Trip.seq ?_) | (refine Trip.ops ?_) | (refine Trip.block ?_) | (refine Trip.ite (by (first | (simp only [ASt.ev, tmPut, ↓reduceIte, reduceIte, Nat.reduceEqDiff, plain1, *]; rfl) | fail)) (fun _ => ?_) (fun _ => ?_)) | (refine Trip.skip ?_; ((repeat (first | refine blockExit_eq ?_ | refine blockExit_ne (by decide) ?_ | refine blockExit_normal ?_ | refine blockExit_ret ?_ | refine blockExit_goto ?_)); first | (change Trip _ _ _ _ _) | dsimp only | skip)) | (refine OpsL.nil ?_; ((repeat (first | refine blockExit_eq ?_ | refine blockExit_ne (by decide) ?_ | refine blockExit_normal ?_ | refine blockExit_ret ?_ | refine blockExit_goto ?_)); first | (change Trip _ _ _ _ _) | dsimp only | skip)) | fail)
    · have hlt : i < 200 := by omega
      repeat fail
      refine OpsL.p (by subst_vars; decide) (aop_indexA (v := .bool (t[i]'(by omega))) (by (first | (simp only [ASt.ev, tmPut, ↓reduceIte, reduceIte, Nat.reduceEqDiff, plain1, *]; rfl) | fail)) (by (first | (simp only [ASt.ev, tmPut, ↓reduceIte, reduceIte, Nat.reduceEqDiff, plain1, *]; rfl) | fail)) (by exact rfl) (by kernel_rfl) (by exact rfl) rfl (by omega) (by omega) ?_) ?_
      · show (bv t)[i]? = _
        rw [bv, List.getElem?_map, List.getElem?_eq_getElem (by omega)]
        rfl
      repeat (first | (refine OpsL.p (by subst_vars; decide) (by (first | (exact aop_move (by (first | (simp only [ASt.ev, tmPut, ↓reduceIte, reduceIte, Nat.reduceEqDiff, plain1, *]; rfl) | fail))) | (exact aop_assign (by (first | (simp only [ASt.ev, tmPut, ↓reduceIte, reduceIte, Nat.reduceEqDiff, plain1, *]; rfl) | fail))) | fail)) ?_) | (refine Trip.ops ?_) | (refine OpsL.nil ?_; ((repeat (first | refine blockExit_eq ?_ | refine blockExit_ne (by decide) ?_ | refine blockExit_normal ?_ | refine blockExit_ret ?_ | refine blockExit_goto ?_)); first | (change Trip _ _ _ _ _) | dsimp only | skip)) | fail)
      have hc : cellAt H' ⟨nx, 0 + (i : Int).toNat * 1, none⟩ (.bool (s[i]'(by omega))) := by
        have h1 : i < (bv (mixL s t i)).length := by rw [bv_len, mixL_len hst]; omega
        have := cellAt_own (off := i) hH h1
        have h2 : (bv (mixL s t i))[i] = .bool (s[i]'(by omega)) := by
          have := mixL_at hst (i := i) (by omega)
          rw [List.getElem?_eq_some_iff] at this
          simp [bv, this.2]
        rw [h2] at this
        simpa using this
      have hset : (bv (mixL s t i)).set i (.bool (s[i]'(by omega) || t[i]'(by omega))) = bv (mixL s t (i + 1)) := by
        rw [← mixL_set hst (by omega), bv, bv, List.map_set]
      have hlen : i < (bv (mixL s t i)).length := by rw [bv_len, mixL_len hst]; omega
      generalize (s[i]'(by omega)) = x at hc hset
      generalize (t[i]'(by omega)) = y at hset ⊢
      refine OpsL.p (by subst_vars; decide) (aop_indexAddrA (sz := 1) (by (first | (simp only [ASt.ev, tmPut, ↓reduceIte, reduceIte, Nat.reduceEqDiff, plain1, *]; rfl) | fail)) (by (first | (simp only [ASt.ev, tmPut, ↓reduceIte, reduceIte, Nat.reduceEqDiff, plain1, *]; rfl) | fail)) (by exact rfl) (by kernel_rfl) (by omega) (by omega)) ?_
      cases x
      all_goals
        repeat (first | (refine OpsL.p (by subst_vars; decide) (by (first | (exact aop_move (by (first | (simp only [ASt.ev, tmPut, ↓reduceIte, reduceIte, Nat.reduceEqDiff, plain1, *]; rfl) | fail))) | (exact aop_load (by (first | (simp only [ASt.ev, tmPut, ↓reduceIte, reduceIte, Nat.reduceEqDiff, plain1, *]; rfl) | fail)) (by exact rfl) rfl (by assumption)) | (exact aop_pickT (by (first | (simp only [ASt.ev, tmPut, ↓reduceIte, reduceIte, Nat.reduceEqDiff, decide_true, decide_false, not_true_eq_false, not_false_eq_true, Bool.not_true, Bool.not_false, *]; done) | fail)) (by (first | (simp only [ASt.ev, tmPut, ↓reduceIte, reduceIte, Nat.reduceEqDiff, plain1, *]; rfl) | fail))) | (exact aop_pickF (by (first | (simp only [ASt.ev, tmPut, ↓reduceIte, reduceIte, Nat.reduceEqDiff, decide_true, decide_false, not_true_eq_false, not_false_eq_true, Bool.not_true, Bool.not_false, *]; done) | fail)) (by (first | (simp only [ASt.ev, tmPut, ↓reduceIte, reduceIte, Nat.reduceEqDiff, plain1, *]; rfl) | fail))) | fail)) ?_) | (refine OpsL.unguard (by exact rfl) (by (first | (simp only [ASt.ev, tmPut, ↓reduceIte, reduceIte, Nat.reduceEqDiff, decide_true, decide_false, not_true_eq_false, not_false_eq_true, Bool.not_true, Bool.not_false, *]; done) | fail)) ?_) | (refine OpsL.skipped (by exact rfl) (by (first | (simp only [ASt.ev, tmPut, ↓reduceIte, reduceIte, Nat.reduceEqDiff, decide_true, decide_false, not_true_eq_false, not_false_eq_true, Bool.not_true, Bool.not_false, *]; done) | fail)) (by subst_vars; decide) ?_) | fail)
        refine OpsL.p (by subst_vars; decide) (aop_indexAddrA (sz := 1) (by (first | (simp only [ASt.ev, tmPut, ↓reduceIte, reduceIte, Nat.reduceEqDiff, plain1, *]; rfl) | fail)) (by (first | (simp only [ASt.ev, tmPut, ↓reduceIte, reduceIte, Nat.reduceEqDiff, plain1, *]; rfl) | fail)) (by exact rfl) (by kernel_rfl) (by omega) (by omega)) ?_
        refine OpsL.storeAt i (by (first | (simp only [ASt.ev, tmPut, ↓reduceIte, reduceIte, Nat.reduceEqDiff, plain1, *]; rfl) | fail)) (by (first | (simp only [ASt.ev, tmPut, ↓reduceIte, reduceIte, Nat.reduceEqDiff, plain1, *]; rfl) | fail)) (by kernel_rfl) rfl rfl hH (by simp) hlen hset ?_
        repeat (first | (refine OpsL.p (by subst_vars; decide) (by (first | (exact aop_move (by (first | (simp only [ASt.ev, tmPut, ↓reduceIte, reduceIte, Nat.reduceEqDiff, plain1, *]; rfl) | fail))) | (exact aop_add (by (first | (simp only [ASt.ev, tmPut, ↓reduceIte, reduceIte, Nat.reduceEqDiff, plain1, *]; rfl) | fail)) (by (first | (simp only [ASt.ev, tmPut, ↓reduceIte, reduceIte, Nat.reduceEqDiff, plain1, *]; rfl) | fail)) (by omega)) | fail)) ?_) | (refine Trip.ops ?_) | (refine OpsL.nil ?_; ((repeat (first | refine blockExit_eq ?_ | refine blockExit_ne (by decide) ?_ | refine blockExit_normal ?_ | refine blockExit_ret ?_ | refine blockExit_goto ?_)); first | (change Trip _ _ _ _ _) | dsimp only | skip)) | fail)
        refine ⟨i + 1, ⟨_, _, rfl, Heap.put_eq, ?_, ?_, ?_, ?_, ?_, by omega⟩, by omega⟩
        · rw [Heap.put_ne (by omega)]; exact hH4
        · simp [tmPut, *]
        · simp [tmPut, *]
        · simp [tmPut, *]
        · simp [tmPut, *]
    · have hi2 : i = 200 := by omega
      subst hi2
      repeat (first | (refine Trip.seq ?_) | (refine Trip.ops ?_) | (refine Trip.exit ?_; ((repeat (first | refine blockExit_eq ?_ | refine blockExit_ne (by decide) ?_ | refine blockExit_normal ?_ | refine blockExit_ret ?_ | refine blockExit_goto ?_)); first | (change Trip _ _ _ _ _) | dsimp only | skip)) | fail)
      refine OpsL.p (by subst_vars; decide) (aop_loadAgg (k := 200) (vs := bv (mixL s t 200)) (by (first | (simp only [ASt.ev, tmPut, ↓reduceIte, reduceIte, Nat.reduceEqDiff, plain1, *]; done) | fail)) (by exact rfl) rfl (by kernel_rfl) (getc_all hH (by rw [bv_len, mixL_len hst, hs]))) ?_
      refine OpsL.upd (aop_store (k := 200) (by (first | (simp only [ASt.ev, tmPut, ↓reduceIte, reduceIte, Nat.reduceEqDiff, plain1, *]; rfl) | fail)) (by (first | (simp only [ASt.ev, tmPut, ↓reduceIte, reduceIte, Nat.reduceEqDiff, plain1, *]; rfl) | fail)) (by kernel_rfl) (by simp [Value.cells, bv_len, mixL_len hst, hs]) (o := .cells (bv (mixL s t 200)) 0 none false (some 123)) ?_) ?_
      · unfold setc
        simp only [hH4]
        rw [if_pos ⟨trivial, by simp [Value.cells, bv_len, mixL_len hst, hs, rep], trivial, by simpa [Value.cells] using bv_one _⟩]
        simp [Value.cells, rep, bv_len, mixL_len hst, hs]
      repeat (first | (refine Trip.ret ?_; ((repeat (first | refine blockExit_eq ?_ | refine blockExit_ne (by decide) ?_ | refine blockExit_normal ?_ | refine blockExit_ret ?_ | refine blockExit_goto ?_)); first | (change Trip _ _ _ _ _) | dsimp only | skip)) | (refine OpsL.nil ?_; ((repeat (first | refine blockExit_eq ?_ | refine blockExit_ne (by decide) ?_ | refine blockExit_normal ?_ | refine blockExit_ret ?_ | refine blockExit_goto ?_)); first | (change Trip _ _ _ _ _) | dsimp only | skip)) | fail)
      refine ⟨.inr rfl, _, res_cell (a := ⟨nx + 1 + 1, 0, none⟩) (by simp [tmPut, e4]) (v := .agg (bv (mixL s t 200)).toArray) ?_, ?_⟩
      · exact readAt_agg (k := 200) (by exact rfl) rfl (by kernel_rfl) (getc_all Heap.put_eq (by rw [bv_len, mixL_len hst, hs]))
      · rw [← mixL_all hst, hs]

theorem entersWith : Enters Tryz.prog 124 := ⟨Tryz.f124, Tryz.func124, by kernel_rfl, by kernel_rfl⟩

/-- The call's answer, of rows of values. -/
def orV : List Value → List Value → List Value
  | .bool a :: s, .bool b :: t => .bool (a || b) :: orV s t
  | _, _ => []
def isOr : Nat → List Value → List Value → List Value → Bool
  | 0, [], [], [] => true
  | n + 1, .bool a :: s, .bool b :: t, .bool c :: r => (match c, a || b with | true, true => true | false, false => true | _, _ => false) && isOr n s t r
  | _, _, _, _ => false
theorem isOr_spec : ∀ (n : Nat) (s t r : List Value), isOr n s t r = true → ∃ a b : List Bool, s = bv a ∧ t = bv b ∧ r = bv (orL a b) ∧ a.length = n ∧ b.length = n := by
  intro n
  induction n with
  | zero =>
    intro s t r h
    unfold isOr at h
    split at h
    · exact ⟨[], [], rfl, rfl, rfl, rfl, rfl⟩
    · rename_i h0; cases h0
    · cases h
  | succ n ih =>
    intro s t r h
    unfold isOr at h
    split at h
    · rename_i h0; cases h0
    · rename_i m a s b t c r h0
      cases h0
      rw [Bool.and_eq_true] at h
      obtain ⟨h1, h2⟩ := h
      obtain ⟨a', b', rfl, rfl, rfl, ha, hb⟩ := ih _ _ _ h2
      have hc : c = (a || b) := by cases c <;> cases a <;> cases b <;> first | rfl | cases h1
      exact ⟨a :: a', b :: b', rfl, rfl, by rw [hc]; rfl, by simp [ha], by simp [hb]⟩
    · cases h

/-- A told call that may be sifted. -/
def ckWith (x : FuncId × List Value × Value) : Bool :=
  Nat.beq x.1 124 && (match x.2.1, x.2.2 with | [.agg s, .agg t], .agg r => isOr 200 s.toList t.toList r.toList | _, _ => false)

theorem bv_plain (l : List Bool) : plain2 (.agg (bv l).toArray) = true := by
  show (bv l).all plain1 = true
  simp [bv, plain1]

theorem ckWith_told (W0 : World) {x : FuncId × List Value × Value} (h : ckWith x = true) : AsTold Tryz.prog W0 x := by
  obtain ⟨f, args, v⟩ := x
  unfold ckWith at h
  rw [Bool.and_eq_true] at h
  obtain ⟨h1, h2⟩ := h
  obtain rfl : f = _ := Nat.eq_of_beq_eq_true h1
  dsimp only at h2
  split at h2
  · rename_i s t r
    obtain ⟨a, b, ha, hb, hr, hla, hlb⟩ := isOr_spec _ _ _ _ h2
    obtain rfl : s = (bv a).toArray := by rw [← ha]
    obtain rfl : t = (bv b).toArray := by rw [← hb]
    obtain rfl : r = (bv (orL a b)).toArray := by rw [← hr]
    exact told_of_acalls entersWith (by simp [List.all_cons, bv_plain]) (bv_plain _) (fun w nx H => withC w a b hla hlb)
  · cases h2

/-- What such a call is taken to tell. -/
def ovWith (f : FuncId) (args : List Value) : Option Value :=
  cond (Nat.beq f 124) (match args with | [.agg s, .agg t] => some (.agg (orV s.toList t.toList).toArray) | _ => none) none
end Go.Proofs.YtgljmhhdjdbhgaaGreat
