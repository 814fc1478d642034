import Derived.MakeChecks
import Derived.ChangeArms
import Derived.OpenShut
import Derived.FnData
import Derived.Test.YtjohiaoepbnicaaGreatQRM12
namespace Go.Proofs.YtjohiaoepbnicaaGreat
set_option linter.unusedSimpArgs false
set_option linter.unusedVariables false
open Go.Am Go.RowKit
attribute [local irreducible] aop OpsL Trip blockExit OpsD
set_option maxRecDepth 20000 in
set_option maxHeartbeats 8000000 in
theorem checkC (W0 : World) {nx : Nat} {H : Heap} {lv : Value} {ss : List (ByteArray × Int)} {a : Aut} {vi vf vo vc vn : Value} (hl : SymsAt H lv ss) (hss : ss.length ≤ 1000) (ha : AutIn H a vi vf vo vc vn) (hn : AutLen a) :
  ACalls Tryz.prog W0 17 [lv, .agg (autV a vi vf vo vc vn).toArray] nx H fun v nx' H' => v = .int .i64 (if checkF ss a then 0 else 9) ∧ Ext nx H nx' H' := by
 refine ACalls.by_trip (fn := Tryz.f17) (c := _) Tryz.func17 rfl (fun tm n hn0 htm => ?_)
 have e0 : tm 0 = lv := htm 0
 have e1 : tm 1 = .agg (autV a vi vf vo vc vn).toArray := htm 1
 clear htm
 replace hn0 : n = 47 := hn0
 refine Trip.ok fun hok => ?_
 replace hok : ∀ id o, H id = some o → id < nx := hok
 have hlc : lv.cells.toList = [lv] := by obtain ⟨la, lc, rfl, _⟩ := hl; rfl
 refine Trip.seq ?_
 refine Trip.ops ?_
 refine OpsL.new (by subst_vars; decide) (aop_box (v := lv) (by simp only [ASt.ev, tmPut, ↓reduceIte, Nat.reduceEqDiff, *]; done)) ?_
 refine OpsL.new (by subst_vars; decide) (aop_box (v := .agg (autV a vi vf vo vc vn).toArray) (by simp only [ASt.ev, tmPut, ↓reduceIte, Nat.reduceEqDiff, *]; done)) ?_
 repeat (first | refine OpsL.q (by exact oasg) ?_ | refine Trip.seq ?_ | refine Trip.ops ?_ | (refine OpsL.nil ?_; (change Trip _ _ _ _ _)))
 refine OpsL.q (aop_makeFunc (a := []) (b := [.pointer (some ⟨nx + 1, 0, none⟩)]) rfl rfl) ?_
 refine OpsL.new (by subst_vars; decide) (aop_alloc (l := [.nilFunc]) (by exact rfl)) ?_
 refine OpsL.storeAt 0 (by simp only [ASt.ev, tmPut, ↓reduceIte, Nat.reduceEqDiff, *]; rfl) (by simp only [ASt.ev, tmPut, ↓reduceIte, Nat.reduceEqDiff, *]; rfl) (by exact rfl) rfl rfl Heap.put_eq rfl (by decide) rfl ?_
 repeat (first | refine Trip.seq ?_ | refine Trip.ops ?_ | (refine OpsL.nil ?_; (change Trip _ _ _ _ _)))
 refine OpsL.q (aop_makeFunc (a := []) (b := [.pointer (some ⟨nx, 0, none⟩)]) rfl rfl) ?_
 refine OpsL.new (by subst_vars; decide) (aop_alloc (l := [.nilFunc]) (by exact rfl)) ?_
 refine OpsL.storeAt 0 (by simp only [ASt.ev, tmPut, ↓reduceIte, Nat.reduceEqDiff, *]; rfl) (by simp only [ASt.ev, tmPut, ↓reduceIte, Nat.reduceEqDiff, *]; rfl) (by exact rfl) rfl rfl Heap.put_eq rfl (by decide) rfl ?_
 repeat (first | refine Trip.seq ?_ | refine Trip.ops ?_ | (refine OpsL.nil ?_; (change Trip _ _ _ _ _)))
 refine OpsL.q (aop_makeFunc (a := []) (b := [.pointer (some ⟨nx + 1 + 1, 0, none⟩), .pointer (some ⟨nx + 1 + 1 + 1, 0, none⟩), .pointer (some ⟨nx + 1, 0, none⟩)]) rfl rfl) ?_
 repeat (first | refine OpsL.q (by exact oasg) ?_ | refine Trip.seq ?_ | refine Trip.ops ?_ | (refine OpsL.nil ?_; (change Trip _ _ _ _ _)))
 refine OpsL.q (aop_makeFunc (a := []) (b := [.pointer (some ⟨nx + 1 + 1, 0, none⟩), .pointer (some ⟨nx + 1 + 1 + 1, 0, none⟩), .pointer (some ⟨nx + 1, 0, none⟩)]) rfl rfl) ?_
 repeat (first | refine OpsL.q (by exact oasg) ?_ | refine Trip.seq ?_ | refine Trip.ops ?_ | (refine OpsL.nil ?_; (change Trip _ _ _ _ _)))
 refine OpsL.q (aop_makeFunc (a := []) (b := [.pointer (some ⟨nx + 1 + 1, 0, none⟩), .pointer (some ⟨nx + 1 + 1 + 1, 0, none⟩)]) rfl rfl) ?_
 repeat (first | refine OpsL.q (by exact oasg) ?_ | refine Trip.seq ?_ | refine Trip.ops ?_ | (refine OpsL.nil ?_; (change Trip _ _ _ _ _)))
 obtain ⟨F, hF⟩ : ∃ F, F = ((((((H.put nx (.cells lv.cells.toList 0 none false (some 24))).put (nx + 1) (.cells (autV a vi vf vo vc vn) 0 none false (some 30))).put (nx + 1 + 1) (.cells [.nilFunc] 0 none false (some 70))).put (nx + 1 + 1) (.cells [.func (.func 34) #[] #[.pointer (some ⟨nx + 1, 0, none⟩)]] 0 none false (some 70))).put (nx + 1 + 1 + 1) (.cells [.nilFunc] 0 none false (some 71))).put (nx + 1 + 1 + 1) (.cells [.func (.func 35) #[] #[.pointer (some ⟨nx, 0, none⟩)]] 0 none false (some 71))) := ⟨_, rfl⟩
 change OpsL _ _ _ _ (ASt.mk _ _ ((((((H.put nx (.cells lv.cells.toList 0 none false (some 24))).put (nx + 1) (.cells (autV a vi vf vo vc vn) 0 none false (some 30))).put (nx + 1 + 1) (.cells [.nilFunc] 0 none false (some 70))).put (nx + 1 + 1) (.cells [.func (.func 34) #[] #[.pointer (some ⟨nx + 1, 0, none⟩)]] 0 none false (some 70))).put (nx + 1 + 1 + 1) (.cells [.nilFunc] 0 none false (some 71))).put (nx + 1 + 1 + 1) (.cells [.func (.func 35) #[] #[.pointer (some ⟨nx, 0, none⟩)]] 0 none false (some 71))) _) _
 rw [← hF]
 have hx0 : Ext nx H (nx + 1 + 1 + 1 + 1) F := by
  rw [hF]
  exact ⟨by omega, fun i hi => by rw [Heap.put_ne (by omega), Heap.put_ne (by omega), Heap.put_ne (by omega), Heap.put_ne (by omega), Heap.put_ne (by omega), Heap.put_ne (by omega)]⟩
 have f0 : F nx = some (.cells [lv] 0 none false (some 24)) := by rw [hF, Heap.put_ne (by omega), Heap.put_ne (by omega), Heap.put_ne (by omega), Heap.put_ne (by omega), Heap.put_ne (by omega), Heap.put_eq, hlc]
 have f1 : F (nx + 1) = some (.cells (autV a vi vf vo vc vn) 0 none false (some 30)) := by rw [hF, Heap.put_ne (by omega), Heap.put_ne (by omega), Heap.put_ne (by omega), Heap.put_ne (by omega), Heap.put_eq]
 have f2 : F (nx + 1 + 1) = some (.cells [.func (.func 34) #[] #[.pointer (some ⟨nx + 1, 0, none⟩)]] 0 none false (some 70)) := by rw [hF, Heap.put_ne (by omega), Heap.put_ne (by omega), Heap.put_eq]
 have f3 : F (nx + 1 + 1 + 1) = some (.cells [.func (.func 35) #[] #[.pointer (some ⟨nx, 0, none⟩)]] 0 none false (some 71)) := by rw [hF, Heap.put_eq]
 have hctx : Ctx F nx (nx + 1) (nx + 1 + 1) (nx + 1 + 1 + 1) lv a.N a.G := ⟨cell_of f0 rfl, cell_of f1 rfl, cell_of f1 rfl, cell_of f2 rfl, cell_of f3 rfl⟩
 replace hl := hl.ext hx0 hok
 replace ha := ha.ext hx0 hok
 have hokF : ∀ id o, F id = some o → id < nx + 1 + 1 + 1 + 1 := fun id o h => by
  by_cases c : id < nx + 4
  ·omega
  ·rw [hF, Heap.put_ne (by omega), Heap.put_ne (by omega), Heap.put_ne (by omega), Heap.put_ne (by omega), Heap.put_ne (by omega), Heap.put_ne (by omega)] at h
   have := hok id o h
   omega
 clear hF e0 e1 hlc hok
 refine OpsL.q (aop_loadAgg (k := 7) (by simp only [ASt.ev, tmPut, ↓reduceIte, Nat.reduceEqDiff, *]; done) (by exact rfl) rfl (by exact rfl) (getc_all f1 rfl)) ?_
 refine OpsL.c1 (hf := entersSize) (hc := (sizeC W0 ha hn)) (h := ?_)
 rintro v nx1 G1 ⟨rfl, X1⟩
 cases hs1 : sizeF a
 ·repeat (first | (refine OpsL.q (by first | exact omv | exact opkF) ?_) | (refine OpsL.nil ?_; (change Trip _ _ _ _ _)) | refine OpsL.skp ?_)
  refine Trip.ifF ?_
  repeat (first | refine OpsL.q (by exact oasg) ?_ | refine Trip.seq ?_ | refine Trip.ops ?_ | (refine Trip.skip ?_; (change Trip _ _ _ _ _)) | (refine Trip.ret ?_; (dsimp only)) | (refine OpsL.nil ?_; (change Trip _ _ _ _ _)))
  exact ⟨.inr rfl, _, res_tmp, by simp [tmPut, checkF, *], hx0.trans X1⟩
 have g1 : cellAt G1 ⟨nx + 1, 2, none⟩ vi := cell_ext X1 hokF (cell_of f1 rfl)
 have c51 := (hctx.ext X1 hokF).c5
 repeat (first | (refine OpsL.q (by first | exact omv | exact ofa | exact old) ?_) | refine OpsL.ung ?_)
 refine OpsL.c2 (hf := entersAllI) (hc := (allIC W0 (cap := #[.pointer (some ⟨nx + 1, 0, none⟩)]) (p := stF a.N) entersState (ha.init.ext X1 hokF) hn.init (fun x nx1' H1' hx' => (stateC W0 x (hctx.ext (X1.trans hx') hokF).cN).weaken fun v n h ⟨q, q1, q2⟩ => ⟨q, by rw [q1, q2]; exact Ext.refl⟩))) (h := ?_)
 rintro v nx2 G2 ⟨rfl, Y2⟩
 have X2 := X1.trans Y2
 cases hs2 : a.init.all (stF a.N)
 ·repeat (first | (refine OpsL.q (by first | exact omv | exact opkT | exact opkF) ?_) | (refine OpsL.nil ?_; (change Trip _ _ _ _ _)) | refine OpsL.skp ?_)
  refine Trip.ifF ?_
  repeat (first | refine OpsL.q (by exact oasg) ?_ | refine Trip.seq ?_ | refine Trip.ops ?_ | (refine Trip.skip ?_; (change Trip _ _ _ _ _)) | (refine Trip.ret ?_; (dsimp only)) | (refine OpsL.nil ?_; (change Trip _ _ _ _ _)))
  exact ⟨.inr rfl, _, res_tmp, by simp [tmPut, checkF, *], hx0.trans X2⟩
 have g2 : cellAt G2 ⟨nx + 1, 3, none⟩ vf := cell_ext X2 hokF (cell_of f1 rfl)
 have c52 := (hctx.ext X2 hokF).c5
 repeat (first | (refine OpsL.q (by first | exact omv | exact ofa | exact old | exact opkT) ?_) | refine OpsL.ung ?_)
 refine OpsL.c2 (hf := entersAllI) (hc := (allIC W0 (cap := #[.pointer (some ⟨nx + 1, 0, none⟩)]) (p := stF a.N) entersState (ha.final.ext X2 hokF) hn.final (fun x nx1' H1' hx' => (stateC W0 x (hctx.ext (X2.trans hx') hokF).cN).weaken fun v n h ⟨q, q1, q2⟩ => ⟨q, by rw [q1, q2]; exact Ext.refl⟩))) (h := ?_)
 rintro v nx3 G3 ⟨rfl, Y3⟩
 have X3 := X2.trans Y3
 cases hs3 : a.final.all (stF a.N)
 ·repeat (first | (refine OpsL.q (by first | exact omv | exact opkT | exact opkF) ?_) | (refine OpsL.nil ?_; (change Trip _ _ _ _ _)) | refine OpsL.skp ?_)
  refine Trip.ifF ?_
  repeat (first | refine OpsL.q (by exact oasg) ?_ | refine Trip.seq ?_ | refine Trip.ops ?_ | (refine Trip.skip ?_; (change Trip _ _ _ _ _)) | (refine Trip.ret ?_; (dsimp only)) | (refine OpsL.nil ?_; (change Trip _ _ _ _ _)))
  exact ⟨.inr rfl, _, res_tmp, by simp [tmPut, checkF, *], hx0.trans X3⟩
 have g3 : cellAt G3 ⟨nx + 1, 4, none⟩ vo := cell_ext X3 hokF (cell_of f1 rfl)
 have c53 := (hctx.ext X3 hokF).c5
 repeat (first | (refine OpsL.q (by first | exact omv | exact ofa | exact old | exact opkT) ?_) | refine OpsL.ung ?_)
 refine OpsL.c2 (hf := entersAllO) (hc := (allOC W0 (cap := #[.pointer (some ⟨nx + 1 + 1, 0, none⟩), .pointer (some ⟨nx + 1 + 1 + 1, 0, none⟩), .pointer (some ⟨nx + 1, 0, none⟩)]) (p := okO ss a) entersOpen (ha.opens.ext X3 hokF) hn.opens (fun x nx1' H1' hx' => openC W0 x (hctx.ext (X3.trans hx') hokF) (hl.ext (X3.trans hx') hokF) hss))) (h := ?_)
 rintro v nx4 G4 ⟨rfl, Y4⟩
 have X4 := X3.trans Y4
 cases hs4 : a.opens.all (okO ss a)
 ·repeat (first | (refine OpsL.q (by first | exact omv | exact opkT | exact opkF) ?_) | (refine OpsL.nil ?_; (change Trip _ _ _ _ _)) | refine OpsL.skp ?_)
  refine Trip.ifF ?_
  repeat (first | refine OpsL.q (by exact oasg) ?_ | refine Trip.seq ?_ | refine Trip.ops ?_ | (refine Trip.skip ?_; (change Trip _ _ _ _ _)) | (refine Trip.ret ?_; (dsimp only)) | (refine OpsL.nil ?_; (change Trip _ _ _ _ _)))
  exact ⟨.inr rfl, _, res_tmp, by simp [tmPut, checkF, *], hx0.trans X4⟩
 have g4 : cellAt G4 ⟨nx + 1, 5, none⟩ vc := cell_ext X4 hokF (cell_of f1 rfl)
 have c54 := (hctx.ext X4 hokF).c5
 repeat (first | (refine OpsL.q (by first | exact omv | exact ofa | exact old | exact opkT) ?_) | refine OpsL.ung ?_)
 refine OpsL.c2 (hf := entersAllC) (hc := (allCC W0 (cap := #[.pointer (some ⟨nx + 1 + 1, 0, none⟩), .pointer (some ⟨nx + 1 + 1 + 1, 0, none⟩), .pointer (some ⟨nx + 1, 0, none⟩)]) (p := okC ss a) entersClose (ha.closes.ext X4 hokF) hn.closes (fun x nx1' H1' hx' => closeC W0 x (hctx.ext (X4.trans hx') hokF) (hl.ext (X4.trans hx') hokF) hss))) (h := ?_)
 rintro v nx5 G5 ⟨rfl, Y5⟩
 have X5 := X4.trans Y5
 cases hs5 : a.closes.all (okC ss a)
 ·repeat (first | (refine OpsL.q (by first | exact omv | exact opkT | exact opkF) ?_) | (refine OpsL.nil ?_; (change Trip _ _ _ _ _)) | refine OpsL.skp ?_)
  refine Trip.ifF ?_
  repeat (first | refine OpsL.q (by exact oasg) ?_ | refine Trip.seq ?_ | refine Trip.ops ?_ | (refine Trip.skip ?_; (change Trip _ _ _ _ _)) | (refine Trip.ret ?_; (dsimp only)) | (refine OpsL.nil ?_; (change Trip _ _ _ _ _)))
  exact ⟨.inr rfl, _, res_tmp, by simp [tmPut, checkF, *], hx0.trans X5⟩
 have g5 : cellAt G5 ⟨nx + 1, 6, none⟩ vn := cell_ext X5 hokF (cell_of f1 rfl)
 have c55 := (hctx.ext X5 hokF).c5
 repeat (first | (refine OpsL.q (by first | exact omv | exact ofa | exact old | exact opkT) ?_) | refine OpsL.ung ?_)
 refine OpsL.c2 (hf := entersAllN) (hc := (allNC W0 (cap := #[.pointer (some ⟨nx + 1 + 1, 0, none⟩), .pointer (some ⟨nx + 1 + 1 + 1, 0, none⟩)]) (p := okI ss a) entersStay (ha.inners.ext X5 hokF) hn.inners (fun x nx1' H1' hx' => stayC W0 x (hctx.ext (X5.trans hx') hokF) (hl.ext (X5.trans hx') hokF) hss))) (h := ?_)
 rintro v nx6 G6 ⟨rfl, Y6⟩
 have X6 := X5.trans Y6
 cases hs6 : a.inners.all (okI ss a)
 ·repeat (first | refine OpsL.q (by exact opkT) ?_ | (refine OpsL.nil ?_; (change Trip _ _ _ _ _)))
  refine Trip.ifF ?_
  repeat (first | refine OpsL.q (by exact oasg) ?_ | refine Trip.seq ?_ | refine Trip.ops ?_ | (refine Trip.skip ?_; (change Trip _ _ _ _ _)) | (refine Trip.ret ?_; (dsimp only)) | (refine OpsL.nil ?_; (change Trip _ _ _ _ _)))
  exact ⟨.inr rfl, _, res_tmp, by simp [tmPut, checkF, *], hx0.trans X6⟩
 repeat (first | refine OpsL.q (by exact opkT) ?_ | (refine OpsL.nil ?_; (change Trip _ _ _ _ _)))
 refine Trip.ifT ?_
 repeat (first | refine OpsL.q (by exact oasg) ?_ | refine Trip.seq ?_ | refine Trip.ops ?_ | (refine Trip.ret ?_; (dsimp only)) | (refine OpsL.nil ?_; (change Trip _ _ _ _ _)))
 exact ⟨.inr rfl, _, res_tmp, by simp [tmPut, checkF, *], hx0.trans X6⟩
end Go.Proofs.YtjohiaoepbnicaaGreat
namespace Go.Am
set_option linter.unusedSimpArgs false
set_option linter.unusedVariables false
open Go.RowKit
section
variable {P : Program} {W0 : World} {ops : Array Oper} {acts : List Nat} {K : Nat → Heap → Prop}
theorem OpsR.spg {m i j : Nat} {l : List Nat} {d d' : Tmp} {op : Op} {type : TypeId} {pos : String} {after : Array Edge} {tm : Nat → Value} {n nx : Nat} {H : Heap} {v : Value} {Q : ASt → Prop} {want : Bool} (ho : ops[i]? = some ⟨some d, op, type, pos, after, some (j, want)⟩) (he : (!acts.contains i && front ops l i) = true) (hd : d < n) (hj : (ops[j]?).bind (·.dst) = some d') (hb : tm d' = .bool want) (hK : K nx H)
  (hop : ∀ H' nx', K nx' H' → aop P H' nx' (ASt.ev ⟨tm, n, H, nx⟩) ⟨some d, op, type, pos, after, none⟩ = some (v, .none)) (h : OpsR P W0 ops acts K m l ⟨tmPut tm (some d) v, n, H, nx⟩ Q) : OpsR P W0 ops acts K (m + 1) (i :: l) ⟨tm, n, H, nx⟩ Q := by
 simp only [Bool.and_eq_true, Bool.not_eq_true'] at he
 exact .inl ⟨he.1, he.2, _, ho, by simp [dstOk, hd], .inr ⟨by simp [wants, hj, hb], v, hop H nx hK, .inr hop, h⟩⟩
theorem OpsR.skg {m i j : Nat} {l : List Nat} {d d' : Tmp} {op : Op} {type : TypeId} {pos : String} {after : Array Edge} {tm : Nat → Value} {n nx : Nat} {H : Heap} {Q : ASt → Prop} {want : Bool} (ho : ops[i]? = some ⟨some d, op, type, pos, after, some (j, want)⟩) (he : (!acts.contains i && front ops l i) = true) (hd : d < n) (hj : (ops[j]?).bind (·.dst) = some d') (hb : tm d' = .bool (!want)) (h : OpsR P W0 ops acts K m l ⟨tmPut tm (some d) undef, n, H, nx⟩ Q) : OpsR P W0 ops acts K (m + 1) (i :: l) ⟨tm, n, H, nx⟩ Q := by
 simp only [Bool.and_eq_true, Bool.not_eq_true'] at he
 exact .inl ⟨he.1, he.2, _, ho, by simp [dstOk, hd], .inl ⟨by cases want <;> simp [wants, hj, hb], h⟩⟩
theorem aop_lenC {ev : Operand → Option Value} {H : Heap} {nx : Nat} {dst : Option Tmp} {type : TypeId} {pos : String} {after : Array Edge} {guard : Option (Nat × Bool)} {t k e : TypeId} {x : Operand} {m : Nat} {es : List (Value × Value)} {bs : List Nat} {clk : Nat} (hx : ev x = some (.map (some m))) (hu : P.underlying t = some (.map k e)) (hm : H m = some (.map es bs clk)) :
  aop P H nx ev ⟨dst, .call ⟨.builtin .len, #[x], #[t]⟩, type, pos, after, guard⟩ = some (.int .i64 es.length, .none) := by simp [aop, hx, evAll, aBuiltin, aLen, hu, mapOf, hm]
end
def singleF (a : Aut) : Bool := decide ((normA a).init.length = 1) && decide ((dist (cuesOf (normA a)) : Int) = ((normA a).opens.length + (normA a).closes.length) + (normA a).inners.length)
def eachF (ss : List (ByteArray × Int)) (G : Int) : Int := (ss.map fun s => if s.2 = 2 then G + 1 else 1).foldl (· + ·) 0
def wholeF (ss : List (ByteArray × Int)) (a : Aut) : Bool := decide (0 < a.init.length) && decide ((dist (cuesOf a) : Int) = a.N * eachF ss a.G)
theorem eachF_take {ss : List (ByteArray × Int)} {G : Int} {i : Nat} (h : i < ss.length) : eachF (ss.take (i + 1)) G = eachF (ss.take i) G + (if ss[i].2 = 2 then G + 1 else 1) := by
 unfold eachF
 rw [List.take_succ_eq_append_getElem h, List.map_append, List.foldl_append]
 rfl
theorem eachF_bd {G : Int} (h0 : 0 ≤ G) (h1 : G ≤ 10000) (ss : List (ByteArray × Int)) : ∀ i, i ≤ ss.length → 0 ≤ eachF (ss.take i) G ∧ eachF (ss.take i) G ≤ 10001 * i := by
 intro i
 induction i with
 | zero => intro _; simp [eachF]
 | succ i ih =>
  intro hi
  have := ih (by omega)
  rw [eachF_take (by omega)]
  split <;> omega
end Go.Am
namespace Go.Proofs.YtjohiaoepbnicaaGreat
set_option linter.unusedSimpArgs false
set_option linter.unusedVariables false
open Go.RowKit Go.Am
attribute [local irreducible] aop OpsL Trip blockExit OpsD OpsK OpsR
theorem entersSingle : Am.Enters Tryz.prog 11 := ⟨Tryz.f11, Tryz.func11, by kernel_rfl, by kernel_rfl⟩
theorem entersWhole : Am.Enters Tryz.prog 13 := ⟨Tryz.f13, Tryz.func13, by kernel_rfl, by kernel_rfl⟩
theorem one_in {H : Heap} {a : Aut} {vi vf vo vc vn : Value} (h : AutIn H a vi vf vo vc vn) : (autV a vi vf vo vc vn).all (·.oneCell') = true := by
 obtain ⟨_, _, z0⟩ := h.init.slice
 obtain ⟨_, _, z1⟩ := h.final.slice
 obtain ⟨_, _, z2⟩ := h.opens.slice
 obtain ⟨_, _, z3⟩ := h.closes.slice
 obtain ⟨_, _, z4⟩ := h.inners.slice
 rw [z0, z1, z2, z3, z4]
 rfl
theorem norm_len {a : Aut} (h : AutLen a) : AutLen (normA a) := ⟨Nat.le_trans (tidyL_len _) h.init, Nat.le_trans (tidyL_len _) h.final, Nat.le_trans (tidyL_len _) h.opens, Nat.le_trans (tidyL_len _) h.closes, Nat.le_trans (tidyL_len _) h.inners⟩
set_option maxRecDepth 20000 in
set_option maxHeartbeats 8000000 in
theorem singleC (W0 : World) {nx : Nat} {H : Heap} {a : Aut} {lv vi vf vo vc vn : Value} (ha : AutIn H a vi vf vo vc vn) (hn : AutLen a) :
  ACalls Tryz.prog W0 11 [lv, .agg (autV a vi vf vo vc vn).toArray] nx H fun v nx' H' => v = .bool (singleF a) ∧ Ext nx H nx' H' := by
 refine ACalls.by_trip (fn := Tryz.f11) (c := _) Tryz.func11 rfl (fun tm n hn0 htm => ?_)
 have e0 : tm 1 = .agg (autV a vi vf vo vc vn).toArray := htm 1
 clear htm
 replace hn0 : n = 19 := hn0
 refine Trip.ok fun hok => ?_
 replace hok : ∀ id o, H id = some o → id < nx := hok
 refine Trip.seq ?_
 refine Trip.ops ?_
 refine OpsL.new (by subst_vars; decide) (aop_box (by simp only [ASt.ev, tmPut, ↓reduceIte, Nat.reduceEqDiff, *]; rfl)) ?_
 obtain ⟨G, hG⟩ : ∃ G, G = H.put nx (.cells (Value.agg (autV a vi vf vo vc vn).toArray).cells.toList 0 none false (some 30)) := ⟨_, rfl⟩
 have hx0 : Ext nx H (nx + 1) G := by rw [hG]; exact Ext.newPut
 have ok0 : ∀ id o, G id = some o → id < nx + 1 := by rw [hG]; exact ok_new hok
 obtain ⟨ai, ci, rfl⟩ := ha.init.slice
 obtain ⟨af, cf, rfl⟩ := ha.final.slice
 obtain ⟨ao, co, rfl⟩ := ha.opens.slice
 obtain ⟨ac, cc, rfl⟩ := ha.closes.slice
 obtain ⟨an, cn, rfl⟩ := ha.inners.slice
 have g0 : G nx = some (.cells (autV a (.slice ai a.init.length ci) (.slice af a.final.length cf) (.slice ao a.opens.length co) (.slice ac a.closes.length cc) (.slice an a.inners.length cn)) 0 none false (some 30)) := by rw [hG, Heap.put_eq]; rfl
 rw [← hG]
 clear hG e0
 have ha0 := ha.ext hx0 hok
 repeat (first | refine OpsL.q (by exact oasg) ?_ | refine Trip.seq ?_ | refine Trip.ops ?_ | (refine OpsL.nil ?_; (change Trip _ _ _ _ _)))
 refine OpsL.q (aop_loadAgg (k := 7) (vs := (autV a (.slice ai a.init.length ci) (.slice af a.final.length cf) (.slice ao a.opens.length co) (.slice ac a.closes.length cc) (.slice an a.inners.length cn))) (by simp only [ASt.ev, tmPut, ↓reduceIte, Nat.reduceEqDiff, *]; done) (by exact rfl) rfl (by exact rfl) (getc_all g0 rfl)) ?_
 refine OpsL.c1 (hf := entersNorm) (hc := (normC W0 ha0 hn).ok) (h := ?_)
 rintro v1 n1 H1 ⟨⟨l, wi, wf, wo, wc, wn, rfl, hO, x1⟩, ok1⟩
 have hle1 := x1.1
 have hO2 : OwnAut (H1.put nx (.cells (autV (normA a) wi wf wo wc wn) 0 none false (some 30))) nx n1 (normA a) l wi wf wo wc wn := hO.putLow (by omega) (by omega)
 have hB := hO2.in
 have hlenB := norm_len hn
 have hone := one_in hB
 clear hO hO2
 have hsF : singleF a = (decide ((normA a).init.length = 1) && decide ((dist (cuesOf (normA a)) : Int) = ((normA a).opens.length + (normA a).closes.length) + (normA a).inners.length)) := rfl
 rw [hsF]
 clear hsF
 generalize normA a = b at *
 have g1 := (x1.2 nx (by omega)).trans g0
 refine OpsL.upd (aop_store (k := 7) (u := .agg (autV b wi wf wo wc wn).toArray) (by simp only [ASt.ev, tmPut, ↓reduceIte, Nat.reduceEqDiff, *]; done) (by simp only [ASt.ev, tmPut, ↓reduceIte, Nat.reduceEqDiff, *]; done) (by exact rfl) rfl (o := .cells (autV b wi wf wo wc wn) 0 none false (some 30)) (setc_allN (vs := (autV b wi wf wo wc wn)) g1 rfl hone)) ?_
 obtain ⟨G2, hG2⟩ : ∃ Q, Q = H1.put nx (.cells (autV b wi wf wo wc wn) 0 none false (some 30)) := ⟨_, rfl⟩
 have g2 : G2 nx = some (.cells (autV b wi wf wo wc wn) 0 none false (some 30)) := by rw [hG2, Heap.put_eq]
 have k2 : ∀ id o, G2 id = some o → id < n1 := by rw [hG2]; exact ok_put3 ok1 g1
 have x2 : Ext nx H n1 G2 := ⟨by omega, fun j hj => by rw [hG2, Heap.put_ne (by omega), x1.2 j (by omega)]; exact hx0.2 j hj⟩
 rw [← hG2] at hB ⊢
 clear hG2 g0 g1 ok0 ok1 hx0 x1 ha0 hone
 obtain ⟨bi, di, rfl⟩ := hB.init.slice
 have cI : cellAt G2 ⟨nx, 2, none⟩ (.slice bi b.init.length di) := cell_of g2 rfl
 have qi := hlenB.init
 have qo := hlenB.opens
 have qc := hlenB.closes
 have qn := hlenB.inners
 repeat (first | refine Trip.seq ?_ | (refine OpsL.nil ?_; (change Trip _ _ _ _ _)))
 by_cases h1 : b.init.length = 1
 case neg =>
  rw [decide_eq_false h1, Bool.false_and]
  refine OpsR.drawn [6, 9] (K := fun _ _ => True) mixedO (by kernel_rfl) (by kernel_rfl) [0, 1, 2, 3, 4, 5, 8, 6, 7, 9, 10, 11, 12] (by kernel_rfl) trivial ?_
  refine OpsR.one rfl rfl rfl (by kernel_rfl) ?_
  repeat (first | refine OpsL.q (by exact ofa) ?_ | (refine OpsL.nil ?_; (dsimp only)))
  refine OpsR.one rfl rfl rfl (by kernel_rfl) ?_
  repeat (first | refine OpsL.q (by exact old) ?_ | (refine OpsL.nil ?_; (skip)))
  refine OpsR.one rfl rfl rfl (by kernel_rfl) ?_
  repeat (first | refine OpsL.q (by exact olen) ?_ | (refine OpsL.nil ?_; (skip)))
  refine OpsR.one rfl rfl rfl (by kernel_rfl) ?_
  refine OpsL.eqlF ?_
  refine OpsL.nil ?_
  refine OpsR.one rfl rfl rfl (by kernel_rfl) ?_
  repeat (first | refine OpsL.q (by exact omv) ?_ | (refine OpsL.nil ?_; (skip)))
  refine OpsR.one rfl rfl rfl (by kernel_rfl) ?_
  repeat (first | (refine OpsL.nil ?_; (skip)) | refine OpsL.skp ?_)
  refine OpsR.skg rfl (by kernel_rfl) (by subst_vars; decide) (by exact rfl) (by simp only [ASt.ev, tmPut, ↓reduceIte, Nat.reduceEqDiff, *]; rfl) ?_
  refine OpsR.act (by kernel_rfl) (ActStep.skip rfl rfl (by subst_vars; decide) (by exact rfl) (by simp only [ASt.ev, tmPut, ↓reduceIte, Nat.reduceEqDiff, *]; rfl) ?_)
  refine OpsR.one rfl rfl rfl (by kernel_rfl) ?_
  repeat (first | (refine OpsL.nil ?_; (skip)) | refine OpsL.skp ?_)
  refine OpsR.act (by kernel_rfl) (ActStep.skip rfl rfl (by subst_vars; decide) (by exact rfl) (by simp only [ASt.ev, tmPut, ↓reduceIte, Nat.reduceEqDiff, *]; rfl) ?_)
  refine OpsR.one rfl rfl rfl (by kernel_rfl) ?_
  repeat (first | (refine OpsL.nil ?_; (skip)) | refine OpsL.skp ?_)
  refine OpsR.one rfl rfl rfl (by kernel_rfl) ?_
  repeat (first | refine OpsL.q (by exact opkF) ?_ | (refine OpsL.nil ?_; (skip)))
  refine OpsR.one rfl rfl rfl (by kernel_rfl) ?_
  repeat (first | refine OpsL.q (by exact oasg) ?_ | (refine OpsL.nil ?_; (skip)))
  refine OpsR.nil ?_
  (change Trip _ _ _ _ _)
  repeat (refine Trip.ret ?_; (dsimp only))
  exact ⟨.inr rfl, _, res_tmp, by simp [tmPut, *], x2⟩
 case pos =>
  rw [decide_eq_true h1, Bool.true_and]
  refine OpsR.drawn [6, 9] (K := fun nx1 H1 => Ext n1 G2 nx1 H1) mixedO (by kernel_rfl) (by kernel_rfl) [0, 1, 2, 3, 4, 5, 8, 6, 7, 9, 10, 11, 12] (by kernel_rfl) Ext.refl ?_
  refine OpsR.one rfl rfl rfl (by kernel_rfl) ?_
  repeat (first | refine OpsL.q (by exact ofa) ?_ | (refine OpsL.nil ?_; (dsimp only)))
  refine OpsR.one rfl rfl rfl (by kernel_rfl) ?_
  repeat (first | refine OpsL.q (by exact old) ?_ | (refine OpsL.nil ?_; (skip)))
  refine OpsR.one rfl rfl rfl (by kernel_rfl) ?_
  repeat (first | refine OpsL.q (by exact olen) ?_ | (refine OpsL.nil ?_; (skip)))
  refine OpsR.one rfl rfl rfl (by kernel_rfl) ?_
  refine OpsL.eqlT ?_
  refine OpsL.nil ?_
  refine OpsR.one rfl rfl rfl (by kernel_rfl) ?_
  repeat (first | refine OpsL.q (by exact omv) ?_ | (refine OpsL.nil ?_; (skip)))
  refine OpsR.one rfl rfl rfl (by kernel_rfl) ?_
  refine OpsL.ung ?_
  refine OpsL.q (aop_loadAgg (k := 7) (vs := (autV b (.slice bi b.init.length di) wf wo wc wn)) (by simp only [ASt.ev, tmPut, ↓reduceIte, Nat.reduceEqDiff, *]; done) (by exact rfl) rfl (by exact rfl) (getc_all g2 rfl)) ?_
  refine OpsL.nil ?_
  refine OpsR.spg (v := .agg (autV b (.slice bi b.init.length di) wf wo wc wn).toArray) rfl (by kernel_rfl) (by subst_vars; decide) (by exact rfl) (by simp only [ASt.ev, tmPut, ↓reduceIte, Nat.reduceEqDiff, *]; done) Ext.refl (fun HH nn hK => aop_loadAgg (k := 7) (vs := (autV b (.slice bi b.init.length di) wf wo wc wn)) (by simp only [ASt.ev, tmPut, ↓reduceIte, Nat.reduceEqDiff, *]; done) (by exact rfl) rfl (by exact rfl) (getc_all ((hK.2 nx (by omega)).trans g2) rfl)) ?_
  refine OpsR.act (by kernel_rfl) (ActStep.walk rfl rfl ?_)
  refine OpsL.ung ?_
  refine OpsL.c1 (hf := entersCues) (hc := (cuesC W0 hB hlenB).ok) (h := ?_)
  rintro v3 n3 H3 ⟨⟨mc, C, bs, clk, rfl, hM, hd, x3⟩, ok3⟩
  refine OpsL.nil ⟨x3, ?_⟩
  refine OpsR.one rfl rfl rfl (by kernel_rfl) ?_
  refine OpsL.ung ?_
  refine OpsL.q (aop_lenC (by simp only [ASt.ev, tmPut, ↓reduceIte, Nat.reduceEqDiff, *]; done) (by exact rfl) hM) ?_
  refine OpsL.nil ?_
  refine OpsR.act (by kernel_rfl) (ActStep.walk rfl rfl ?_)
  refine OpsL.ung ?_
  refine OpsL.c1 (hf := entersRules) (hc := (rulesC W0 (hB.ext x3 k2) hlenB).ok) (h := ?_)
  rintro v4 n4 H4 ⟨⟨rfl, x4⟩, ok4⟩
  refine OpsL.nil ⟨x3.trans x4, ?_⟩
  rw [List.length_map, hd.len]
  refine OpsR.one rfl rfl rfl (by kernel_rfl) ?_
  refine OpsL.ung ?_
  refine OpsL.q (oeql) ?_
  refine OpsL.nil ?_
  refine OpsR.one rfl rfl rfl (by kernel_rfl) ?_
  repeat (first | refine OpsL.q (by exact opkT) ?_ | (refine OpsL.nil ?_; (skip)))
  refine OpsR.one rfl rfl rfl (by kernel_rfl) ?_
  repeat (first | refine OpsL.q (by exact oasg) ?_ | (refine OpsL.nil ?_; (skip)))
  refine OpsR.nil ?_
  (change Trip _ _ _ _ _)
  repeat (refine Trip.ret ?_; (dsimp only))
  exact ⟨.inr rfl, _, res_tmp, by simp [tmPut, *], x2.trans (x3.trans x4)⟩
set_option maxRecDepth 20000 in
set_option maxHeartbeats 8000000 in
theorem wholeC (W0 : World) {nx : Nat} {H : Heap} {a : Aut} {lv vi vf vo vc vn : Value} {ss : List (ByteArray × Int)} (hl : SymsAt H lv ss) (hss : ss.length ≤ 1000) (ha : AutIn H a vi vf vo vc vn) (hn : AutLen a) (hG0 : 0 ≤ a.G) (hG1 : a.G ≤ 10000) (hN0 : 0 ≤ a.N) (hN1 : a.N ≤ 200) :
  ACalls Tryz.prog W0 13 [lv, .agg (autV a vi vf vo vc vn).toArray] nx H fun v nx' H' => v = .bool (wholeF ss a) ∧ Ext nx H nx' H' := by
 obtain ⟨la, lc, rfl, hl⟩ := hl
 refine ACalls.by_trip (fn := Tryz.f13) (c := _) Tryz.func13 rfl (fun tm n hn0 htm => ?_)
 have e0 : tm 0 = .slice (some la) ss.length lc := htm 0
 have e1 : tm 1 = .agg (autV a vi vf vo vc vn).toArray := htm 1
 clear htm
 replace hn0 : n = 38 := hn0
 refine Trip.ok fun hok => ?_
 replace hok : ∀ id o, H id = some o → id < nx := hok
 refine Trip.seq ?_
 refine Trip.ops ?_
 refine OpsL.new (by subst_vars; decide) (aop_box (by simp only [ASt.ev, tmPut, ↓reduceIte, Nat.reduceEqDiff, *]; rfl)) ?_
 obtain ⟨G, hG⟩ : ∃ G, G = H.put nx (.cells (Value.agg (autV a vi vf vo vc vn).toArray).cells.toList 0 none false (some 30)) := ⟨_, rfl⟩
 have hx0 : Ext nx H (nx + 1) G := by rw [hG]; exact Ext.newPut
 have ok0 : ∀ id o, G id = some o → id < nx + 1 := by rw [hG]; exact ok_new hok
 obtain ⟨ai, ci, rfl⟩ := ha.init.slice
 obtain ⟨af, cf, rfl⟩ := ha.final.slice
 obtain ⟨ao, co, rfl⟩ := ha.opens.slice
 obtain ⟨ac, cc, rfl⟩ := ha.closes.slice
 obtain ⟨an, cn, rfl⟩ := ha.inners.slice
 have g0 : G nx = some (.cells (autV a (.slice ai a.init.length ci) (.slice af a.final.length cf) (.slice ao a.opens.length co) (.slice ac a.closes.length cc) (.slice an a.inners.length cn)) 0 none false (some 30)) := by rw [hG, Heap.put_eq]; rfl
 rw [← hG]
 clear hG e1
 have q0 := hn.init
 repeat (first | (refine OpsL.q (by first | exact omv | exact oasg | exact olen) ?_) | refine Trip.seq ?_ | refine Trip.ops ?_ | refine Trip.block ?_ | (refine OpsL.nil ?_; (change Trip _ _ _ _ _)))
 refine Trip.mono (Q := fun e st => e = .exit 0 ∧ ∃ (tm' : Nat → Value) (J : Heap) (m : Nat), st = ⟨tm', n, J, m⟩ ∧ Ext (nx + 1) G m J ∧ tm' 3 = .pointer (some ⟨nx, 0, none⟩) ∧ tm' 4 = .bool false ∧ tm' 5 = .int .i64 (eachF ss a.G)) ?_ ?_
 ·refine Trip.inv (fun (i : Nat) st => ∃ (tm' : Nat → Value) (J : Heap) (m : Nat), st = ⟨tm', n, J, m⟩ ∧ Ext (nx + 1) G m J ∧ (∀ id o, J id = some o → id < m) ∧ tm' 3 = .pointer (some ⟨nx, 0, none⟩) ∧ tm' 4 = .bool false ∧ tm' 5 = .int .i64 (eachF (ss.take i) a.G) ∧ tm' 8 = .slice (some la) ss.length lc ∧ tm' 9 = .int .i64 (ss.length : Int) ∧ tm' 10 = .int .i64 (i : Int) ∧ i ≤ ss.length) (fun i => ss.length - i) 0 ?_ ?_
  ·exact ⟨_, _, _, rfl, Ext.refl, ok0, by simp [tmPut, *], by simp [tmPut, *], by simp [tmPut, eachF], by simp [tmPut, *], by simp [tmPut, *], by simp [tmPut, *], Nat.zero_le _⟩
  ·rintro i st ⟨tm', J, m, rfl, xJ, kJ, e3, e4, e5, e8, e9, e10, hi⟩
   by_cases hlt : i < ss.length
   case neg =>
    have hie : i = ss.length := by omega
    subst hie
    rw [List.take_length] at e5
    repeat (first | refine Trip.seq ?_ | refine Trip.ops ?_)
    refine OpsL.lssF ?_
    repeat (first | refine Trip.seq ?_ | (refine OpsL.nil ?_; (change Trip _ _ _ _ _)))
    refine Trip.ifF ?_
    repeat (refine Trip.exit ?_; (dsimp only))
    exact ⟨rfl, _, J, m, rfl, xJ, by simp [tmPut, *], by simp [tmPut, *], by simp [tmPut, *]⟩
   case pos =>
    have hbd := eachF_bd hG0 hG1 ss i hi
    have htk := eachF_take (G := a.G) hlt
    have hls := getc_ext (hx0.trans xJ) hok (hl i hlt)
    obtain ⟨s, hs⟩ : ∃ s, ss[i] = s := ⟨_, rfl⟩
    rw [hs] at htk hls
    have hls' : getc J ⟨la.block, la.off + (i : Int).toNat * 2, la.spot⟩ 2 = some [.string s.1, .int .i64 s.2] := by simpa using hls
    generalize eachF (ss.take i) a.G = E at *
    repeat (first | refine Trip.seq ?_ | refine Trip.ops ?_)
    refine OpsL.lssT ?_
    repeat (first | refine Trip.seq ?_ | (refine OpsL.nil ?_; (change Trip _ _ _ _ _)))
    refine Trip.ifT ?_
    repeat (first | refine OpsL.q (by exact oixa) ?_ | refine Trip.seq ?_ | refine Trip.ops ?_ | refine Trip.block ?_ | (refine Trip.skip ?_; (change Trip _ _ _ _ _)))
    refine OpsL.q (aop_loadAgg (k := 2) (vs := [.string s.1, .int .i64 s.2]) (by simp only [ASt.ev, tmPut, ↓reduceIte, Nat.reduceEqDiff, *]; rfl) (by exact rfl) rfl (by exact rfl) hls') ?_
    refine OpsL.new (by subst_vars; decide) (aop_alloc (l := [.string ⟨#[]⟩, .int .i64 0]) (by kernel_rfl)) ?_
    refine OpsL.upd (aop_store (k := 2) (u := .agg [.string s.1, .int .i64 s.2].toArray) (by simp only [ASt.ev, tmPut, ↓reduceIte, Nat.reduceEqDiff, *]; rfl) (by simp only [ASt.ev, tmPut, ↓reduceIte, Nat.reduceEqDiff, *]; done) (by exact rfl) rfl (o := .cells [.string s.1, .int .i64 s.2] 0 none false (some 51)) (show setc _ _ (Value.agg [.string s.1, .int .i64 s.2].toArray).cells.toList = _ by rw [show (Value.agg [.string s.1, .int .i64 s.2].toArray).cells.toList = [.string s.1, .int .i64 s.2] by rfl]; exact setc_allN (c := [.string ⟨#[]⟩, .int .i64 0]) Heap.put_eq rfl rfl)) ?_
    obtain ⟨G4, hG4⟩ : ∃ G0, G0 = (J.put m (.cells [.string ⟨#[]⟩, .int .i64 0] 0 none false (some 51))).put m (.cells [.string s.1, .int .i64 s.2] 0 none false (some 51)) := ⟨_, rfl⟩
    have xG4 : Ext m J (m + 1) G4 := ⟨Nat.le_succ _, fun j hj => by rw [hG4, Heap.put_ne (by omega), Heap.put_ne (by omega)]⟩
    have kG4 : ∀ id o, G4 id = some o → id < m + 1 := by rw [hG4]; exact ok_put3 (ok_new kJ) Heap.put_eq
    have bG4 : G4 m = some (.cells [.string s.1, .int .i64 s.2] 0 none false (some 51)) := by rw [hG4, Heap.put_eq]
    rw [← hG4]
    clear hG4
    have ck : cellAt G4 ⟨m, 0 + 1, none⟩ (.int .i64 s.2) := by rw [Nat.zero_add]; exact cell_of bG4 rfl
    have cG : cellAt G4 ⟨nx, 0 + 1, none⟩ (.int .i64 a.G) := by rw [Nat.zero_add]; exact cell_of ((xG4.2 nx (by have := xJ.1; omega)).trans ((xJ.2 nx (by omega)).trans g0)) rfl
    repeat (first | (refine OpsL.q (by first | exact ofa | exact old) ?_) | refine Trip.seq ?_ | refine Trip.ops ?_ | (refine OpsL.nil ?_; (change Trip _ _ _ _ _)))
    by_cases h2 : s.2 = 2
    ·rw [if_pos h2] at htk
     refine OpsL.eqlT ?_ (c := h2)
     repeat (refine OpsL.nil ?_; (change Trip _ _ _ _ _))
     refine Trip.ifT ?_
     repeat (first | (refine OpsL.q (by first | exact omv | exact oasg | exact oadd | exact ofa | exact old) ?_) | refine Trip.ops ?_ | (refine OpsL.nil ?_; ((repeat (refine blockExit_normal ?_)); first | (change Trip _ _ _ _ _) | (dsimp only))))
     exact ⟨i + 1, ⟨_, _, _, rfl, xJ.trans xG4, kG4, by simp [tmPut, *], by simp [tmPut, *], by simp [tmPut, htk, Int.add_assoc], by simp [tmPut, *], by simp [tmPut, *], by simp [tmPut, *], by omega⟩, by omega⟩
    ·rw [if_neg h2] at htk
     refine OpsL.eqlF ?_ (c := h2)
     repeat (refine OpsL.nil ?_; (change Trip _ _ _ _ _))
     refine Trip.ifF ?_
     repeat (first | (refine OpsL.q (by first | exact omv | exact oasg | exact oadd) ?_) | refine Trip.ops ?_ | (refine Trip.skip ?_; (change Trip _ _ _ _ _)) | (refine OpsL.nil ?_; ((repeat (refine blockExit_normal ?_)); first | (change Trip _ _ _ _ _) | (dsimp only))))
     exact ⟨i + 1, ⟨_, _, _, rfl, xJ.trans xG4, kG4, by simp [tmPut, *], by simp [tmPut, *], by simp [tmPut, htk], by simp [tmPut, *], by simp [tmPut, *], by simp [tmPut, *], by omega⟩, by omega⟩
 clear e0
 rintro e st ⟨rfl, tm1, J, m, rfl, xJ, e3, e4, e5⟩
 ((repeat (refine blockExit_eq ?_)); change Trip _ _ _ _ _)
 refine Trip.ok fun kJ => ?_
 replace kJ : ∀ id o, J id = some o → id < m := kJ
 have gJ := (xJ.2 nx (by omega)).trans g0
 have haJ := ha.ext (hx0.trans xJ) hok
 have hle := xJ.1
 have cI : cellAt J ⟨nx, 2, none⟩ (.slice ai a.init.length ci) := cell_of gJ rfl
 have hbd := eachF_bd hG0 hG1 ss ss.length (Nat.le_refl _)
 rw [List.take_length] at hbd
 have hwF : wholeF ss a = (decide (0 < a.init.length) && decide ((dist (cuesOf a) : Int) = a.N * eachF ss a.G)) := rfl
 rw [hwF]
 clear hwF
 have hmul : -9223372036854775808 ≤ a.N * eachF ss a.G ∧ a.N * eachF ss a.G ≤ 9223372036854775807 := by
  have h1 := Int.mul_nonneg hN0 hbd.1
  have h2 := Int.mul_le_mul hN1 (show eachF ss a.G ≤ 10001000 by omega) hbd.1 (by omega)
  omega
 repeat (refine Trip.seq ?_)
 by_cases h1 : 0 < a.init.length
 case neg =>
  rw [decide_eq_false h1, Bool.false_and]
  refine OpsR.drawn [6] (K := fun _ _ => True) mixedO (by kernel_rfl) (by kernel_rfl) [0, 1, 2, 3, 4, 5, 8, 9, 10, 11, 6, 7, 12, 13, 14] (by kernel_rfl) trivial ?_
  refine OpsR.one rfl rfl rfl (by kernel_rfl) ?_
  repeat (first | refine OpsL.q (by exact ofa) ?_ | (refine OpsL.nil ?_; (dsimp only)))
  refine OpsR.one rfl rfl rfl (by kernel_rfl) ?_
  repeat (first | refine OpsL.q (by exact old) ?_ | (refine OpsL.nil ?_; (skip)))
  refine OpsR.one rfl rfl rfl (by kernel_rfl) ?_
  repeat (first | refine OpsL.q (by exact olen) ?_ | (refine OpsL.nil ?_; (skip)))
  refine OpsR.one rfl rfl rfl (by kernel_rfl) ?_
  refine OpsL.gtrF ?_
  refine OpsL.nil ?_
  refine OpsR.one rfl rfl rfl (by kernel_rfl) ?_
  repeat (first | refine OpsL.q (by exact omv) ?_ | (refine OpsL.nil ?_; (skip)))
  refine OpsR.one rfl rfl rfl (by kernel_rfl) ?_
  repeat (first | (refine OpsL.nil ?_; (skip)) | refine OpsL.skp ?_)
  refine OpsR.one rfl rfl rfl (by kernel_rfl) ?_
  repeat (first | (refine OpsL.nil ?_; (skip)) | refine OpsL.skp ?_)
  refine OpsR.skg rfl (by kernel_rfl) (by subst_vars; decide) (by exact rfl) (by simp only [ASt.ev, tmPut, ↓reduceIte, Nat.reduceEqDiff, *]; rfl) ?_
  refine OpsR.one rfl rfl rfl (by kernel_rfl) ?_
  repeat (first | (refine OpsL.nil ?_; (skip)) | refine OpsL.skp ?_)
  refine OpsR.one rfl rfl rfl (by kernel_rfl) ?_
  repeat (first | (refine OpsL.nil ?_; (skip)) | refine OpsL.skp ?_)
  refine OpsR.act (by kernel_rfl) (ActStep.skip rfl rfl (by subst_vars; decide) (by exact rfl) (by simp only [ASt.ev, tmPut, ↓reduceIte, Nat.reduceEqDiff, *]; rfl) ?_)
  refine OpsR.one rfl rfl rfl (by kernel_rfl) ?_
  repeat (first | (refine OpsL.nil ?_; (skip)) | refine OpsL.skp ?_)
  refine OpsR.one rfl rfl rfl (by kernel_rfl) ?_
  repeat (first | (refine OpsL.nil ?_; (skip)) | refine OpsL.skp ?_)
  refine OpsR.one rfl rfl rfl (by kernel_rfl) ?_
  repeat (first | refine OpsL.q (by exact opkF) ?_ | (refine OpsL.nil ?_; (skip)))
  refine OpsR.one rfl rfl rfl (by kernel_rfl) ?_
  repeat (first | refine OpsL.q (by exact oasg) ?_ | (refine OpsL.nil ?_; (skip)))
  refine OpsR.nil ?_
  (change Trip _ _ _ _ _)
  repeat (refine Trip.ret ?_; (dsimp only))
  exact ⟨.inr rfl, _, res_tmp, by simp [tmPut, *], hx0.trans xJ⟩
 case pos =>
  rw [decide_eq_true h1, Bool.true_and]
  refine OpsR.drawn [6] (K := fun nx1 H1 => Ext m J nx1 H1) mixedO (by kernel_rfl) (by kernel_rfl) [0, 1, 2, 3, 4, 5, 8, 9, 10, 11, 6, 7, 12, 13, 14] (by kernel_rfl) Ext.refl ?_
  refine OpsR.one rfl rfl rfl (by kernel_rfl) ?_
  repeat (first | refine OpsL.q (by exact ofa) ?_ | (refine OpsL.nil ?_; (dsimp only)))
  refine OpsR.one rfl rfl rfl (by kernel_rfl) ?_
  repeat (first | refine OpsL.q (by exact old) ?_ | (refine OpsL.nil ?_; (skip)))
  refine OpsR.one rfl rfl rfl (by kernel_rfl) ?_
  repeat (first | refine OpsL.q (by exact olen) ?_ | (refine OpsL.nil ?_; (skip)))
  refine OpsR.one rfl rfl rfl (by kernel_rfl) ?_
  refine OpsL.gtrT ?_
  refine OpsL.nil ?_
  refine OpsR.one rfl rfl rfl (by kernel_rfl) ?_
  repeat (first | refine OpsL.q (by exact omv) ?_ | (refine OpsL.nil ?_; (skip)))
  refine OpsR.one rfl rfl rfl (by kernel_rfl) ?_
  refine OpsL.ung ?_
  refine OpsL.q (aop_loadAgg (k := 7) (vs := (autV a (.slice ai a.init.length ci) (.slice af a.final.length cf) (.slice ao a.opens.length co) (.slice ac a.closes.length cc) (.slice an a.inners.length cn))) (by simp only [ASt.ev, tmPut, ↓reduceIte, Nat.reduceEqDiff, *]; done) (by exact rfl) rfl (by exact rfl) (getc_all gJ rfl)) ?_
  refine OpsL.nil ?_
  refine OpsR.one rfl rfl rfl (by kernel_rfl) ?_
  repeat (first | refine OpsL.q (by exact ofa) ?_ | (refine OpsL.nil ?_; (dsimp only)) | refine OpsL.ung ?_)
  refine OpsR.spg (v := .int .i64 a.N) rfl (by kernel_rfl) (by subst_vars; decide) (by exact rfl) (by simp only [ASt.ev, tmPut, ↓reduceIte, Nat.reduceEqDiff, *]; done) Ext.refl (fun HH nn hK => aop_load (by simp only [ASt.ev, tmPut, ↓reduceIte, Nat.reduceEqDiff, *]; rfl) (by exact rfl) rfl (by rw [Nat.zero_add]; exact cell_of ((hK.2 nx (by omega)).trans gJ) rfl)) ?_
  refine OpsR.one rfl rfl rfl (by kernel_rfl) ?_
  repeat (first | refine OpsL.q (by exact omv) ?_ | (refine OpsL.nil ?_; (skip)) | refine OpsL.ung ?_)
  refine OpsR.one rfl rfl rfl (by kernel_rfl) ?_
  repeat (first | refine OpsL.q (by exact omul) ?_ | (refine OpsL.nil ?_; (skip)) | refine OpsL.ung ?_)
  refine OpsR.act (by kernel_rfl) (ActStep.walk rfl rfl ?_)
  refine OpsL.ung ?_
  refine OpsL.c1 (hf := entersCues) (hc := (cuesC W0 haJ hn).ok) (h := ?_)
  rintro v3 n3 H3 ⟨⟨mc, C, bs, clk, rfl, hM, hd, x3⟩, ok3⟩
  refine OpsL.nil ⟨x3, ?_⟩
  refine OpsR.one rfl rfl rfl (by kernel_rfl) ?_
  refine OpsL.ung ?_
  refine OpsL.q (aop_lenC (by simp only [ASt.ev, tmPut, ↓reduceIte, Nat.reduceEqDiff, *]; done) (by exact rfl) hM) ?_
  refine OpsL.nil ?_
  rw [List.length_map, hd.len]
  refine OpsR.one rfl rfl rfl (by kernel_rfl) ?_
  refine OpsL.ung ?_
  refine OpsL.q (oeql) ?_
  refine OpsL.nil ?_
  refine OpsR.one rfl rfl rfl (by kernel_rfl) ?_
  repeat (first | refine OpsL.q (by exact opkT) ?_ | (refine OpsL.nil ?_; (skip)))
  refine OpsR.one rfl rfl rfl (by kernel_rfl) ?_
  repeat (first | refine OpsL.q (by exact oasg) ?_ | (refine OpsL.nil ?_; (skip)))
  refine OpsR.nil ?_
  (change Trip _ _ _ _ _)
  repeat (refine Trip.ret ?_; (dsimp only))
  exact ⟨.inr rfl, _, res_tmp, by simp [tmPut, *], (hx0.trans xJ).trans x3⟩
end Go.Proofs.YtjohiaoepbnicaaGreat
namespace Go.Am
set_option linter.unusedSimpArgs false
set_option linter.unusedVariables false
def sameMF (a b : Aut) : Bool := decide (a.N = b.N ∧ a.G = b.G ∧ a.init = b.init ∧ a.final = b.final ∧ a.opens = b.opens ∧ a.closes = b.closes ∧ a.inners = b.inners)
theorem take_same {α : Type} {l r : List α} {i : Nat} (h1 : i < l.length) (h2 : i < r.length) (ht : l.take i = r.take i) : l.take (i + 1) = r.take (i + 1) ↔ l[i] = r[i] := by
 rw [List.take_add_one, List.take_add_one, List.getElem?_eq_getElem h1, List.getElem?_eq_getElem h2, ht, Option.toList_some, Option.toList_some, List.append_cancel_left_eq]
 simp only [List.cons.injEq, and_true]
end Go.Am
namespace Go.Proofs.YtjohiaoepbnicaaGreat
set_option linter.unusedSimpArgs false
set_option linter.unusedVariables false
open Go.RowKit Go.Am
attribute [local irreducible] aop OpsL Trip blockExit OpsD OpsK OpsR
theorem entersIntsS : Am.Enters Tryz.prog 31 := ⟨Tryz.f31, Tryz.func31, by kernel_rfl, by kernel_rfl⟩
theorem entersSameA : Am.Enters Tryz.prog 15 := ⟨Tryz.f15, Tryz.func15, by kernel_rfl, by kernel_rfl⟩
set_option maxRecDepth 20000 in
set_option maxHeartbeats 4000000 in
theorem intsSameC (W0 : World) {nx : Nat} {H : Heap} {av bv : Value} {la lb : List Int} (ha : IntsAt H av la) (hb : IntsAt H bv lb) (hm : la.length ≤ 1000000) (hm2 : lb.length ≤ 1000000) :
  ACalls Tryz.prog W0 31 [av, bv] nx H fun v nx' H' => v = .bool (decide (la = lb)) ∧ nx' = nx ∧ H' = H := by
 obtain ⟨aa, ac, rfl⟩ := ha.slice
 obtain ⟨ba, bc, rfl⟩ := hb.slice
 refine ACalls.by_trip (fn := Tryz.f31) (c := _) Tryz.func31 rfl (fun tm n hn0 htm => ?_)
 have e0 : tm 0 = .slice aa la.length ac := htm 0
 have e1 : tm 1 = .slice ba lb.length bc := htm 1
 clear htm
 replace hn0 : n = 26 := hn0
 repeat (first | (refine OpsL.q (by first | exact omv | exact olen | exact oasg) ?_) | refine Trip.seq ?_ | refine Trip.ops ?_ | (refine OpsL.nil ?_; (change Trip _ _ _ _ _)))
 by_cases hlen : la.length = lb.length
 ·refine OpsL.neqF ?_
  repeat (refine OpsL.nil ?_; (change Trip _ _ _ _ _))
  refine Trip.ifF ?_
  repeat (first | refine OpsL.q (by exact oasg) ?_ | refine Trip.seq ?_ | refine Trip.ops ?_ | refine Trip.block ?_ | (refine Trip.skip ?_; (change Trip _ _ _ _ _)) | (refine OpsL.nil ?_; (change Trip _ _ _ _ _)))
  refine Trip.inv (fun (i : Nat) st => ∃ (tm : Nat → Value), st = ⟨tm, n, H, nx⟩ ∧ tm 0 = .slice aa la.length ac ∧ tm 1 = .slice ba lb.length bc ∧ tm 5 = .int .i64 i ∧ i ≤ la.length ∧ la.take i = lb.take i) (fun i => la.length - i) 0 ?_ ?_
  ·exact ⟨_, rfl, by simp [tmPut, *], by simp [tmPut, *], by simp [tmPut, *], by omega, by simp⟩
  ·clear e0 e1
   rintro i st ⟨tm, rfl, e0, e1, e5, hi, htk⟩
   by_cases hlt : i < la.length
   ·obtain ⟨p, rfl, g1⟩ := intsAt_at ha hlt
    obtain ⟨q, rfl, g2⟩ := intsAt_at hb (show i < lb.length by omega)
    have hlb : i < lb.length := by omega
    have hst := take_same hlt hlb htk
    repeat (first | (refine OpsL.q (by first | exact omv | exact olen) ?_) | refine Trip.seq ?_ | refine Trip.ops ?_)
    refine OpsL.lssT ?_
    repeat (refine OpsL.nil ?_; (change Trip _ _ _ _ _))
    refine Trip.ifT ?_
    repeat (first | refine Trip.seq ?_ | refine Trip.block ?_ | (refine Trip.skip ?_; (change Trip _ _ _ _ _)))
    refine Trip.mono (Q := fun e st => e = .normal ∧ ∃ (tm' : Nat → Value), st = ⟨tm', n, H, nx⟩ ∧ tm' 0 = .slice (some p) la.length ac ∧ tm' 1 = .slice (some q) lb.length bc ∧ tm' 5 = .int .i64 i ∧ tm' 25 = .bool (decide (la[i] ≠ lb[i]))) ?_ ?_
    ·refine OpsK.drawn (K := fun _ _ => True) mixedO (by kernel_rfl) (by kernel_rfl) trivial ?_
     refine OpsK.one rfl (by kernel_rfl) ?_
     repeat (first | refine OpsL.q (by exact omv) ?_ | (refine OpsL.nil ?_; (skip)))
     refine OpsK.one rfl (by kernel_rfl) ?_
     repeat (first | refine OpsL.q (by exact omv) ?_ | (refine OpsL.nil ?_; (skip)))
     refine OpsK.one rfl (by kernel_rfl) ?_
     repeat (first | refine OpsL.q (by exact oixa) ?_ | (refine OpsL.nil ?_; (dsimp only)))
     refine OpsK.one rfl (by kernel_rfl) ?_
     repeat (first | refine OpsL.q (by exact old) ?_ | (refine OpsL.nil ?_; (skip)))
     refine OpsK.one rfl (by kernel_rfl) ?_
     repeat (first | refine OpsL.q (by exact omv) ?_ | (refine OpsL.nil ?_; (skip)))
     refine OpsK.one rfl (by kernel_rfl) ?_
     repeat (first | refine OpsL.q (by exact omv) ?_ | (refine OpsL.nil ?_; (skip)))
     refine OpsK.one rfl (by kernel_rfl) ?_
     repeat (first | refine OpsL.q (by exact oixa) ?_ | (refine OpsL.nil ?_; (dsimp only)))
     refine OpsK.one rfl (by kernel_rfl) ?_
     repeat (first | refine OpsL.q (by exact old) ?_ | (refine OpsL.nil ?_; (skip)))
     refine OpsK.one rfl (by kernel_rfl) ?_
     refine OpsL.q (oneq) ?_
     repeat (refine OpsL.nil ?_; (skip))
     refine OpsK.nil ?_
     exact ⟨rfl, _, rfl, by simp [tmPut, *], by simp [tmPut, *], by simp [tmPut, *], by simp [tmPut]⟩
    ·clear e0 e1 e5
     rintro e st ⟨rfl, tm', rfl, e0, e1, e5, e25⟩
     (change Trip _ _ _ _ _)
     by_cases hab : la[i] = lb[i]
     ·rw [decide_eq_false (fun h => h hab)] at e25
      repeat fail
      refine Trip.ifF ?_
      repeat (first | (refine OpsL.q (by first | exact omv | exact oasg | exact oadd) ?_) | refine Trip.ops ?_ | (refine Trip.skip ?_; ((repeat (refine blockExit_normal ?_)); change Trip _ _ _ _ _)) | (refine OpsL.nil ?_; (dsimp only)))
      exact ⟨i + 1, ⟨_, rfl, by simp [tmPut, *], by simp [tmPut, *], by simp [tmPut, *], by omega, hst.2 hab⟩, by omega⟩
     ·rw [decide_eq_true hab] at e25
      have hne : la ≠ lb := fun h => hab (by subst h; rfl)
      repeat fail
      refine Trip.ifT ?_
      repeat (first | refine OpsL.q (by exact oasg) ?_ | refine Trip.seq ?_ | refine Trip.ops ?_ | (refine Trip.ret ?_; ((repeat (refine blockExit_ret ?_)); dsimp only)) | (refine OpsL.nil ?_; (change Trip _ _ _ _ _)))
      exact ⟨.inr rfl, _, res_tmp, by simp [tmPut, hne], rfl, rfl⟩
   ·have heq : la = lb := by
     rw [List.take_of_length_le (by omega), List.take_of_length_le (by omega)] at htk
     exact htk
    repeat (first | (refine OpsL.q (by first | exact omv | exact olen) ?_) | refine Trip.seq ?_ | refine Trip.ops ?_)
    refine OpsL.lssF ?_
    repeat (refine OpsL.nil ?_; (change Trip _ _ _ _ _))
    refine Trip.ifF ?_
    repeat (first | refine OpsL.q (by exact oasg) ?_ | refine Trip.seq ?_ | refine Trip.ops ?_ | (refine Trip.exit ?_; ((repeat (refine blockExit_eq ?_)); change Trip _ _ _ _ _)) | (refine Trip.ret ?_; (dsimp only)) | (refine OpsL.nil ?_; (change Trip _ _ _ _ _)))
    exact ⟨.inr rfl, _, res_tmp, by simp [tmPut, heq], rfl, rfl⟩
 ·have hne : la ≠ lb := fun h => hlen (by rw [h])
  refine OpsL.neqT ?_
  repeat (refine OpsL.nil ?_; (change Trip _ _ _ _ _))
  refine Trip.ifT ?_
  repeat (first | refine OpsL.q (by exact oasg) ?_ | refine Trip.seq ?_ | refine Trip.ops ?_ | (refine Trip.ret ?_; (dsimp only)) | (refine OpsL.nil ?_; (change Trip _ _ _ _ _)))
  exact ⟨.inr rfl, _, res_tmp, by simp [tmPut, hne], rfl, rfl⟩
set_option maxRecDepth 20000 in
set_option maxHeartbeats 16000000 in
theorem sameAC (W0 : World) {nx : Nat} {H : Heap} {a b : Aut} {vi vf vo vc vn ui uf uo uc un : Value} (ha : AutIn H a vi vf vo vc vn) (hn : AutLen a) (hb : AutIn H b ui uf uo uc un) (hm : AutLen b) :
  ACalls Tryz.prog W0 15 [.agg (autV a vi vf vo vc vn).toArray, .agg (autV b ui uf uo uc un).toArray] nx H fun v nx' H' => v = .bool (sameMF a b) ∧ Ext nx H nx' H' := by
 obtain ⟨ai, ci, rfl⟩ := ha.init.slice
 obtain ⟨af, cf, rfl⟩ := ha.final.slice
 obtain ⟨ao, co, rfl⟩ := ha.opens.slice
 obtain ⟨ac, cc, rfl⟩ := ha.closes.slice
 obtain ⟨an, cn, rfl⟩ := ha.inners.slice
 obtain ⟨bi, di, rfl⟩ := hb.init.slice
 obtain ⟨bf, df, rfl⟩ := hb.final.slice
 obtain ⟨bo, dq, rfl⟩ := hb.opens.slice
 obtain ⟨bc, dc, rfl⟩ := hb.closes.slice
 obtain ⟨bn, dn, rfl⟩ := hb.inners.slice
 refine ACalls.by_trip (fn := Tryz.f15) (c := _) Tryz.func15 rfl (fun tm n hn0 htm => ?_)
 have e0 : tm 0 = .agg (autV a (.slice ai a.init.length ci) (.slice af a.final.length cf) (.slice ao a.opens.length co) (.slice ac a.closes.length cc) (.slice an a.inners.length cn)).toArray := htm 0
 have e1 : tm 1 = .agg (autV b (.slice bi b.init.length di) (.slice bf b.final.length df) (.slice bo b.opens.length dq) (.slice bc b.closes.length dc) (.slice bn b.inners.length dn)).toArray := htm 1
 clear htm
 replace hn0 : n = 117 := hn0
 refine Trip.ok fun hok => ?_
 replace hok : ∀ id o, H id = some o → id < nx := hok
 refine Trip.seq ?_
 refine Trip.ops ?_
 refine OpsL.new (by subst_vars; decide) (aop_box (by simp only [ASt.ev, tmPut, ↓reduceIte, Nat.reduceEqDiff, *]; rfl)) ?_
 refine OpsL.new (by subst_vars; decide) (aop_box (by simp only [ASt.ev, tmPut, ↓reduceIte, Nat.reduceEqDiff, *]; rfl)) ?_
 obtain ⟨G, hG⟩ : ∃ G, G = (H.put nx (.cells (Value.agg (autV a (.slice ai a.init.length ci) (.slice af a.final.length cf) (.slice ao a.opens.length co) (.slice ac a.closes.length cc) (.slice an a.inners.length cn)).toArray).cells.toList 0 none false (some 30))).put (nx + 1) (.cells (Value.agg (autV b (.slice bi b.init.length di) (.slice bf b.final.length df) (.slice bo b.opens.length dq) (.slice bc b.closes.length dc) (.slice bn b.inners.length dn)).toArray).cells.toList 0 none false (some 30)) := ⟨_, rfl⟩
 have hx0 : Ext nx H (nx + 1 + 1) G := by rw [hG]; exact Ext.newPut.trans Ext.newPut
 have gx : G nx = some (.cells (autV a (.slice ai a.init.length ci) (.slice af a.final.length cf) (.slice ao a.opens.length co) (.slice ac a.closes.length cc) (.slice an a.inners.length cn)) 0 none false (some 30)) := by rw [hG, Heap.put_ne (by omega), Heap.put_eq]; rfl
 have gy : G (nx + 1) = some (.cells (autV b (.slice bi b.init.length di) (.slice bf b.final.length df) (.slice bo b.opens.length dq) (.slice bc b.closes.length dc) (.slice bn b.inners.length dn)) 0 none false (some 30)) := by rw [hG, Heap.put_eq]; rfl
 replace ha := ha.ext hx0 hok
 replace hb := hb.ext hx0 hok
 have hni := hn.init
 have hnf := hn.final
 have hno := hn.opens
 have hnc := hn.closes
 have hnn := hn.inners
 have hmi := hm.init
 have hmf := hm.final
 have hmo := hm.opens
 have hmc := hm.closes
 have hmn := hm.inners
 rw [← hG]
 clear hG e0 e1
 have ca0 : cellAt G ⟨nx, 0, none⟩ (.int .i64 a.N) := by exact cell_of gx rfl
 have cb0 : cellAt G ⟨nx + 1, 0, none⟩ (.int .i64 b.N) := by exact cell_of gy rfl
 have ca1 : cellAt G ⟨nx, 0 + 1, none⟩ (.int .i64 a.G) := by rw [Nat.zero_add]; exact cell_of gx rfl
 have cb1 : cellAt G ⟨nx + 1, 0 + 1, none⟩ (.int .i64 b.G) := by rw [Nat.zero_add]; exact cell_of gy rfl
 have ca2 : cellAt G ⟨nx, 0 + 2, none⟩ (.slice ai a.init.length ci) := by rw [Nat.zero_add]; exact cell_of gx rfl
 have cb2 : cellAt G ⟨nx + 1, 0 + 2, none⟩ (.slice bi b.init.length di) := by rw [Nat.zero_add]; exact cell_of gy rfl
 have ca3 : cellAt G ⟨nx, 0 + 3, none⟩ (.slice af a.final.length cf) := by rw [Nat.zero_add]; exact cell_of gx rfl
 have cb3 : cellAt G ⟨nx + 1, 0 + 3, none⟩ (.slice bf b.final.length df) := by rw [Nat.zero_add]; exact cell_of gy rfl
 have ca4 : cellAt G ⟨nx, 0 + 4, none⟩ (.slice ao a.opens.length co) := by rw [Nat.zero_add]; exact cell_of gx rfl
 have cb4 : cellAt G ⟨nx + 1, 0 + 4, none⟩ (.slice bo b.opens.length dq) := by rw [Nat.zero_add]; exact cell_of gy rfl
 have ca5 : cellAt G ⟨nx, 0 + 5, none⟩ (.slice ac a.closes.length cc) := by rw [Nat.zero_add]; exact cell_of gx rfl
 have cb5 : cellAt G ⟨nx + 1, 0 + 5, none⟩ (.slice bc b.closes.length dc) := by rw [Nat.zero_add]; exact cell_of gy rfl
 have ca6 : cellAt G ⟨nx, 0 + 6, none⟩ (.slice an a.inners.length cn) := by rw [Nat.zero_add]; exact cell_of gx rfl
 have cb6 : cellAt G ⟨nx + 1, 0 + 6, none⟩ (.slice bn b.inners.length dn) := by rw [Nat.zero_add]; exact cell_of gy rfl
 clear gx gy
 repeat (first | (refine OpsL.q (by first | exact oasg | exact old | exact ofa) ?_) | refine Trip.seq ?_ | refine Trip.ops ?_ | (refine OpsL.nil ?_; (change Trip _ _ _ _ _)))
 by_cases h0 : a.N = b.N
 rotate_left
 ·refine OpsL.neqT ?_ (c := h0)
  repeat (first | (refine OpsL.q (by first | exact omv | exact opkT) ?_) | (refine OpsL.nil ?_; (change Trip _ _ _ _ _)) | refine OpsL.skp ?_)
  refine Trip.ifT ?_
  repeat (first | refine OpsL.q (by exact oasg) ?_ | refine Trip.seq ?_ | refine Trip.ops ?_ | (refine Trip.ret ?_; (dsimp only)) | (refine OpsL.nil ?_; (change Trip _ _ _ _ _)))
  exact ⟨.inr rfl, _, res_tmp, by simp [tmPut, sameMF]; exact fun h => absurd h h0, hx0⟩
 refine OpsL.neqF ?_ (c := h0)
 repeat (first | (refine OpsL.q (by first | exact omv | exact old | exact ofa) ?_) | refine OpsL.ung ?_)
 by_cases h1 : a.G = b.G
 rotate_left
 ·refine OpsL.neqT ?_ (c := h1)
  repeat (first | (refine OpsL.q (by first | exact omv | exact opkT | exact opkF) ?_) | (refine OpsL.nil ?_; (change Trip _ _ _ _ _)) | refine OpsL.skp ?_)
  refine Trip.ifT ?_
  repeat (first | refine OpsL.q (by exact oasg) ?_ | refine Trip.seq ?_ | refine Trip.ops ?_ | (refine Trip.ret ?_; (dsimp only)) | (refine OpsL.nil ?_; (change Trip _ _ _ _ _)))
  exact ⟨.inr rfl, _, res_tmp, by simp [tmPut, sameMF]; exact fun _ h => absurd h h1, hx0⟩
 refine OpsL.neqF ?_ (c := h1)
 repeat (first | (refine OpsL.q (by first | exact omv | exact old | exact ofa | exact opkF) ?_) | refine OpsL.ung ?_)
 refine OpsL.c2 (hf := entersIntsS) (hc := (intsSameC W0 ha.init hb.init (by omega) (by omega))) (h := ?_)
 rintro v2 n2 H2 ⟨rfl, rfl, h2'⟩
 have h2'' := h2'.symm
 subst h2''
 by_cases h2 : a.init = b.init
 rotate_left
 ·rw [decide_eq_false h2]
  repeat (first | (refine OpsL.q (by first | exact omv | exact onot | exact opkT | exact opkF) ?_) | (refine OpsL.nil ?_; (change Trip _ _ _ _ _)) | refine OpsL.ung ?_ | refine OpsL.skp ?_)
  refine Trip.ifT ?_
  repeat (first | refine OpsL.q (by exact oasg) ?_ | refine Trip.seq ?_ | refine Trip.ops ?_ | (refine Trip.ret ?_; (dsimp only)) | (refine OpsL.nil ?_; (change Trip _ _ _ _ _)))
  exact ⟨.inr rfl, _, res_tmp, by simp [tmPut, sameMF]; exact fun _ _ h => absurd h h2, hx0⟩
 rw [decide_eq_true h2]
 repeat (first | (refine OpsL.q (by first | exact omv | exact old | exact ofa | exact opkF | exact onot) ?_) | refine OpsL.ung ?_)
 refine OpsL.c2 (hf := entersIntsS) (hc := (intsSameC W0 ha.final hb.final (by omega) (by omega))) (h := ?_)
 rintro v3 n3 H3 ⟨rfl, rfl, h3'⟩
 have h3'' := h3'.symm
 subst h3''
 by_cases h3 : a.final = b.final
 rotate_left
 ·rw [decide_eq_false h3]
  repeat (first | (refine OpsL.q (by first | exact omv | exact onot | exact opkT | exact opkF) ?_) | (refine OpsL.nil ?_; (change Trip _ _ _ _ _)) | refine OpsL.ung ?_ | refine OpsL.skp ?_)
  refine Trip.ifT ?_
  repeat (first | refine OpsL.q (by exact oasg) ?_ | refine Trip.seq ?_ | refine Trip.ops ?_ | (refine Trip.ret ?_; (dsimp only)) | (refine OpsL.nil ?_; (change Trip _ _ _ _ _)))
  exact ⟨.inr rfl, _, res_tmp, by simp [tmPut, sameMF]; exact fun _ _ _ h => absurd h h3, hx0⟩
 rw [decide_eq_true h3]
 repeat (first | (refine OpsL.q (by first | exact omv | exact olen | exact old | exact ofa | exact opkF | exact onot) ?_) | refine OpsL.ung ?_)
 by_cases h4 : a.opens.length = b.opens.length
 rotate_left
 ·refine OpsL.neqT ?_
  repeat (first | (refine OpsL.q (by first | exact omv | exact opkT | exact opkF) ?_) | (refine OpsL.nil ?_; (change Trip _ _ _ _ _)) | refine OpsL.skp ?_)
  refine Trip.ifT ?_
  repeat (first | refine OpsL.q (by exact oasg) ?_ | refine Trip.seq ?_ | refine Trip.ops ?_ | (refine Trip.ret ?_; (dsimp only)) | (refine OpsL.nil ?_; (change Trip _ _ _ _ _)))
  exact ⟨.inr rfl, _, res_tmp, by simp [tmPut, sameMF]; exact fun _ _ _ _ h => absurd (congrArg List.length h) h4, hx0⟩
 refine OpsL.neqF ?_
 repeat (first | (refine OpsL.q (by first | exact omv | exact olen | exact old | exact ofa | exact opkF) ?_) | refine OpsL.ung ?_)
 by_cases h5 : a.closes.length = b.closes.length
 rotate_left
 ·refine OpsL.neqT ?_
  repeat (first | (refine OpsL.q (by first | exact omv | exact opkT | exact opkF) ?_) | (refine OpsL.nil ?_; (change Trip _ _ _ _ _)) | refine OpsL.skp ?_)
  refine Trip.ifT ?_
  repeat (first | refine OpsL.q (by exact oasg) ?_ | refine Trip.seq ?_ | refine Trip.ops ?_ | (refine Trip.ret ?_; (dsimp only)) | (refine OpsL.nil ?_; (change Trip _ _ _ _ _)))
  exact ⟨.inr rfl, _, res_tmp, by simp [tmPut, sameMF]; exact fun _ _ _ _ _ h => absurd (congrArg List.length h) h5, hx0⟩
 refine OpsL.neqF ?_
 repeat (first | (refine OpsL.q (by first | exact omv | exact olen | exact old | exact ofa | exact opkF) ?_) | refine OpsL.ung ?_)
 by_cases h6 : a.inners.length = b.inners.length
 rotate_left
 ·refine OpsL.neqT ?_
  repeat (first | refine OpsL.q (by exact opkF) ?_ | (refine OpsL.nil ?_; (change Trip _ _ _ _ _)))
  refine Trip.ifT ?_
  repeat (first | refine OpsL.q (by exact oasg) ?_ | refine Trip.seq ?_ | refine Trip.ops ?_ | (refine Trip.ret ?_; (dsimp only)) | (refine OpsL.nil ?_; (change Trip _ _ _ _ _)))
  exact ⟨.inr rfl, _, res_tmp, by simp [tmPut, sameMF]; exact fun _ _ _ _ _ _ h => absurd (congrArg List.length h) h6, hx0⟩
 refine OpsL.neqF ?_
 repeat (first | refine OpsL.q (by exact opkF) ?_ | (refine OpsL.nil ?_; (change Trip _ _ _ _ _)))
 refine Trip.ifF ?_
 repeat (first | refine OpsL.q (by exact oasg) ?_ | refine Trip.seq ?_ | refine Trip.ops ?_ | refine Trip.block ?_ | (refine Trip.skip ?_; (change Trip _ _ _ _ _)) | (refine OpsL.nil ?_; (change Trip _ _ _ _ _)))
 refine Trip.mono (Q := fun e st => (e = .exit 0 ∧ ∃ (tm' : Nat → Value), st = ⟨tm', n, G, nx + 1 + 1⟩ ∧ tm' 2 = .pointer (some ⟨nx, 0, none⟩) ∧ tm' 3 = .pointer (some ⟨nx + 1, 0, none⟩) ∧ a.opens = b.opens) ∨ (e = .ret ∧ ∃ (tm' : Nat → Value), st = ⟨tm', n, G, nx + 1 + 1⟩ ∧ tm' 4 = .bool false ∧ a.opens ≠ b.opens)) ?_ ?_
 ·refine Trip.inv (fun (i : Nat) st => ∃ (tm' : Nat → Value), st = ⟨tm', n, G, nx + 1 + 1⟩ ∧ tm' 2 = .pointer (some ⟨nx, 0, none⟩) ∧ tm' 3 = .pointer (some ⟨nx + 1, 0, none⟩) ∧ tm' 5 = .int .i64 i ∧ i ≤ a.opens.length ∧ a.opens.take i = b.opens.take i) (fun i => a.opens.length - i) 0 ?_ ?_
  ·exact ⟨_, rfl, by simp [tmPut, *], by simp [tmPut, *], by simp [tmPut, *], by omega, by simp⟩
  ·rintro i st ⟨tm, rfl, e2, e3, ei, hi, htk⟩
   by_cases hlt : i < a.opens.length
   ·have hlb : i < b.opens.length := by omega
    obtain ⟨p, rfl, g1⟩ := rows_at ha.opens hlt
    obtain ⟨q, rfl, g2⟩ := rows_at hb.opens hlb
    have hst := take_same hlt hlb htk
    repeat (first | (refine OpsL.q (by first | exact omv | exact olen | exact old | exact ofa) ?_) | refine Trip.seq ?_ | refine Trip.ops ?_)
    refine OpsL.lssT ?_
    repeat (refine OpsL.nil ?_; (change Trip _ _ _ _ _))
    refine Trip.ifT ?_
    repeat (first | refine Trip.seq ?_ | refine Trip.block ?_ | (refine Trip.skip ?_; (change Trip _ _ _ _ _)))
    refine Trip.mono (Q := fun e st => e = .normal ∧ ∃ (tm' : Nat → Value), st = ⟨tm', n, G, nx + 1 + 1⟩ ∧ tm' 2 = .pointer (some ⟨nx, 0, none⟩) ∧ tm' 3 = .pointer (some ⟨nx + 1, 0, none⟩) ∧ tm' 5 = .int .i64 i ∧ tm' 80 = .bool (!decide (a.opens[i] = b.opens[i]))) ?_ ?_
    ·refine OpsK.drawn (K := fun _ _ => True) mixedO (by kernel_rfl) (by kernel_rfl) trivial ?_
     refine OpsK.one rfl (by kernel_rfl) ?_
     repeat (first | refine OpsL.q (by exact ofa) ?_ | (refine OpsL.nil ?_; (dsimp only)))
     refine OpsK.one rfl (by kernel_rfl) ?_
     repeat (first | refine OpsL.q (by exact old) ?_ | (refine OpsL.nil ?_; (skip)))
     refine OpsK.one rfl (by kernel_rfl) ?_
     repeat (first | refine OpsL.q (by exact omv) ?_ | (refine OpsL.nil ?_; (skip)))
     refine OpsK.one rfl (by kernel_rfl) ?_
     repeat (first | refine OpsL.q (by exact oixa) ?_ | (refine OpsL.nil ?_; (dsimp only)))
     refine OpsK.one rfl (by kernel_rfl) ?_
     refine OpsL.q (aop_loadAgg (k := 4) (vs := enc4 a.opens[i]) (by simp only [ASt.ev, tmPut, ↓reduceIte, Nat.reduceEqDiff, *]; rfl) (by exact rfl) rfl (by exact rfl) g1) ?_
     repeat (refine OpsL.nil ?_; (skip))
     refine OpsK.one rfl (by kernel_rfl) ?_
     repeat (first | refine OpsL.q (by exact ofa) ?_ | (refine OpsL.nil ?_; (dsimp only)))
     refine OpsK.one rfl (by kernel_rfl) ?_
     repeat (first | refine OpsL.q (by exact old) ?_ | (refine OpsL.nil ?_; (skip)))
     refine OpsK.one rfl (by kernel_rfl) ?_
     repeat (first | refine OpsL.q (by exact omv) ?_ | (refine OpsL.nil ?_; (skip)))
     refine OpsK.one rfl (by kernel_rfl) ?_
     repeat (first | refine OpsL.q (by exact oixa) ?_ | (refine OpsL.nil ?_; (dsimp only)))
     refine OpsK.one rfl (by kernel_rfl) ?_
     refine OpsL.q (aop_loadAgg (k := 4) (vs := enc4 b.opens[i]) (by simp only [ASt.ev, tmPut, ↓reduceIte, Nat.reduceEqDiff, *]; rfl) (by exact rfl) rfl (by exact rfl) g2) ?_
     repeat (refine OpsL.nil ?_; (skip))
     refine OpsK.one rfl (by kernel_rfl) ?_
     refine OpsL.q (aop_neqA (r := decide (a.opens[i] = b.opens[i])) (by simp only [ASt.ev, tmPut, ↓reduceIte, Nat.reduceEqDiff, *]; done) (by simp only [ASt.ev, tmPut, ↓reduceIte, Nat.reduceEqDiff, *]; done) (by kernel_rfl) (eqO _ _ _ _ rfl)) ?_
     repeat (refine OpsL.nil ?_; (skip))
     refine OpsK.nil ?_
     exact ⟨rfl, _, rfl, by simp [tmPut, *], by simp [tmPut, *], by simp [tmPut, *], by simp [tmPut]⟩
    ·clear e2 e3 ei
     rintro e st ⟨rfl, tm', rfl, e2, e3, ei, ec⟩
     (change Trip _ _ _ _ _)
     by_cases hab : a.opens[i] = b.opens[i]
     ·rw [decide_eq_true hab] at ec
      repeat fail
      refine Trip.ifF ?_
      repeat (first | (refine OpsL.q (by first | exact omv | exact oasg | exact oadd) ?_) | refine Trip.ops ?_ | (refine Trip.skip ?_; ((repeat (refine blockExit_normal ?_)); change Trip _ _ _ _ _)) | (refine OpsL.nil ?_; (dsimp only)))
      exact ⟨i + 1, ⟨_, rfl, by simp [tmPut, *], by simp [tmPut, *], by simp [tmPut, *], by omega, hst.2 hab⟩, by omega⟩
     ·rw [decide_eq_false hab] at ec
      have hne : a.opens ≠ b.opens := fun h => hab (by simp only [h])
      repeat fail
      refine Trip.ifT ?_
      repeat (first | refine OpsL.q (by exact oasg) ?_ | refine Trip.seq ?_ | refine Trip.ops ?_ | (refine Trip.ret ?_; ((repeat (refine blockExit_ret ?_)); dsimp only)) | (refine OpsL.nil ?_; (change Trip _ _ _ _ _)))
      exact .inr ⟨rfl, _, rfl, by simp [tmPut], hne⟩
   ·have heq : a.opens = b.opens := by
     rw [List.take_of_length_le (by omega), List.take_of_length_le (by omega)] at htk
     exact htk
    repeat (first | (refine OpsL.q (by first | exact omv | exact olen | exact old | exact ofa) ?_) | refine Trip.seq ?_ | refine Trip.ops ?_)
    refine OpsL.lssF ?_
    repeat (refine OpsL.nil ?_; (change Trip _ _ _ _ _))
    refine Trip.ifF ?_
    repeat (refine Trip.exit ?_; (dsimp only))
    exact .inl ⟨rfl, _, rfl, by simp [tmPut, *], by simp [tmPut, *], heq⟩
 rintro e st (⟨rfl, tm', rfl, e2, e3, k0⟩ | ⟨rfl, tm', rfl, e4', hne⟩)
 rotate_left
 ·((repeat (refine blockExit_ret ?_)); dsimp only)
  refine ⟨.inr rfl, _, res_tmp, ?_, hx0⟩
  simp [e4', sameMF, hne]
 ((repeat (refine blockExit_eq ?_)); change Trip _ _ _ _ _)
 repeat (first | refine OpsL.q (by exact oasg) ?_ | refine Trip.seq ?_ | refine Trip.ops ?_ | refine Trip.block ?_ | (refine OpsL.nil ?_; (change Trip _ _ _ _ _)))
 refine Trip.mono (Q := fun e st => (e = .exit 2 ∧ ∃ (tm' : Nat → Value), st = ⟨tm', n, G, nx + 1 + 1⟩ ∧ tm' 2 = .pointer (some ⟨nx, 0, none⟩) ∧ tm' 3 = .pointer (some ⟨nx + 1, 0, none⟩) ∧ a.closes = b.closes) ∨ (e = .ret ∧ ∃ (tm' : Nat → Value), st = ⟨tm', n, G, nx + 1 + 1⟩ ∧ tm' 4 = .bool false ∧ a.closes ≠ b.closes)) ?_ ?_
 ·refine Trip.inv (fun (i : Nat) st => ∃ (tm' : Nat → Value), st = ⟨tm', n, G, nx + 1 + 1⟩ ∧ tm' 2 = .pointer (some ⟨nx, 0, none⟩) ∧ tm' 3 = .pointer (some ⟨nx + 1, 0, none⟩) ∧ tm' 6 = .int .i64 i ∧ i ≤ a.closes.length ∧ a.closes.take i = b.closes.take i) (fun i => a.closes.length - i) 0 ?_ ?_
  ·exact ⟨_, rfl, by simp [tmPut, *], by simp [tmPut, *], by simp [tmPut, *], by omega, by simp⟩
  ·clear e2 e3
   rintro i st ⟨tm, rfl, e2, e3, ei, hi, htk⟩
   by_cases hlt : i < a.closes.length
   ·have hlb : i < b.closes.length := by omega
    obtain ⟨p, rfl, g1⟩ := rows_at ha.closes hlt
    obtain ⟨q, rfl, g2⟩ := rows_at hb.closes hlb
    have hst := take_same hlt hlb htk
    repeat (first | (refine OpsL.q (by first | exact omv | exact olen | exact old | exact ofa) ?_) | refine Trip.seq ?_ | refine Trip.ops ?_)
    refine OpsL.lssT ?_
    repeat (refine OpsL.nil ?_; (change Trip _ _ _ _ _))
    refine Trip.ifT ?_
    repeat (first | refine Trip.seq ?_ | refine Trip.block ?_ | (refine Trip.skip ?_; (change Trip _ _ _ _ _)))
    refine Trip.mono (Q := fun e st => e = .normal ∧ ∃ (tm' : Nat → Value), st = ⟨tm', n, G, nx + 1 + 1⟩ ∧ tm' 2 = .pointer (some ⟨nx, 0, none⟩) ∧ tm' 3 = .pointer (some ⟨nx + 1, 0, none⟩) ∧ tm' 6 = .int .i64 i ∧ tm' 98 = .bool (!decide (a.closes[i] = b.closes[i]))) ?_ ?_
    ·refine OpsK.drawn (K := fun _ _ => True) mixedO (by kernel_rfl) (by kernel_rfl) trivial ?_
     refine OpsK.one rfl (by kernel_rfl) ?_
     repeat (first | refine OpsL.q (by exact ofa) ?_ | (refine OpsL.nil ?_; (dsimp only)))
     refine OpsK.one rfl (by kernel_rfl) ?_
     repeat (first | refine OpsL.q (by exact old) ?_ | (refine OpsL.nil ?_; (skip)))
     refine OpsK.one rfl (by kernel_rfl) ?_
     repeat (first | refine OpsL.q (by exact omv) ?_ | (refine OpsL.nil ?_; (skip)))
     refine OpsK.one rfl (by kernel_rfl) ?_
     repeat (first | refine OpsL.q (by exact oixa) ?_ | (refine OpsL.nil ?_; (dsimp only)))
     refine OpsK.one rfl (by kernel_rfl) ?_
     refine OpsL.q (aop_loadAgg (k := 4) (vs := enc4 a.closes[i]) (by simp only [ASt.ev, tmPut, ↓reduceIte, Nat.reduceEqDiff, *]; rfl) (by exact rfl) rfl (by exact rfl) g1) ?_
     repeat (refine OpsL.nil ?_; (skip))
     refine OpsK.one rfl (by kernel_rfl) ?_
     repeat (first | refine OpsL.q (by exact ofa) ?_ | (refine OpsL.nil ?_; (dsimp only)))
     refine OpsK.one rfl (by kernel_rfl) ?_
     repeat (first | refine OpsL.q (by exact old) ?_ | (refine OpsL.nil ?_; (skip)))
     refine OpsK.one rfl (by kernel_rfl) ?_
     repeat (first | refine OpsL.q (by exact omv) ?_ | (refine OpsL.nil ?_; (skip)))
     refine OpsK.one rfl (by kernel_rfl) ?_
     repeat (first | refine OpsL.q (by exact oixa) ?_ | (refine OpsL.nil ?_; (dsimp only)))
     refine OpsK.one rfl (by kernel_rfl) ?_
     refine OpsL.q (aop_loadAgg (k := 4) (vs := enc4 b.closes[i]) (by simp only [ASt.ev, tmPut, ↓reduceIte, Nat.reduceEqDiff, *]; rfl) (by exact rfl) rfl (by exact rfl) g2) ?_
     repeat (refine OpsL.nil ?_; (skip))
     refine OpsK.one rfl (by kernel_rfl) ?_
     refine OpsL.q (aop_neqA (r := decide (a.closes[i] = b.closes[i])) (by simp only [ASt.ev, tmPut, ↓reduceIte, Nat.reduceEqDiff, *]; done) (by simp only [ASt.ev, tmPut, ↓reduceIte, Nat.reduceEqDiff, *]; done) (by kernel_rfl) (eqC _ _ _ _ rfl)) ?_
     repeat (refine OpsL.nil ?_; (skip))
     refine OpsK.nil ?_
     exact ⟨rfl, _, rfl, by simp [tmPut, *], by simp [tmPut, *], by simp [tmPut, *], by simp [tmPut]⟩
    ·clear e2 e3 ei
     rintro e st ⟨rfl, tm', rfl, e2, e3, ei, ec⟩
     (change Trip _ _ _ _ _)
     by_cases hab : a.closes[i] = b.closes[i]
     ·rw [decide_eq_true hab] at ec
      repeat fail
      refine Trip.ifF ?_
      repeat (first | (refine OpsL.q (by first | exact omv | exact oasg | exact oadd) ?_) | refine Trip.ops ?_ | (refine Trip.skip ?_; ((repeat (refine blockExit_normal ?_)); change Trip _ _ _ _ _)) | (refine OpsL.nil ?_; (dsimp only)))
      exact ⟨i + 1, ⟨_, rfl, by simp [tmPut, *], by simp [tmPut, *], by simp [tmPut, *], by omega, hst.2 hab⟩, by omega⟩
     ·rw [decide_eq_false hab] at ec
      have hne : a.closes ≠ b.closes := fun h => hab (by simp only [h])
      repeat fail
      refine Trip.ifT ?_
      repeat (first | refine OpsL.q (by exact oasg) ?_ | refine Trip.seq ?_ | refine Trip.ops ?_ | (refine Trip.ret ?_; ((repeat (refine blockExit_ret ?_)); dsimp only)) | (refine OpsL.nil ?_; (change Trip _ _ _ _ _)))
      exact .inr ⟨rfl, _, rfl, by simp [tmPut], hne⟩
   ·have heq : a.closes = b.closes := by
     rw [List.take_of_length_le (by omega), List.take_of_length_le (by omega)] at htk
     exact htk
    repeat (first | (refine OpsL.q (by first | exact omv | exact olen | exact old | exact ofa) ?_) | refine Trip.seq ?_ | refine Trip.ops ?_)
    refine OpsL.lssF ?_
    repeat (refine OpsL.nil ?_; (change Trip _ _ _ _ _))
    refine Trip.ifF ?_
    repeat (refine Trip.exit ?_; (dsimp only))
    exact .inl ⟨rfl, _, rfl, by simp [tmPut, *], by simp [tmPut, *], heq⟩
 rintro e st (⟨rfl, tm', rfl, e2, e3, k1⟩ | ⟨rfl, tm', rfl, e4', hne⟩)
 rotate_left
 ·((repeat (refine blockExit_ret ?_)); dsimp only)
  refine ⟨.inr rfl, _, res_tmp, ?_, hx0⟩
  simp [e4', sameMF, hne]
 ((repeat (refine blockExit_eq ?_)); change Trip _ _ _ _ _)
 repeat (first | refine OpsL.q (by exact oasg) ?_ | refine Trip.seq ?_ | refine Trip.ops ?_ | refine Trip.block ?_ | (refine OpsL.nil ?_; (change Trip _ _ _ _ _)))
 refine Trip.mono (Q := fun e st => (e = .exit 4 ∧ ∃ (tm' : Nat → Value), st = ⟨tm', n, G, nx + 1 + 1⟩ ∧ tm' 2 = .pointer (some ⟨nx, 0, none⟩) ∧ tm' 3 = .pointer (some ⟨nx + 1, 0, none⟩) ∧ a.inners = b.inners) ∨ (e = .ret ∧ ∃ (tm' : Nat → Value), st = ⟨tm', n, G, nx + 1 + 1⟩ ∧ tm' 4 = .bool false ∧ a.inners ≠ b.inners)) ?_ ?_
 ·refine Trip.inv (fun (i : Nat) st => ∃ (tm' : Nat → Value), st = ⟨tm', n, G, nx + 1 + 1⟩ ∧ tm' 2 = .pointer (some ⟨nx, 0, none⟩) ∧ tm' 3 = .pointer (some ⟨nx + 1, 0, none⟩) ∧ tm' 7 = .int .i64 i ∧ i ≤ a.inners.length ∧ a.inners.take i = b.inners.take i) (fun i => a.inners.length - i) 0 ?_ ?_
  ·exact ⟨_, rfl, by simp [tmPut, *], by simp [tmPut, *], by simp [tmPut, *], by omega, by simp⟩
  ·clear e2 e3
   rintro i st ⟨tm, rfl, e2, e3, ei, hi, htk⟩
   by_cases hlt : i < a.inners.length
   ·have hlb : i < b.inners.length := by omega
    obtain ⟨p, rfl, g1⟩ := rows_at ha.inners hlt
    obtain ⟨q, rfl, g2⟩ := rows_at hb.inners hlb
    have hst := take_same hlt hlb htk
    repeat (first | (refine OpsL.q (by first | exact omv | exact olen | exact old | exact ofa) ?_) | refine Trip.seq ?_ | refine Trip.ops ?_)
    refine OpsL.lssT ?_
    repeat (refine OpsL.nil ?_; (change Trip _ _ _ _ _))
    refine Trip.ifT ?_
    repeat (first | refine Trip.seq ?_ | refine Trip.block ?_ | (refine Trip.skip ?_; (change Trip _ _ _ _ _)))
    refine Trip.mono (Q := fun e st => e = .normal ∧ ∃ (tm' : Nat → Value), st = ⟨tm', n, G, nx + 1 + 1⟩ ∧ tm' 2 = .pointer (some ⟨nx, 0, none⟩) ∧ tm' 3 = .pointer (some ⟨nx + 1, 0, none⟩) ∧ tm' 7 = .int .i64 i ∧ tm' 116 = .bool (!decide (a.inners[i] = b.inners[i]))) ?_ ?_
    ·refine OpsK.drawn (K := fun _ _ => True) mixedO (by kernel_rfl) (by kernel_rfl) trivial ?_
     refine OpsK.one rfl (by kernel_rfl) ?_
     repeat (first | refine OpsL.q (by exact ofa) ?_ | (refine OpsL.nil ?_; (dsimp only)))
     refine OpsK.one rfl (by kernel_rfl) ?_
     repeat (first | refine OpsL.q (by exact old) ?_ | (refine OpsL.nil ?_; (skip)))
     refine OpsK.one rfl (by kernel_rfl) ?_
     repeat (first | refine OpsL.q (by exact omv) ?_ | (refine OpsL.nil ?_; (skip)))
     refine OpsK.one rfl (by kernel_rfl) ?_
     repeat (first | refine OpsL.q (by exact oixa) ?_ | (refine OpsL.nil ?_; (dsimp only)))
     refine OpsK.one rfl (by kernel_rfl) ?_
     refine OpsL.q (aop_loadAgg (k := 3) (vs := enc3 a.inners[i]) (by simp only [ASt.ev, tmPut, ↓reduceIte, Nat.reduceEqDiff, *]; rfl) (by exact rfl) rfl (by exact rfl) g1) ?_
     repeat (refine OpsL.nil ?_; (skip))
     refine OpsK.one rfl (by kernel_rfl) ?_
     repeat (first | refine OpsL.q (by exact ofa) ?_ | (refine OpsL.nil ?_; (dsimp only)))
     refine OpsK.one rfl (by kernel_rfl) ?_
     repeat (first | refine OpsL.q (by exact old) ?_ | (refine OpsL.nil ?_; (skip)))
     refine OpsK.one rfl (by kernel_rfl) ?_
     repeat (first | refine OpsL.q (by exact omv) ?_ | (refine OpsL.nil ?_; (skip)))
     refine OpsK.one rfl (by kernel_rfl) ?_
     repeat (first | refine OpsL.q (by exact oixa) ?_ | (refine OpsL.nil ?_; (dsimp only)))
     refine OpsK.one rfl (by kernel_rfl) ?_
     refine OpsL.q (aop_loadAgg (k := 3) (vs := enc3 b.inners[i]) (by simp only [ASt.ev, tmPut, ↓reduceIte, Nat.reduceEqDiff, *]; rfl) (by exact rfl) rfl (by exact rfl) g2) ?_
     repeat (refine OpsL.nil ?_; (skip))
     refine OpsK.one rfl (by kernel_rfl) ?_
     refine OpsL.q (aop_neqA (r := decide (a.inners[i] = b.inners[i])) (by simp only [ASt.ev, tmPut, ↓reduceIte, Nat.reduceEqDiff, *]; done) (by simp only [ASt.ev, tmPut, ↓reduceIte, Nat.reduceEqDiff, *]; done) (by kernel_rfl) (eqN _ _ _ _ rfl)) ?_
     repeat (refine OpsL.nil ?_; (skip))
     refine OpsK.nil ?_
     exact ⟨rfl, _, rfl, by simp [tmPut, *], by simp [tmPut, *], by simp [tmPut, *], by simp [tmPut]⟩
    ·clear e2 e3 ei
     rintro e st ⟨rfl, tm', rfl, e2, e3, ei, ec⟩
     (change Trip _ _ _ _ _)
     by_cases hab : a.inners[i] = b.inners[i]
     ·rw [decide_eq_true hab] at ec
      repeat fail
      refine Trip.ifF ?_
      repeat (first | (refine OpsL.q (by first | exact omv | exact oasg | exact oadd) ?_) | refine Trip.ops ?_ | (refine Trip.skip ?_; ((repeat (refine blockExit_normal ?_)); change Trip _ _ _ _ _)) | (refine OpsL.nil ?_; (dsimp only)))
      exact ⟨i + 1, ⟨_, rfl, by simp [tmPut, *], by simp [tmPut, *], by simp [tmPut, *], by omega, hst.2 hab⟩, by omega⟩
     ·rw [decide_eq_false hab] at ec
      have hne : a.inners ≠ b.inners := fun h => hab (by simp only [h])
      repeat fail
      refine Trip.ifT ?_
      repeat (first | refine OpsL.q (by exact oasg) ?_ | refine Trip.seq ?_ | refine Trip.ops ?_ | (refine Trip.ret ?_; ((repeat (refine blockExit_ret ?_)); dsimp only)) | (refine OpsL.nil ?_; (change Trip _ _ _ _ _)))
      exact .inr ⟨rfl, _, rfl, by simp [tmPut], hne⟩
   ·have heq : a.inners = b.inners := by
     rw [List.take_of_length_le (by omega), List.take_of_length_le (by omega)] at htk
     exact htk
    repeat (first | (refine OpsL.q (by first | exact omv | exact olen | exact old | exact ofa) ?_) | refine Trip.seq ?_ | refine Trip.ops ?_)
    refine OpsL.lssF ?_
    repeat (refine OpsL.nil ?_; (change Trip _ _ _ _ _))
    refine Trip.ifF ?_
    repeat (refine Trip.exit ?_; (dsimp only))
    exact .inl ⟨rfl, _, rfl, by simp [tmPut, *], by simp [tmPut, *], heq⟩
 rintro e st (⟨rfl, tm', rfl, e2, e3, k2⟩ | ⟨rfl, tm', rfl, e4', hne⟩)
 rotate_left
 ·((repeat (refine blockExit_ret ?_)); dsimp only)
  refine ⟨.inr rfl, _, res_tmp, ?_, hx0⟩
  simp [e4', sameMF, hne]
 ((repeat (refine blockExit_eq ?_)); change Trip _ _ _ _ _)
 repeat (first | refine OpsL.q (by exact oasg) ?_ | refine Trip.seq ?_ | refine Trip.ops ?_ | (refine Trip.ret ?_; (dsimp only)) | (refine OpsL.nil ?_; (change Trip _ _ _ _ _)))
 exact ⟨.inr rfl, _, res_tmp, by simp [tmPut, sameMF, *], hx0⟩
end Go.Proofs.YtjohiaoepbnicaaGreat
namespace Go.Proofs.YtjohiaoepbnicaaGreat
set_option linter.unusedSimpArgs false
set_option linter.unusedVariables false
open Go.RowKit Go.Am
theorem reach_state {a : Aut} {x : Int} (h : ReachT a (0, x)) : x ∈ a.init ∨ ∃ m ∈ movesA a, (∀ u ∈ needsT m, ReachT a u) ∧ m.2.2.1 = x := by
 generalize ht : ((0, x) : Thg) = t at h
 cases h with
 | bot => cases ht
 | init hs => cases ht; exact .inl hs
 | step hm hn hg =>
  subst ht
  refine .inr ⟨_, hm, hn, ?_⟩
  simp only [givesT, List.mem_cons, List.not_mem_nil, or_false, Prod.mk.injEq] at hg
  rcases hg with hg | hg
  ·exact hg.2.symm
  ·exact absurd hg.1 (by decide)
theorem reach_mark {a : Aut} {x : Int} (h : ReachT a (1, x)) : x = 0 ∨ ∃ m ∈ movesA a, (∀ u ∈ needsT m, ReachT a u) ∧ m.2.2.2 = x := by
 generalize ht : ((1, x) : Thg) = t at h
 cases h with
 | bot => cases ht; exact .inl rfl
 | init hs => cases ht
 | step hm hn hg =>
  subst ht
  refine .inr ⟨_, hm, hn, ?_⟩
  simp only [givesT, List.mem_cons, List.not_mem_nil, or_false, Prod.mk.injEq] at hg
  rcases hg with hg | hg
  ·exact absurd hg.1 (by decide)
  ·exact hg.2.symm
theorem posI_get : ∀ (l : List Int) (i p : Nat), l.Pairwise (· < ·) → ∀ h : p < l.length, posI l l[p] i = some (i + p) := by
 intro l
 induction l with
 | nil => intro i p _ h; simp at h
 | cons y l ih =>
  intro i p hp h
  obtain ⟨h1, h2⟩ := List.pairwise_cons.1 hp
  cases p with
  | zero => simp [posI]
  | succ p =>
   have hlt : p < l.length := by simpa using h
   have := h1 l[p] (List.getElem_mem hlt)
   simp only [List.getElem_cons_succ, posI]
   rw [if_neg (by omega), ih (i + 1) p h2 hlt]
   congr 1
   omega
theorem numO_get {L : List Int} (hL : L.Pairwise (· < ·)) {p : Nat} (h : p < L.length) : numO L L[p] = some (p : Int) := by
 simp [numO, posI_get L 0 p hL h]
theorem numO_mem {L : List Int} (hL : L.Pairwise (· < ·)) {x : Int} (h : x ∈ L) : ∃ p, p < L.length ∧ numO L x = some (p : Int) := by
 obtain ⟨p, hp, rfl⟩ := List.mem_iff_getElem.1 h
 exact ⟨p, hp, numO_get hL hp⟩
theorem posI_mem : ∀ (l : List Int) (x : Int) (i p : Nat), posI l x i = some p → x ∈ l ∧ i ≤ p ∧ p < i + l.length := by
 intro l
 induction l with
 | nil => intro x i p h; cases h
 | cons y l ih =>
  intro x i p h
  by_cases e : x = y
  ·subst e
   simp [posI] at h
   subst h
   simp
  ·simp only [posI, e, if_false] at h
   obtain ⟨h1, h2, h3⟩ := ih x (i + 1) p h
   exact ⟨by simp [h1], by omega, by simp only [List.length_cons]; omega⟩
theorem numO_lt {L : List Int} {x y : Int} (h : numO L x = some y) : x ∈ L ∧ 0 ≤ y ∧ y < L.length := by
 unfold numO at h
 cases hp : posI L x 0 with
 | none => rw [hp] at h; cases h
 | some p =>
  rw [hp] at h
  cases h
  obtain ⟨h1, _, h3⟩ := posI_mem L x 0 p hp
  exact ⟨h1, by show (0 : Int) ≤ (p : Int); omega, by show (p : Int) < _; omega⟩
end Go.Proofs.YtjohiaoepbnicaaGreat
namespace Go.Am
set_option linter.unusedSimpArgs false
set_option linter.unusedVariables false
open Go.RowKit
section
variable {P : Program}
end
end Go.Am
namespace Go.Proofs.YtjohiaoepbnicaaGreat
set_option linter.unusedSimpArgs false
set_option linter.unusedVariables false
open Go.Am Go.RowKit
attribute [local irreducible] aop OpsL Trip blockExit OpsD OpsK OpsR
variable {W0 : World} {ops : Array Oper} {type : TypeId} {pos : String} {after : Array Edge} {os : List Oper} {tm : Nat → Value} {n : Nat} {d : Tmp} {QQ : ASt → Prop}
set_option maxRecDepth 20000 in
theorem bsO {x : Operand} {r : R4} {H : Heap} {nx : Nat} (hd : d < n) (hx : ASt.ev ⟨tm, n, H, nx⟩ x = some (.agg (e4 r).toArray))
  (hc : ∀ G, Ext nx H (nx + 1) G → RowsAt e4 4 G (.slice (some ⟨nx, 0, none⟩) 1 1) [r] → OpsL Tryz.prog W0 ops os ⟨tmPut tm (some d) (.slice (some ⟨nx, 0, none⟩) 1 1), n, G, nx + 1⟩ QQ) :
  OpsL Tryz.prog W0 ops (⟨some d, .buildSlice 26 1 #[(0, x)], type, pos, after, none⟩ :: os) ⟨tm, n, H, nx⟩ QQ := by
 refine OpsL.new hd (aop_buildSlice (l := [(0, .agg (e4 r).toArray)]) (r := (.slice (some ⟨nx, 0, none⟩) 1 1, .new (.cells (e4 r) 4 none false (some 44)))) (by simp [evParts, hx]) (by kernel_rfl)) ?_
 refine hc _ Ext.newPut (.inr ⟨⟨nx, 0, none⟩, 1, rfl, fun j hj => ?_⟩)
 have : j = 0 := by simpa using hj
 subst this
 exact getc_own (by show 0 + 4 ≤ 4; decide)
set_option maxRecDepth 20000 in
theorem appO {x y : Operand} {r : R4} {H G : Heap} {base A nx : Nat} {a : Aut} {l : List (Option (Nat × Nat))} {vi vf vo vc vn : Value} (hm : MkIn H base A nx a l vi vf vo vc vn) (hl : a.opens.length ≤ 1000) (x4 : Ext nx H (nx + 1) G) (hone : RowsAt e4 4 G (.slice (some ⟨nx, 0, none⟩) 1 1) [r])
  (hd : d < n) (hx : ASt.ev ⟨tm, n, G, nx + 1⟩ x = some vo) (hy : ASt.ev ⟨tm, n, G, nx + 1⟩ y = some (.slice (some ⟨nx, 0, none⟩) 1 1))
  (hc : ∀ (v' : Value) (nx5 : Nat) (H5 : Heap) (l5 : List (Option (Nat × Nat))), H5 A = some (.cells (autV a vi vf vo vc vn) 0 none false (some 30)) →
   MkIn (H5.put A (.cells (autV (putO a r) vi vf v' vc vn) 0 none false (some 30))) base A nx5 (putO a r) l5 vi vf v' vc vn → (∀ i, i < base → i ≠ A → H5 i = H i) → nx ≤ nx5 → v'.cells = #[v'] → v'.oneCell' = true → OpsL Tryz.prog W0 ops os ⟨tmPut tm (some d) v', n, H5, nx5⟩ QQ) :
  OpsL Tryz.prog W0 ops (⟨some d, .call ⟨.builtin .append, #[x, y], #[26, 26]⟩, type, pos, after, none⟩ :: os) ⟨tm, n, G, nx + 1⟩ QQ := by
 obtain ⟨ob, hj, hown⟩ := hm.opens
 have hA := hm.hA
 have hB := hm.hb
 have hbl : ∀ b t, ob = some (b, t) → base ≤ b ∧ b ≠ A ∧ b < nx := fun b t hb => hm.sep.1 2 b t (by rw [hj, hb])
 refine OpsL.appendO (bytes := 32) (z := rep 4 [.int .i64 0]) e4_len e4_one (by omega) hd (hown.ext x4 (fun b t h => (hbl b t h).2.2)) hone hx hy (fun b t h => by have := (hbl b t h).2.2; omega) (by exact rfl) (by exact rfl) (by exact rfl) (by exact rfl) (by exact rfl) rfl (by simp; omega) (by omega) ?_
 intro v' nx5 H5 ob5 hA5
 obtain ⟨b5, t5, hob5⟩ : ∃ b t, ob5 = some (b, t) := by
  cases ob5 with
  | none => exfalso; have := hA5.own.2.2; simp at this
  | some x => exact ⟨x.1, x.2, rfl⟩
 subst hob5
 have hle5 := hA5.le
 have hsame : ∀ i, i < nx → (∀ b t, ob = some (b, t) → i ≠ b) → H5 i = H i := fun i hi hb => by rw [hA5.same i (by omega) hb, x4.2 i hi]
 obtain ⟨k1, k2⟩ := hA5.blk b5 t5 rfl
 have hm2 := hm.putO (p := r) (nx1 := nx5) hj hA5.own (by rcases k2 with k2 | k2; exact .inl (by omega); exact .inr k2) k1 (by omega) hsame
 refine hc v' nx5 H5 _ ((hsame A hA (fun b t hb e => (hbl b t hb).2.1 e.symm)).trans hm.cell) hm2 (fun i hi hi2 => hsame i (by omega) (fun b t hb => by have := hbl b t hb; omega)) (by omega) (by rw [hA5.own.1]; rfl) (by rw [hA5.own.1]; rfl)
set_option maxRecDepth 20000 in
theorem bsC {x : Operand} {r : R4} {H : Heap} {nx : Nat} (hd : d < n) (hx : ASt.ev ⟨tm, n, H, nx⟩ x = some (.agg (e4 r).toArray))
  (hc : ∀ G, Ext nx H (nx + 1) G → RowsAt e4 4 G (.slice (some ⟨nx, 0, none⟩) 1 1) [r] → OpsL Tryz.prog W0 ops os ⟨tmPut tm (some d) (.slice (some ⟨nx, 0, none⟩) 1 1), n, G, nx + 1⟩ QQ) :
  OpsL Tryz.prog W0 ops (⟨some d, .buildSlice 27 1 #[(0, x)], type, pos, after, none⟩ :: os) ⟨tm, n, H, nx⟩ QQ := by
 refine OpsL.new hd (aop_buildSlice (l := [(0, .agg (e4 r).toArray)]) (r := (.slice (some ⟨nx, 0, none⟩) 1 1, .new (.cells (e4 r) 4 none false (some 46)))) (by simp [evParts, hx]) (by kernel_rfl)) ?_
 refine hc _ Ext.newPut (.inr ⟨⟨nx, 0, none⟩, 1, rfl, fun j hj => ?_⟩)
 have : j = 0 := by simpa using hj
 subst this
 exact getc_own (by show 0 + 4 ≤ 4; decide)
set_option maxRecDepth 20000 in
theorem appC {x y : Operand} {r : R4} {H G : Heap} {base A nx : Nat} {a : Aut} {l : List (Option (Nat × Nat))} {vi vf vo vc vn : Value} (hm : MkIn H base A nx a l vi vf vo vc vn) (hl : a.closes.length ≤ 1000) (x4 : Ext nx H (nx + 1) G) (hone : RowsAt e4 4 G (.slice (some ⟨nx, 0, none⟩) 1 1) [r])
  (hd : d < n) (hx : ASt.ev ⟨tm, n, G, nx + 1⟩ x = some vc) (hy : ASt.ev ⟨tm, n, G, nx + 1⟩ y = some (.slice (some ⟨nx, 0, none⟩) 1 1))
  (hc : ∀ (v' : Value) (nx5 : Nat) (H5 : Heap) (l5 : List (Option (Nat × Nat))), H5 A = some (.cells (autV a vi vf vo vc vn) 0 none false (some 30)) →
   MkIn (H5.put A (.cells (autV (putC a r) vi vf vo v' vn) 0 none false (some 30))) base A nx5 (putC a r) l5 vi vf vo v' vn → (∀ i, i < base → i ≠ A → H5 i = H i) → nx ≤ nx5 → v'.cells = #[v'] → v'.oneCell' = true → OpsL Tryz.prog W0 ops os ⟨tmPut tm (some d) v', n, H5, nx5⟩ QQ) :
  OpsL Tryz.prog W0 ops (⟨some d, .call ⟨.builtin .append, #[x, y], #[27, 27]⟩, type, pos, after, none⟩ :: os) ⟨tm, n, G, nx + 1⟩ QQ := by
 obtain ⟨ob, hj, hown⟩ := hm.closes
 have hA := hm.hA
 have hB := hm.hb
 have hbl : ∀ b t, ob = some (b, t) → base ≤ b ∧ b ≠ A ∧ b < nx := fun b t hb => hm.sep.1 3 b t (by rw [hj, hb])
 refine OpsL.appendO (bytes := 32) (z := rep 4 [.int .i64 0]) e4_len e4_one (by omega) hd (hown.ext x4 (fun b t h => (hbl b t h).2.2)) hone hx hy (fun b t h => by have := (hbl b t h).2.2; omega) (by exact rfl) (by exact rfl) (by exact rfl) (by exact rfl) (by exact rfl) rfl (by simp; omega) (by omega) ?_
 intro v' nx5 H5 ob5 hA5
 obtain ⟨b5, t5, hob5⟩ : ∃ b t, ob5 = some (b, t) := by
  cases ob5 with
  | none => exfalso; have := hA5.own.2.2; simp at this
  | some x => exact ⟨x.1, x.2, rfl⟩
 subst hob5
 have hle5 := hA5.le
 have hsame : ∀ i, i < nx → (∀ b t, ob = some (b, t) → i ≠ b) → H5 i = H i := fun i hi hb => by rw [hA5.same i (by omega) hb, x4.2 i hi]
 obtain ⟨k1, k2⟩ := hA5.blk b5 t5 rfl
 have hm2 := hm.putC (p := r) (nx1 := nx5) hj hA5.own (by rcases k2 with k2 | k2; exact .inl (by omega); exact .inr k2) k1 (by omega) hsame
 refine hc v' nx5 H5 _ ((hsame A hA (fun b t hb e => (hbl b t hb).2.1 e.symm)).trans hm.cell) hm2 (fun i hi hi2 => hsame i (by omega) (fun b t hb => by have := hbl b t hb; omega)) (by omega) (by rw [hA5.own.1]; rfl) (by rw [hA5.own.1]; rfl)
set_option maxRecDepth 20000 in
theorem bsN {x : Operand} {r : R3} {H : Heap} {nx : Nat} (hd : d < n) (hx : ASt.ev ⟨tm, n, H, nx⟩ x = some (.agg (e3 r).toArray))
  (hc : ∀ G, Ext nx H (nx + 1) G → RowsAt e3 3 G (.slice (some ⟨nx, 0, none⟩) 1 1) [r] → OpsL Tryz.prog W0 ops os ⟨tmPut tm (some d) (.slice (some ⟨nx, 0, none⟩) 1 1), n, G, nx + 1⟩ QQ) :
  OpsL Tryz.prog W0 ops (⟨some d, .buildSlice 28 1 #[(0, x)], type, pos, after, none⟩ :: os) ⟨tm, n, H, nx⟩ QQ := by
 refine OpsL.new hd (aop_buildSlice (l := [(0, .agg (e3 r).toArray)]) (r := (.slice (some ⟨nx, 0, none⟩) 1 1, .new (.cells (e3 r) 3 none false (some 48)))) (by simp [evParts, hx]) (by kernel_rfl)) ?_
 refine hc _ Ext.newPut (.inr ⟨⟨nx, 0, none⟩, 1, rfl, fun j hj => ?_⟩)
 have : j = 0 := by simpa using hj
 subst this
 exact getc_own (by show 0 + 3 ≤ 3; decide)
set_option maxRecDepth 20000 in
theorem appN {x y : Operand} {r : R3} {H G : Heap} {base A nx : Nat} {a : Aut} {l : List (Option (Nat × Nat))} {vi vf vo vc vn : Value} (hm : MkIn H base A nx a l vi vf vo vc vn) (hl : a.inners.length ≤ 1000) (x4 : Ext nx H (nx + 1) G) (hone : RowsAt e3 3 G (.slice (some ⟨nx, 0, none⟩) 1 1) [r])
  (hd : d < n) (hx : ASt.ev ⟨tm, n, G, nx + 1⟩ x = some vn) (hy : ASt.ev ⟨tm, n, G, nx + 1⟩ y = some (.slice (some ⟨nx, 0, none⟩) 1 1))
  (hc : ∀ (v' : Value) (nx5 : Nat) (H5 : Heap) (l5 : List (Option (Nat × Nat))), H5 A = some (.cells (autV a vi vf vo vc vn) 0 none false (some 30)) →
   MkIn (H5.put A (.cells (autV (putN a r) vi vf vo vc v') 0 none false (some 30))) base A nx5 (putN a r) l5 vi vf vo vc v' → (∀ i, i < base → i ≠ A → H5 i = H i) → nx ≤ nx5 → v'.cells = #[v'] → v'.oneCell' = true → OpsL Tryz.prog W0 ops os ⟨tmPut tm (some d) v', n, H5, nx5⟩ QQ) :
  OpsL Tryz.prog W0 ops (⟨some d, .call ⟨.builtin .append, #[x, y], #[28, 28]⟩, type, pos, after, none⟩ :: os) ⟨tm, n, G, nx + 1⟩ QQ := by
 obtain ⟨ob, hj, hown⟩ := hm.inners
 have hA := hm.hA
 have hB := hm.hb
 have hbl : ∀ b t, ob = some (b, t) → base ≤ b ∧ b ≠ A ∧ b < nx := fun b t hb => hm.sep.1 4 b t (by rw [hj, hb])
 refine OpsL.appendO (bytes := 24) (z := rep 3 [.int .i64 0]) e3_len e3_one (by omega) hd (hown.ext x4 (fun b t h => (hbl b t h).2.2)) hone hx hy (fun b t h => by have := (hbl b t h).2.2; omega) (by exact rfl) (by exact rfl) (by exact rfl) (by exact rfl) (by exact rfl) rfl (by simp; omega) (by omega) ?_
 intro v' nx5 H5 ob5 hA5
 obtain ⟨b5, t5, hob5⟩ : ∃ b t, ob5 = some (b, t) := by
  cases ob5 with
  | none => exfalso; have := hA5.own.2.2; simp at this
  | some x => exact ⟨x.1, x.2, rfl⟩
 subst hob5
 have hle5 := hA5.le
 have hsame : ∀ i, i < nx → (∀ b t, ob = some (b, t) → i ≠ b) → H5 i = H i := fun i hi hb => by rw [hA5.same i (by omega) hb, x4.2 i hi]
 obtain ⟨k1, k2⟩ := hA5.blk b5 t5 rfl
 have hm2 := hm.putN (p := r) (nx1 := nx5) hj hA5.own (by rcases k2 with k2 | k2; exact .inl (by omega); exact .inr k2) k1 (by omega) hsame
 refine hc v' nx5 H5 _ ((hsame A hA (fun b t hb e => (hbl b t hb).2.1 e.symm)).trans hm.cell) hm2 (fun i hi hi2 => hsame i (by omega) (fun b t hb => by have := hbl b t hb; omega)) (by omega) (by rw [hA5.own.1]; rfl) (by rw [hA5.own.1]; rfl)
end Go.Proofs.YtjohiaoepbnicaaGreat
