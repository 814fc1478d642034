import Derived.Test.YtmijhkclfoadaaaDoorQEM21
namespace Go.Am
set_option linter.unusedSimpArgs false
set_option linter.unusedVariables false
open Go.RowKit
def nxtX (ns : List Int) (at_ : Nat) (m : Int) : Int × Nat := match ns[at_]? with | some x => (x % m, at_ + 1) | none => (0, at_)
def pickGo (ss : List (ByteArray × Int)) (kd k : Int) : Nat → Nat → Int
  | 0, _ => -1
  | n + 1, i => if kindX ss ((k + i) % ss.length) = kd then (k + i) % ss.length else pickGo ss kd k n (i + 1)
def pickX (ss : List (ByteArray × Int)) (ns : List Int) (kd : Int) (at_ : Nat) : Int × Nat := (pickGo ss kd (nxtX ns at_ ss.length).1 ss.length 0, (nxtX ns at_ ss.length).2)
theorem nxtX_lt {ns : List Int} {at_ : Nat} {m : Int} (hm : 0 < m) : 0 ≤ (nxtX ns at_ m).1 ∧ (nxtX ns at_ m).1 < m := by
  unfold nxtX
  split
  · exact ⟨Int.emod_nonneg _ (by omega), Int.emod_lt_of_pos _ hm⟩
  · exact ⟨Int.le_refl _, hm⟩
theorem nxtX_at {ns : List Int} {at_ : Nat} {m : Int} : at_ ≤ (nxtX ns at_ m).2 ∧ (nxtX ns at_ m).2 ≤ at_ + 1 := by
  unfold nxtX
  split
  · exact ⟨Nat.le_succ _, Nat.le_refl _⟩
  · exact ⟨Nat.le_refl _, Nat.le_succ _⟩
theorem pickX_at {ss : List (ByteArray × Int)} {ns : List Int} {kd : Int} {at_ : Nat} : at_ ≤ (pickX ss ns kd at_).2 ∧ (pickX ss ns kd at_).2 ≤ at_ + 1 := nxtX_at
def OffV (b : Nat) (v : Value) : Prop := ∀ a l c, v = .slice (some a) l c → a.block ≠ b
theorem IntsAt.off {b : Nat} {H H' : Heap} {v : Value} {l : List Int} (h : IntsAt H v l) (ho : l ≠ [] → OffV b v) (hs : ∀ k, k ≠ b → H' k = H k) : IntsAt H' v l := by
  rcases h with h | ⟨a, c, rfl, h⟩
  · exact .inl h
  · refine .inr ⟨a, c, rfl, fun i hi => ?_⟩
    have := h i hi
    unfold cellAt getc at *
    rw [show H' a.block = H a.block from hs _ (ho (List.length_pos_iff.1 (by omega)) _ _ _ rfl)]
    exact this
theorem SymsAt_off0 {a : Addr} {b k : Nat} {H H' : Heap} {i : Nat} {l : List Value} (h : getc H ⟨a.block, i, a.spot⟩ k = some l) (ho : a.block ≠ b) (hs : ∀ k, k ≠ b → H' k = H k) : getc H' ⟨a.block, i, a.spot⟩ k = some l := by
  unfold getc at *
  rw [show H' a.block = H a.block from hs _ ho]
  exact h
structure ExtB (b nx : Nat) (H : Heap) (nx' : Nat) (H' : Heap) : Prop where
  le : nx ≤ nx'
  same : ∀ k, k < nx → k ≠ b → H' k = H k
theorem ExtB.trans {b nx n2 n3 : Nat} {H H2 H3 : Heap} (h : ExtB b nx H n2 H2) (k : ExtB b n2 H2 n3 H3) : ExtB b nx H n3 H3 :=
  ⟨Nat.le_trans h.le k.le, fun i hi hn => by rw [k.same i (Nat.lt_of_lt_of_le hi h.le) hn, h.same i hi hn]⟩
theorem ExtB.of {b nx n2 : Nat} {H H2 : Heap} (h : Ext nx H n2 H2) : ExtB b nx H n2 H2 := ⟨h.1, fun i hi _ => h.2 i hi⟩
theorem ExC.extB {H H' : Heap} {b nx nx' : Nat} {cs : List Value} {x : Ex} {B : List Nat} (hx : ExtB b nx H nx' H') (hlt : ∀ k ∈ B, k < nx) (hb : b ∉ B) (h : ExC H cs x B) : ExC H' cs x B :=
  h.same fun k hk => hx.same k (hlt k hk) fun e => hb (e ▸ hk)
end Go.Am
namespace Go.Proofs.YtmijhkclfoadaaaDoor
set_option linter.unusedSimpArgs false
set_option linter.unusedVariables false
open Go.Am Go.RowKit
theorem SymsAt.off {b : Nat} {H H' : Heap} {v : Value} {ss : List (ByteArray × Int)} (h : SymsAt H v ss) (ho : OffV b v) (hs : ∀ k, k ≠ b → H' k = H k) : SymsAt H' v ss := by
  obtain ⟨a, c, rfl, h⟩ := h
  exact ⟨a, c, rfl, fun i hi => SymsAt_off0 (h i hi) (ho _ _ _ rfl) hs⟩
theorem SymsAt.offB {b nx nx' : Nat} {H H' : Heap} {v : Value} {ss : List (ByteArray × Int)} (h : SymsAt H v ss) (h0 : 0 < ss.length) (ho : OffV b v) (hs : ExtB b nx H nx' H') (hok : ∀ id o, H id = some o → id < nx) : SymsAt H' v ss := by
  obtain ⟨a, c, rfl, h⟩ := h
  refine ⟨a, c, rfl, fun i hi => ?_⟩
  obtain ⟨o, hoo⟩ := getc_some (h i hi)
  have := h i hi
  unfold getc at *
  rw [show H' a.block = H a.block from hs.same _ (hok _ _ hoo) (ho _ _ _ rfl)]
  exact this
theorem IntsAt.offB {b nx nx' : Nat} {H H' : Heap} {v : Value} {l : List Int} (h : IntsAt H v l) (ho : l ≠ [] → OffV b v) (hs : ExtB b nx H nx' H') (hok : ∀ id o, H id = some o → id < nx) : IntsAt H' v l := by
  rcases h with h | ⟨a, c, rfl, h⟩
  · exact .inl h
  · refine .inr ⟨a, c, rfl, fun i hi => ?_⟩
    obtain ⟨o, hoo⟩ := getc_some (h i hi)
    have := h i hi
    unfold cellAt getc at *
    rw [show H' a.block = H a.block from hs.same _ (hok _ _ hoo) (ho (List.length_pos_iff.1 (by omega)) _ _ _ rfl)]
    exact this
def MkrAt (H : Heap) (b : Nat) (lv nv : Value) (at_ : Nat) : Prop := H b = some (.cells [lv, nv, .int .i64 at_] 0 none false (some 65))
theorem mixedX7 : Tryd.prog.follows .mixedOrders = true := by kernel_rfl
theorem mkr_cell {H : Heap} {b k : Nat} {lv nv v : Value} {at_ : Nat} (h : MkrAt H b lv nv at_) (hk : [lv, nv, Value.int .i64 at_][k]? = some v) : cellAt H ⟨b, k, none⟩ v := by
  obtain ⟨hk2, rfl⟩ := List.getElem?_eq_some_iff.1 hk
  exact cellAt_own h hk2
theorem aop_nilCheck {P : Program} {H : Heap} {nx : Nat} {ev : Operand → Option Value} {dst : Option Tmp} {type : TypeId} {pos : String} {after : Array Edge} {guard : Option (Nat × Bool)} {x : Operand} {a : Addr} (hx : ev x = some (.pointer (some a))) : aop P H nx ev ⟨dst, .nilCheck x, type, pos, after, guard⟩ = some (.pointer (some a), .none) := by simp [aop, hx]
theorem aop_remN {P : Program} {H : Heap} {nx : Nat} {ev : Operand → Option Value} {dst : Option Tmp} {type : TypeId} {pos : String} {after : Array Edge} {guard : Option (Nat × Bool)} {t u : TypeId} {x y : Operand} {a b : Int} (hx : ev x = some (.int .i64 a)) (hy : ev y = some (.int .i64 b)) (h0 : 0 ≤ a) (hb : 0 < b) :
    aop P H nx ev ⟨dst, .binOp .rem t x y u, type, pos, after, guard⟩ = some (.int .i64 (a % b), .none) := by
  have e : a.tmod b = a % b := Int.tmod_eq_emod_of_nonneg h0
  have hb0 : ¬ b = 0 := by omega
  simp [aop, hx, hy, aBin, intArith, hb0, e]
attribute [local irreducible] aop OpsL Trip blockExit OpsD OpsK OpsR
theorem entersWithin5 : Am.Enters Tryd.prog 14 := ⟨Tryd.f14, Tryd.func14, by kernel_rfl, by kernel_rfl⟩
theorem within5C (W0 : World) {nx : Nat} {H : Heap} (a m : Int) (h0 : 0 < m) (h1 : m ≤ 4611686018427387904) : ACalls Tryd.prog W0 14 [.int .i64 a, .int .i64 m] nx H fun v nx' H' => v = .int .i64 (a % m) ∧ nx' = nx ∧ H' = H :=
  (within_told W0 a m _ h0 h1 rfl).2 nx H
theorem entersNextX : Am.Enters Tryd.prog 66 := ⟨Tryd.f66, Tryd.func66, by kernel_rfl, by kernel_rfl⟩
set_option maxRecDepth 20000 in
set_option maxHeartbeats 8000000 in
theorem nextXC (W0 : World) {nx : Nat} {H : Heap} {b at_ : Nat} {lv nv : Value} {ns : List Int} (hm : MkrAt H b lv nv at_) (hn : IntsAt H nv ns) (hof : ns ≠ [] → OffV b nv) (ha : at_ ≤ 4611686018427387904) (m : Int) (h0 : 0 < m) (h1 : m ≤ 4611686018427387904) : ACalls Tryd.prog W0 66 [.pointer (some ⟨b, 0, none⟩), .int .i64 m] nx H fun v nx' H' => v = .int .i64 (nxtX ns at_ m).1 ∧ nx' = nx ∧ MkrAt H' b lv nv (nxtX ns at_ m).2 ∧ ∀ k, k ≠ b → H' k = H k := by
  obtain ⟨na, nc, rfl⟩ := hn.slice
  refine ACalls.by_trip (fn := Tryd.f66) (c := _) Tryd.func66 rfl (fun tm n hn0 htm => ?_)
  have e0 : tm 0 = .pointer (some ⟨b, 0, none⟩) := htm 0
  have e1 : tm 1 = .int .i64 m := htm 1
  clear htm
  replace hn0 : n = 35 := hn0
  have c1 := mkr_cell (k := 1) hm rfl
  have c2 := mkr_cell (k := 2) hm rfl
  repeat (first | (refine OpsL.q (by exact oasg) ?_) | (refine Trip.seq ?_) | (refine Trip.ops ?_) | (refine OpsL.nil ?_; (change Trip _ _ _ _ _)))
  refine OpsR.drawn [] (K := fun _ _ => True) mixedX7 (by kernel_rfl) (by kernel_rfl) [0, 1, 2, 3, 4, 5, 6, 7, 8, 9] (by kernel_rfl) trivial ?_
  refine OpsR.one rfl rfl rfl (by kernel_rfl) ?_
  repeat (first | (refine OpsL.q (by exact omv) ?_) | (refine OpsL.nil ?_; (dsimp only)))
  refine OpsR.one rfl rfl rfl (by kernel_rfl) ?_
  repeat (first | (refine OpsL.q (by exact aop_nilCheck (by (first | (simp only [ASt.ev, tmPut, ↓reduceIte, Nat.reduceEqDiff, *]; rfl)))) ?_) | (refine OpsL.nil ?_; (skip)))
  refine OpsR.one rfl rfl rfl (by kernel_rfl) ?_
  repeat (first | (refine OpsL.q (by exact ofa) ?_) | (refine OpsL.nil ?_; (dsimp only)))
  refine OpsR.one rfl rfl rfl (by kernel_rfl) ?_
  repeat (first | (refine OpsL.q (by exact old) ?_) | (refine OpsL.nil ?_; (skip)))
  refine OpsR.one rfl rfl rfl (by kernel_rfl) ?_
  repeat (first | (refine OpsL.q (by exact omv) ?_) | (refine OpsL.nil ?_; (skip)))
  refine OpsR.one rfl rfl rfl (by kernel_rfl) ?_
  repeat (first | (refine OpsL.q (by exact aop_nilCheck (by (first | (simp only [ASt.ev, tmPut, ↓reduceIte, Nat.reduceEqDiff, *]; rfl)))) ?_) | (refine OpsL.nil ?_; (skip)))
  refine OpsR.one rfl rfl rfl (by kernel_rfl) ?_
  repeat (first | (refine OpsL.q (by exact ofa) ?_) | (refine OpsL.nil ?_; (dsimp only)))
  refine OpsR.one rfl rfl rfl (by kernel_rfl) ?_
  repeat (first | (refine OpsL.q (by exact old) ?_) | (refine OpsL.nil ?_; (skip)))
  refine OpsR.one rfl rfl rfl (by kernel_rfl) ?_
  repeat (first | (refine OpsL.q (by exact olen) ?_) | (refine OpsL.nil ?_; (skip)))
  refine OpsR.one rfl rfl rfl (by kernel_rfl) ?_
  by_cases hlt : at_ < ns.length
  · have hx : nxtX ns at_ m = (ns[at_] % m, at_ + 1) := by unfold nxtX; rw [List.getElem?_eq_getElem hlt]
    refine OpsL.geqF ?_ (c := show ¬ ((ns.length : Int) ≤ at_) by omega)
    refine OpsL.nil ?_
    refine OpsR.nil ?_
    (change Trip _ _ _ _ _)
    repeat fail
    refine Trip.ifF ?_
    repeat (first | (refine OpsL.q (by first | exact omv | exact aop_nilCheck (by (first | (simp only [ASt.ev, tmPut, ↓reduceIte, Nat.reduceEqDiff, *]; rfl))) | exact ofa | exact old | exact oadd) ?_) | (refine Trip.seq ?_) | (refine Trip.ops ?_) | (refine Trip.skip ?_; (change Trip _ _ _ _ _)))
    have hm2 : H b = some (.cells [lv, .slice na ns.length nc, .int .i64 at_] 0 none false (some 65)) := hm
    refine OpsL.storeAt (cs' := [lv, .slice na ns.length nc, .int .i64 ((at_ : Int) + 1)]) 2 (by (first | (simp only [ASt.ev, tmPut, ↓reduceIte, Nat.reduceEqDiff, *]; rfl))) (by (first | (simp only [ASt.ev, tmPut, ↓reduceIte, Nat.reduceEqDiff, *]; rfl))) (by exact rfl) (by exact rfl) (by exact rfl) hm2 (by exact rfl) (by simp) (by exact rfl) ?_
    obtain ⟨G, hG⟩ : ∃ G, G = H.put b (.cells [lv, .slice na ns.length nc, .int .i64 ((at_ : Int) + 1)] 0 none false (some 65)) := ⟨_, rfl⟩
    have hmG : MkrAt G b lv (.slice na ns.length nc) (at_ + 1) := by rw [hG]; exact Heap.put_eq
    have hsm : ∀ k, k ≠ b → G k = H k := fun k hk => by rw [hG]; exact Heap.put_ne hk
    rw [← hG]
    clear hG c1 c2
    have c1 := mkr_cell (k := 1) hmG rfl
    have c2 := mkr_cell (k := 2) hmG rfl
    have hnG := hn.off hof hsm
    rw [hx]
    clear hx
    refine OpsL.nil ?_
    (change Trip _ _ _ _ _)
    repeat (first | (refine Trip.seq ?_))
    obtain ⟨p, rfl, hc⟩ := hnG.get hlt
    have hc2 : cellAt G ⟨p.block, p.off + (((at_ : Int) + 1 - 1).toNat) * 1, p.spot⟩ (.int .i64 ns[at_]) := by
      have : ((at_ : Int) + 1 - 1).toNat * 1 = at_ := by omega
      rw [this]
      exact hc
    have c2' : cellAt G ⟨b, 2, none⟩ (.int .i64 ((at_ : Int) + 1)) := c2
    clear c2 hc
    generalize ns[at_] = x at *
    refine OpsR.drawn [12] (K := fun _ _ => True) mixedX7 (by kernel_rfl) (by kernel_rfl) [0, 1, 2, 3, 4, 5, 6, 7, 8, 9, 10, 11, 12, 13] (by kernel_rfl) trivial ?_
    refine OpsR.one rfl rfl rfl (by kernel_rfl) ?_
    repeat (first | (refine OpsL.q (by exact omv) ?_) | (refine OpsL.nil ?_; (dsimp only)))
    refine OpsR.one rfl rfl rfl (by kernel_rfl) ?_
    repeat (first | (refine OpsL.q (by exact aop_nilCheck (by (first | (simp only [ASt.ev, tmPut, ↓reduceIte, Nat.reduceEqDiff, *]; rfl)))) ?_) | (refine OpsL.nil ?_; (skip)))
    refine OpsR.one rfl rfl rfl (by kernel_rfl) ?_
    repeat (first | (refine OpsL.q (by exact ofa) ?_) | (refine OpsL.nil ?_; (dsimp only)))
    refine OpsR.one rfl rfl rfl (by kernel_rfl) ?_
    repeat (first | (refine OpsL.q (by exact old) ?_) | (refine OpsL.nil ?_; (skip)))
    refine OpsR.one rfl rfl rfl (by kernel_rfl) ?_
    repeat (first | (refine OpsL.q (by exact omv) ?_) | (refine OpsL.nil ?_; (skip)))
    refine OpsR.one rfl rfl rfl (by kernel_rfl) ?_
    repeat (first | (refine OpsL.q (by exact aop_nilCheck (by (first | (simp only [ASt.ev, tmPut, ↓reduceIte, Nat.reduceEqDiff, *]; rfl)))) ?_) | (refine OpsL.nil ?_; (skip)))
    refine OpsR.one rfl rfl rfl (by kernel_rfl) ?_
    repeat (first | (refine OpsL.q (by exact ofa) ?_) | (refine OpsL.nil ?_; (dsimp only)))
    refine OpsR.one rfl rfl rfl (by kernel_rfl) ?_
    repeat (first | (refine OpsL.q (by exact old) ?_) | (refine OpsL.nil ?_; (skip)))
    refine OpsR.one rfl rfl rfl (by kernel_rfl) ?_
    repeat (first | (refine OpsL.q (by exact osub) ?_) | (refine OpsL.nil ?_; (skip)))
    refine OpsR.one rfl rfl rfl (by kernel_rfl) ?_
    repeat (first | (refine OpsL.q (by exact oixa) ?_) | (refine OpsL.nil ?_; (dsimp only)))
    refine OpsR.one rfl rfl rfl (by kernel_rfl) ?_
    repeat (first | (refine OpsL.q (by exact old) ?_) | (refine OpsL.nil ?_; (skip)))
    refine OpsR.one rfl rfl rfl (by kernel_rfl) ?_
    repeat (first | (refine OpsL.q (by exact omv) ?_) | (refine OpsL.nil ?_; (skip)))
    refine OpsR.act (by kernel_rfl) (ActStep.walk rfl rfl ?_)
    refine OpsL.c2 (hf := entersWithin5) (hc := (within5C W0 _ _ h0 h1)) (h := ?_)
    rintro v1 nx1 H1 ⟨rfl, rfl, rfl⟩
    refine OpsL.nil ⟨trivial, ?_⟩
    refine OpsR.one rfl rfl rfl (by kernel_rfl) ?_
    repeat (first | (refine OpsL.q (by exact oasg) ?_) | (refine OpsL.nil ?_; (skip)))
    refine OpsR.nil ?_
    (change Trip _ _ _ _ _)
    repeat (first | (refine Trip.ret ?_; (dsimp only)))
    exact ⟨.inr rfl, _, res_tmp, by simp [tmPut, *], rfl, hmG, hsm⟩
  · have hx : nxtX ns at_ m = (0, at_) := by unfold nxtX; rw [List.getElem?_eq_none (by omega)]
    refine OpsL.geqT ?_ (c := show ((ns.length : Int) ≤ at_) by omega)
    refine OpsL.nil ?_
    refine OpsR.nil ?_
    (change Trip _ _ _ _ _)
    repeat fail
    refine Trip.ifT ?_
    repeat (first | (refine OpsL.q (by exact oasg) ?_) | (refine Trip.seq ?_) | (refine Trip.ops ?_) | (refine Trip.ret ?_; (dsimp only)) | (refine OpsL.nil ?_; (change Trip _ _ _ _ _)))
    rw [hx]
    exact ⟨.inr rfl, _, res_tmp, by simp [tmPut, *], rfl, hm, fun _ _ => rfl⟩
end Go.Proofs.YtmijhkclfoadaaaDoor
namespace Go.Proofs.YtmijhkclfoadaaaDoor
set_option linter.unusedSimpArgs false
set_option linter.unusedVariables false
open Go.Am Go.RowKit
theorem mixedX : Tryd.prog.follows .mixedOrders = true := by kernel_rfl
theorem cell_of {H : Heap} {b e k : Nat} {cs : List Value} {tg : Option Nat} {ro : Bool} {q : Option TypeId} {v : Value} (hH : H b = some (.cells cs e tg ro q)) (h : cs[k]? = some v) : cellAt H ⟨b, k, tg⟩ v := by
  obtain ⟨hk, rfl⟩ := List.getElem?_eq_some_iff.1 h
  exact cellAt_own hH hk
theorem getc_all {H : Heap} {b e : Nat} {cs : List Value} {tg : Option Nat} {ro : Bool} {q : Option TypeId} {m : Nat} (hH : H b = some (.cells cs e tg ro q)) (h : cs.length = m) : getc H ⟨b, 0, tg⟩ m = some cs := by
  unfold getc
  simp only [hH]
  rw [if_pos ⟨trivial, by omega⟩]
  simp [← h]
theorem cell_ext {nx nx' : Nat} {H H' : Heap} {a : Addr} {v : Value} (h : Ext nx H nx' H') (hok : ∀ id o, H id = some o → id < nx) (hc : cellAt H a v) : cellAt H' a v := getc_ext h hok hc
structure ExBox (G : Heap) (b : Nat) (k s e : Int) (v : Value) : Prop where
  all : getc G ⟨b, 0, none⟩ 4 = some [.int .i64 k, .int .i64 s, .int .i64 e, v]
  c0 : cellAt G ⟨b, 0, none⟩ (.int .i64 k)
  c1 : cellAt G ⟨b, 1, none⟩ (.int .i64 s)
  c2 : cellAt G ⟨b, 2, none⟩ (.int .i64 e)
  c3 : cellAt G ⟨b, 3, none⟩ v
theorem ExBox.of {G : Heap} {b z : Nat} {k s e : Int} {v : Value} {ro : Bool} {q : Option TypeId} (h : G b = some (.cells [.int .i64 k, .int .i64 s, .int .i64 e, v] z none ro q)) : ExBox G b k s e v :=
  ⟨getc_all h rfl, cell_of h rfl, cell_of h rfl, cell_of h rfl, cell_of h rfl⟩
section
attribute [local irreducible] aop OpsL Trip blockExit OpsD OpsK OpsR
variable {W0 : World} {H : Heap} {nx n : Nat} {ops : Array Oper} {l : List Oper} {tm : Nat → Value} {QQ : ASt → Prop} {d : Tmp} {type : TypeId} {pos : String} {after : Array Edge}
theorem OpsL.boxX {t : TypeId} {x : Operand} {k s e : Int} {v : Value} (hok : ∀ id o, H id = some o → id < nx)
    (h : ∀ G, Ext nx H (nx + 1) G → (∀ id o, G id = some o → id < nx + 1) → ExBox G nx k s e v → OpsL Tryd.prog W0 ops l ⟨tmPut tm (some d) (.pointer (some ⟨nx, 0, none⟩)), n, G, nx + 1⟩ QQ)
    (hx : ASt.ev ⟨tm, n, H, nx⟩ x = some (.agg #[.int .i64 k, .int .i64 s, .int .i64 e, v])) (hv : v.cells = #[v]) (hd : d < n) :
    OpsL Tryd.prog W0 ops (⟨some d, .box t x, type, pos, after, none⟩ :: l) ⟨tm, n, H, nx⟩ QQ := by
  refine OpsL.new hd (aop_box hx) ?_
  refine h _ Ext.newPut (ok_new hok) (ExBox.of (z := 0) (ro := false) (q := some t) ?_)
  rw [Heap.put_eq]
  simp [Value.cells, hv]
end
attribute [local irreducible] aop OpsL Trip blockExit OpsD OpsK OpsR
theorem entersRDeep : Am.Enters Tryd.prog 44 := ⟨Tryd.f44, Tryd.func44, by kernel_rfl, by kernel_rfl⟩
set_option maxRecDepth 20000 in
set_option maxHeartbeats 8000000 in
theorem rDeepC (W0 : World) : ∀ (x : Ex) {nx : Nat} {H : Heap} {cs : List Value} {B : List Nat}, ExC H cs x B → sizeX x ≤ 1000000 → ACalls Tryd.prog W0 44 [.agg cs.toArray] nx H fun v nx' H' => v = .int .i64 (deepX x : Nat) ∧ Ext nx H nx' H' := by
  refine Ex.ind fun k s e l ih => ?_
  intro nx H cs B hx hn
  obtain ⟨a, c, rfl⟩ := hx.cells
  simp only [sizeX] at hn
  have hlen := size_len l 1
  refine ACalls.by_trip (fn := Tryd.f44) (c := _) Tryd.func44 rfl (fun tm n hn0 htm => ?_)
  have e0 : tm 0 = .agg ([.int .i64 k, .int .i64 s, .int .i64 e, .slice a l.length c] : List Value).toArray := htm 0
  clear htm
  replace hn0 : n = 22 := hn0
  refine Trip.ok fun hok => ?_
  replace hok : ∀ id o, H id = some o → id < nx := hok
  refine Trip.seq ?_
  refine Trip.ops ?_
  refine OpsL.boxX hok ?_ (by (first | (simp only [ASt.ev, tmPut, ↓reduceIte, Nat.reduceEqDiff, *]; rfl))) rfl (by subst_vars; decide)
  intro G x0 okG hb
  have hG := hx.ext x0 hok
  have h0 := hb.c0
  have h1 := hb.c1
  have h2 := hb.c2
  have h3 := hb.c3
  clear e0
  repeat (first | (refine OpsL.q (by exact oasg) ?_) | (refine Trip.seq ?_) | (refine Trip.ops ?_) | (refine Trip.block ?_) | (refine OpsL.nil ?_; (change Trip _ _ _ _ _)))
  refine Trip.inv (fun (i : Nat) st => ∃ (tm : Nat → Value) (nx' : Nat) (F : Heap), st = ⟨tm, n, F, nx'⟩ ∧ Ext (nx + 1) G nx' F ∧ tm 1 = .pointer (some ⟨nx, 0, none⟩) ∧ tm 3 = .int .i64 (deepXL (l.take i) 0 : Nat) ∧ tm 4 = .int .i64 i ∧ i ≤ l.length) (fun i => l.length - i) 0 ?_ ?_
  · exact ⟨_, _, _, rfl, Ext.refl, by simp [tmPut, *], by simp [tmPut, deepXL], by simp [tmPut, *], by omega⟩
  rintro i st ⟨tm, nx', F, rfl, hxF, e1, e3, e4, hi⟩
  refine Trip.ok fun okF => ?_
  replace okF : ∀ id o, F id = some o → id < nx' := okF
  have g3 := cell_ext hxF okG h3
  clear h0 h1 h2 h3
  repeat (first | (refine OpsL.q (by first | exact omv | exact ofa | exact old | exact olen | exact olss) ?_) | (refine Trip.seq ?_) | (refine Trip.ops ?_) | (refine Trip.block ?_) | (refine Trip.itA (fun _ => ?_) (fun _ => ?_)) | (refine Trip.skip ?_; (change Trip _ _ _ _ _)) | (refine OpsL.nil ?_; (change Trip _ _ _ _ _)))
  · have hlt : i < l.length := by omega
    obtain ⟨p, cs, B', rfl, hc, hx2, _⟩ := (hG.ext hxF okG).at rfl hlt
    have hsz := sizeXL_mem l 1 (List.getElem_mem hlt)
    repeat (first | (refine OpsL.q (by first | exact oixa | exact aop_loadAgg (k := 4) (by (first | (simp only [ASt.ev, tmPut, ↓reduceIte, Nat.reduceEqDiff, *]; rfl))) (by exact rfl) rfl (by exact rfl) (by assumption)) ?_))
    refine OpsL.c1 (hf := entersRDeep) (hc := (ih _ (List.getElem_mem hlt) hx2 (by omega))) (h := ?_)
    rintro v2 n2 H2 ⟨rfl, y2⟩
    have hT := deepXL_take hlt 0
    repeat (first | (refine OpsL.q (by first | exact omv | exact oasg | exact aop_max (by (first | (simp only [ASt.ev, tmPut, ↓reduceIte, Nat.reduceEqDiff, *]; rfl))) (by (first | (simp only [ASt.ev, tmPut, ↓reduceIte, Nat.reduceEqDiff, *]; rfl))) | exact oadd) ?_) | (refine Trip.ops ?_) | (refine OpsL.nil ?_; ((repeat (refine blockExit_normal ?_)); first | (change Trip _ _ _ _ _) | (dsimp only))))
    exact ⟨i + 1, ⟨_, _, _, rfl, hxF.trans y2, by simp [tmPut, *], (by simp [tmPut, *]; omega), by simp [tmPut, *], by omega⟩, by omega⟩
  · have hi2 : i = l.length := by omega
    subst hi2
    rw [List.take_length] at e3
    have hd := deep_size (.node k s e l)
    simp only [deepX, sizeX] at hd
    repeat (first | (refine OpsL.q (by first | exact omv | exact oasg | exact oadd) ?_) | (refine Trip.seq ?_) | (refine Trip.ops ?_) | (refine Trip.exit ?_; ((repeat (refine blockExit_eq ?_)); change Trip _ _ _ _ _)) | (refine Trip.ret ?_; (dsimp only)) | (refine OpsL.nil ?_; (change Trip _ _ _ _ _)))
    exact ⟨.inr rfl, _, res_tmp, by simp [tmPut, deepX], x0.trans hxF⟩
theorem entersRSize : Am.Enters Tryd.prog 45 := ⟨Tryd.f45, Tryd.func45, by kernel_rfl, by kernel_rfl⟩
set_option maxRecDepth 20000 in
set_option maxHeartbeats 8000000 in
theorem rSizeC (W0 : World) : ∀ (x : Ex) {nx : Nat} {H : Heap} {cs : List Value} {B : List Nat}, ExC H cs x B → sizeX x ≤ 1000000 → ACalls Tryd.prog W0 45 [.agg cs.toArray] nx H fun v nx' H' => v = .int .i64 (sizeX x : Nat) ∧ Ext nx H nx' H' := by
  refine Ex.ind fun k s e l ih => ?_
  intro nx H cs B hx hn
  obtain ⟨a, c, rfl⟩ := hx.cells
  simp only [sizeX] at hn
  have hlen := size_len l 1
  refine ACalls.by_trip (fn := Tryd.f45) (c := _) Tryd.func45 rfl (fun tm n hn0 htm => ?_)
  have e0 : tm 0 = .agg ([.int .i64 k, .int .i64 s, .int .i64 e, .slice a l.length c] : List Value).toArray := htm 0
  clear htm
  replace hn0 : n = 21 := hn0
  refine Trip.ok fun hok => ?_
  replace hok : ∀ id o, H id = some o → id < nx := hok
  refine Trip.seq ?_
  refine Trip.ops ?_
  refine OpsL.boxX hok ?_ (by (first | (simp only [ASt.ev, tmPut, ↓reduceIte, Nat.reduceEqDiff, *]; rfl))) rfl (by subst_vars; decide)
  intro G x0 okG hb
  have hG := hx.ext x0 hok
  have h0 := hb.c0
  have h1 := hb.c1
  have h2 := hb.c2
  have h3 := hb.c3
  clear e0
  repeat (first | (refine OpsL.q (by exact oasg) ?_) | (refine Trip.seq ?_) | (refine Trip.ops ?_) | (refine Trip.block ?_) | (refine OpsL.nil ?_; (change Trip _ _ _ _ _)))
  refine Trip.inv (fun (i : Nat) st => ∃ (tm : Nat → Value) (nx' : Nat) (F : Heap), st = ⟨tm, n, F, nx'⟩ ∧ Ext (nx + 1) G nx' F ∧ tm 1 = .pointer (some ⟨nx, 0, none⟩) ∧ tm 3 = .int .i64 (sizeXL (l.take i) 1 : Nat) ∧ tm 4 = .int .i64 i ∧ i ≤ l.length) (fun i => l.length - i) 0 ?_ ?_
  · exact ⟨_, _, _, rfl, Ext.refl, by simp [tmPut, *], by simp [tmPut, sizeXL], by simp [tmPut, *], by omega⟩
  rintro i st ⟨tm, nx', F, rfl, hxF, e1, e3, e4, hi⟩
  refine Trip.ok fun okF => ?_
  replace okF : ∀ id o, F id = some o → id < nx' := okF
  have g3 := cell_ext hxF okG h3
  clear h0 h1 h2 h3
  repeat (first | (refine OpsL.q (by first | exact omv | exact ofa | exact old | exact olen | exact olss) ?_) | (refine Trip.seq ?_) | (refine Trip.ops ?_) | (refine Trip.block ?_) | (refine Trip.itA (fun _ => ?_) (fun _ => ?_)) | (refine Trip.skip ?_; (change Trip _ _ _ _ _)) | (refine OpsL.nil ?_; (change Trip _ _ _ _ _)))
  · have hlt : i < l.length := by omega
    obtain ⟨p, cs, B', rfl, hc, hx2, _⟩ := (hG.ext hxF okG).at rfl hlt
    have hsz := sizeXL_mem l 1 (List.getElem_mem hlt)
    have hs2 := sizeXL_takeLe (l := l) (i := i) (n := 1)
    have hs3 := sizeXL_takeLe (l := l) (i := i + 1) (n := 1)
    rw [sizeXL_take hlt] at hs3
    repeat (first | (refine OpsL.q (by first | exact oixa | exact aop_loadAgg (k := 4) (by (first | (simp only [ASt.ev, tmPut, ↓reduceIte, Nat.reduceEqDiff, *]; rfl))) (by exact rfl) rfl (by exact rfl) (by assumption)) ?_))
    refine OpsL.c1 (hf := entersRSize) (hc := (ih _ (List.getElem_mem hlt) hx2 (by omega))) (h := ?_)
    rintro v2 n2 H2 ⟨rfl, y2⟩
    have hT := sizeXL_take hlt 1
    repeat (first | (refine OpsL.q (by first | exact omv | exact oasg | exact oadd | exact oadd) ?_) | (refine Trip.ops ?_) | (refine OpsL.nil ?_; ((repeat (refine blockExit_normal ?_)); first | (change Trip _ _ _ _ _) | (dsimp only))))
    exact ⟨i + 1, ⟨_, _, _, rfl, hxF.trans y2, by simp [tmPut, *], (by simp [tmPut, *]), by simp [tmPut, *], by omega⟩, by omega⟩
  · have hi2 : i = l.length := by omega
    subst hi2
    rw [List.take_length] at e3
    repeat (first | (refine OpsL.q (by first | exact omv | exact oasg) ?_) | (refine Trip.seq ?_) | (refine Trip.ops ?_) | (refine Trip.exit ?_; ((repeat (refine blockExit_eq ?_)); change Trip _ _ _ _ _)) | (refine Trip.ret ?_; (dsimp only)) | (refine OpsL.nil ?_; (change Trip _ _ _ _ _)))
    exact ⟨.inr rfl, _, res_tmp, by simp [tmPut, sizeX], x0.trans hxF⟩
end Go.Proofs.YtmijhkclfoadaaaDoor
namespace Go.Proofs.YtmijhkclfoadaaaDoor
set_option linter.unusedSimpArgs false
set_option linter.unusedVariables false
open Go.Am Go.RowKit
attribute [local irreducible] aop OpsL Trip blockExit OpsD OpsK OpsR
theorem entersRFormed : Am.Enters Tryd.prog 46 := ⟨Tryd.f46, Tryd.func46, by kernel_rfl, by kernel_rfl⟩
set_option maxRecDepth 20000 in
set_option maxHeartbeats 8000000 in
theorem rFormedC (W0 : World) : ∀ (x : Ex) {nx : Nat} {H : Heap} {cs : List Value} {B : List Nat}, ExC H cs x B → sizeX x ≤ 1000000 → ACalls Tryd.prog W0 46 [.agg cs.toArray] nx H fun v nx' H' => v = .bool (formX x) ∧ Ext nx H nx' H' := by
  refine Ex.ind fun k s e l ih => ?_
  intro nx H cs B hx hn
  obtain ⟨a, c, rfl⟩ := hx.cells
  simp only [sizeX] at hn
  have hlen := size_len l 1
  refine ACalls.by_trip (fn := Tryd.f46) (c := _) Tryd.func46 rfl (fun tm n hn0 htm => ?_)
  have e0 : tm 0 = .agg ([.int .i64 k, .int .i64 s, .int .i64 e, .slice a l.length c] : List Value).toArray := htm 0
  clear htm
  replace hn0 : n = 91 := hn0
  refine Trip.ok fun hok => ?_
  replace hok : ∀ id o, H id = some o → id < nx := hok
  refine Trip.seq ?_
  refine Trip.ops ?_
  refine OpsL.boxX hok ?_ (by (first | (simp only [ASt.ev, tmPut, ↓reduceIte, Nat.reduceEqDiff, *]; rfl))) rfl (by subst_vars; decide)
  intro G x0 okG hb
  have hG := hx.ext x0 hok
  have h0 := hb.c0
  have h1 := hb.c1
  have h2 := hb.c2
  have h3 := hb.c3
  clear e0
  (first | (refine OpsL.q (by exact oasg) ?_))
  (first | (refine OpsL.nil ?_; (change Trip _ _ _ _ _)))
  (first | (refine Trip.seq ?_))
  (first | (refine Trip.ops ?_))
  (first | (refine OpsL.q (by exact oasg) ?_))
  (first | (refine OpsL.nil ?_; (change Trip _ _ _ _ _)))
  (first | (refine Trip.seq ?_))
  (first | (refine Trip.seq ?_))
  (first | (refine Trip.ops ?_))
  (first | (refine OpsL.q (by exact ofa) ?_))
  (first | (refine OpsL.q (by exact old) ?_))
  (first | (refine OpsL.nil ?_; (change Trip _ _ _ _ _)))
  refine Trip.mono (Q := fun x st => x = .normal ∧ ∃ tm' : Nat → Value, st = ⟨tm', n, G, nx + 1⟩ ∧ tm' 1 = .pointer (some ⟨nx, 0, none⟩) ∧ tm' 3 = .bool (shapeX k s e l.length)) ?_ ?_
  · repeat' (first | (first | (refine OpsL.q (by first | exact omv | exact oasg | exact ofa | exact old | exact olen | exact oeql | exact ogtr | exact opkT | exact opkF) ?_) | (refine Trip.seq ?_) | (refine Trip.ops ?_) | (refine Trip.block ?_) | (refine Trip.itA (fun _ => ?_) (fun _ => ?_)) | (refine Trip.skip ?_; ((repeat (refine blockExit_normal ?_)); first | (change Trip _ _ _ _ _) | (dsimp only))) | (refine OpsL.nil ?_; ((repeat (refine blockExit_normal ?_)); first | (change Trip _ _ _ _ _) | (dsimp only))) | (refine OpsL.ung ?_) | (refine OpsL.skp ?_) | (refine OpsL.gT (fun _ => ?_) (fun _ => ?_))) | fail)
    all_goals first | exact absurd trivial ‹¬ True› | (refine ⟨rfl, _, rfl, by simp [tmPut, *], ?_⟩; simp [tmPut, shapeX, -List.length_eq_zero_iff, *] <;> omega)
  rintro x st ⟨rfl, tm, rfl, e1, e3⟩
  (change Trip _ _ _ _ _)
  repeat (first | (refine OpsL.q (by exact oasg) ?_) | (refine Trip.seq ?_) | (refine Trip.ops ?_) | (refine Trip.block ?_) | (refine OpsL.nil ?_; (change Trip _ _ _ _ _)))
  refine Trip.inv (fun (i : Nat) st => ∃ (tm : Nat → Value) (nx' : Nat) (F : Heap), st = ⟨tm, n, F, nx'⟩ ∧ Ext (nx + 1) G nx' F ∧ tm 1 = .pointer (some ⟨nx, 0, none⟩) ∧ tm 3 = .bool (formXL (l.take i) (shapeX k s e l.length)) ∧ tm 4 = .int .i64 i ∧ i ≤ l.length) (fun i => l.length - i) 0 ?_ ?_
  · exact ⟨_, _, _, rfl, Ext.refl, by simp [tmPut, *], by simp [tmPut, *, formXL], by simp [tmPut, *], by omega⟩
  clear e1 e3
  rintro i st ⟨tm, nx', F, rfl, hxF, e1, e3, e4, hi⟩
  refine Trip.ok fun okF => ?_
  replace okF : ∀ id o, F id = some o → id < nx' := okF
  have g3 := cell_ext hxF okG h3
  clear h0 h1 h2 h3
  repeat (first | (refine OpsL.q (by first | exact omv | exact ofa | exact old | exact olen) ?_) | (refine Trip.seq ?_) | (refine Trip.ops ?_))
  by_cases hlt : i < l.length
  · have hlt2 : (i : Int) < l.length := by omega
    refine OpsL.lssT ?_ (c := hlt2)
    clear hlt2
    repeat (first | (refine OpsL.q (by first | exact omv | exact opkT) ?_) | (refine OpsL.nil ?_; (change Trip _ _ _ _ _)) | (refine OpsL.ung ?_))
    cases hv : formXL (l.take i) (shapeX k s e l.length)
    · rw [hv] at e3
      have hr : formX (.node k s e l) = false := by simp only [formX]; exact formXL_drop hv
      clear hv
      repeat fail
      refine Trip.ifF ?_
      repeat (first | (refine OpsL.q (by first | exact omv | exact oasg) ?_) | (refine Trip.seq ?_) | (refine Trip.ops ?_) | (refine Trip.exit ?_; ((repeat (refine blockExit_eq ?_)); change Trip _ _ _ _ _)) | (refine Trip.ret ?_; (dsimp only)) | (refine OpsL.nil ?_; (change Trip _ _ _ _ _)))
      exact ⟨.inr rfl, _, res_tmp, by simp [tmPut, *], x0.trans hxF⟩
    rw [hv] at e3
    have hT := formXL_take hlt (shapeX k s e l.length)
    rw [hv, Bool.true_and] at hT
    clear hv
    repeat fail
    refine Trip.ifT ?_
    obtain ⟨p, cs, B', rfl, hc, hx2, _⟩ := (hG.ext hxF okG).at rfl hlt
    have hsz := sizeXL_mem l 1 (List.getElem_mem hlt)
    repeat (first | (refine OpsL.q (by first | exact omv | exact ofa | exact old | exact oixa | exact aop_loadAgg (k := 4) (by (first | (simp only [ASt.ev, tmPut, ↓reduceIte, Nat.reduceEqDiff, *]; rfl))) (by exact rfl) rfl (by exact rfl) (by assumption)) ?_) | (refine Trip.seq ?_) | (refine Trip.ops ?_) | (refine Trip.block ?_) | (refine Trip.skip ?_; (change Trip _ _ _ _ _)))
    refine OpsL.c1 (hf := entersRFormed) (hc := (ih _ (List.getElem_mem hlt) hx2 (by omega))) (h := ?_)
    rintro v2 n2 H2 ⟨rfl, y2⟩
    repeat (first | (refine OpsL.q (by first | exact omv | exact oasg | exact oadd) ?_) | (refine Trip.ops ?_) | (refine OpsL.nil ?_; ((repeat (refine blockExit_normal ?_)); first | (change Trip _ _ _ _ _) | (dsimp only))))
    exact ⟨i + 1, ⟨_, _, _, rfl, hxF.trans y2, by simp [tmPut, *], by simp [tmPut, *], by simp [tmPut, *], by omega⟩, by omega⟩
  · have hi2 : i = l.length := by omega
    have hlt2 : ¬ (i : Int) < l.length := by omega
    refine OpsL.lssF ?_ (c := hlt2)
    clear hlt hlt2
    subst hi2
    rw [List.take_length] at e3
    have hr : formX (.node k s e l) = formXL l (shapeX k s e l.length) := by simp only [formX]
    rw [← hr] at e3
    clear hr
    repeat (first | (refine OpsL.q (by first | exact omv | exact opkF) ?_) | (refine OpsL.nil ?_; (change Trip _ _ _ _ _)) | (refine OpsL.skp ?_))
    refine Trip.ifF ?_
    repeat (first | (refine OpsL.q (by first | exact omv | exact oasg) ?_) | (refine Trip.seq ?_) | (refine Trip.ops ?_) | (refine Trip.exit ?_; ((repeat (refine blockExit_eq ?_)); change Trip _ _ _ _ _)) | (refine Trip.ret ?_; (dsimp only)) | (refine OpsL.nil ?_; (change Trip _ _ _ _ _)))
    exact ⟨.inr rfl, _, res_tmp, by simp [tmPut, *], x0.trans hxF⟩
end Go.Proofs.YtmijhkclfoadaaaDoor
