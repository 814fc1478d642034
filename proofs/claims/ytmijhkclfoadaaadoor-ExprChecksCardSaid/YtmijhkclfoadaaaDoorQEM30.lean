import Derived.Test.YtmijhkclfoadaaaDoorQEM23
import Derived.Test.YtmijhkclfoadaaaDoorQEM29
import Derived.Test.YtmijhkclfoadaaaDoorQEM21
import Derived.Test.YtmijhkclfoadaaaDoorQEM22
namespace Go.Am
set_option linter.unusedSimpArgs false
set_option linter.unusedVariables false
open Go.RowKit
section
variable {P : Program} {W0 : World}
theorem OpsF.yield1 {ops : Array Oper} {l : List Oper} {Q : ASt → Prop} {tm : Nat → Value} {H : Heap} {nx n0 k : Nat} {d : Tmp} {g x : Operand} {a : Value} {ts : Array TypeId} {type : TypeId} {pos : String} {after : Array Edge} {R : Value → Nat → Heap → Prop}
    (hd : d < n0) (hg : ASt.ev ⟨tm, n0, H, nx⟩ g = some (.chan (some k))) (hx : ASt.ev ⟨tm, n0, H, nx⟩ x = some a) (hl : isLoop (H k) = true) (hy : AYields P W0 k [a] nx H R)
    (h : ∀ v nx' H', R v nx' H' → OpsF P W0 ops l ⟨tmPut tm (some d) v, n0, H', nx'⟩ Q) :
    OpsF P W0 ops (⟨some d, .call ⟨.value g, #[x], ts⟩, type, pos, after, none⟩ :: l) ⟨tm, n0, H, nx⟩ Q := by
  intro i hk
  have ho : ops[i]? = some ⟨some d, .call ⟨.value g, #[x], ts⟩, type, pos, after, none⟩ := by
    have : (ops.toList.drop i)[0]? = some ⟨some d, .call ⟨.value g, #[x], ts⟩, type, pos, after, none⟩ := by rw [hk]; rfl
    rw [List.getElem?_drop] at this
    simpa using this
  have hk' : ops.toList.drop (i + 1) = l := by
    rw [← List.drop_drop, hk]; rfl
  rw [List.length_cons, List.range'_succ]
  refine Ops.callG (st := ⟨tm, n0, H, nx⟩) ho rfl (by simp [dstOk, hd]) (f := YB + k) (args := [a]) (R := R) ?_ (.inr ⟨k, rfl, hl, hy⟩) fun v nx' H' hr => h v nx' H' hr _ hk'
  simp [calleeG, hg, evAll, hx]
def cutT (n : Nat) (tm : Nat → Value) : Nat → Value := fun t => if t < n then tm t else undef
theorem cutT_at {n t : Nat} {tm : Nat → Value} {v : Value} (h : tm t = v) (ht : t < n) : cutT n tm t = v := by
  unfold cutT
  rw [if_pos ht]
  exact h
noncomputable def slotT (n : Nat) (tm : Nat → Value) : Tree Value := argTree ((List.range n).map tm) 0 .leaf
theorem slotT_get (n : Nat) (tm : Nat → Value) (t : Nat) : ((slotT n tm).get t).getD undef = cutT n tm t := by
  unfold slotT cutT
  rw [argTree_get]
  simp only [Nat.zero_add, Nat.zero_le, true_and, Nat.sub_zero, Tree.get_leaf, List.length_map, List.length_range]
  split
  · rename_i h
    simp [h]
  · rfl
theorem Trip.cut {c : Code} {tm : Nat → Value} {n nx : Nat} {H : Heap} {Q : AExit → ASt → Prop} (h : Trip P W0 c ⟨cutT n tm, n, H, nx⟩ Q) : Trip P W0 c ⟨tm, n, H, nx⟩ Q := by
  intro ρ C a w hr hs
  refine h ρ C a w hr ⟨fun t => ?_, hs.sz, hs.rel⟩
  show VR nx H C (cutT n tm t) _
  unfold cutT
  split
  · exact hs.tm t
  · have : a.tmps.getD t undef = undef := by
      rw [Array.getD_eq_getD_getElem?, Array.getElem?_eq_none (by have := hs.sz; have e : (⟨tm, n, H, nx⟩ : ASt).n = n := rfl; omega)]; rfl
    rw [this]
    exact undef_VR
theorem Trip.rangeG {tm : Nat → Value} {n nx : Nat} {H : Heap} {g : Operand} {ps : Array Tmp} {asg body : Code} {Q : AExit → ASt → Prop} {f : FuncId} {first cap : Array Value} {R : Value → Nat → Heap → Prop}
    (hg : ASt.ev ⟨cutT n tm, n, H, nx⟩ g = some (.func (.func f) first cap)) (hf : Enters P f)
    (hcall : ACalls P W0 f ((first.toList ++ [.chan (some nx)]) ++ cap.toList) (nx + 1) (H.put nx (.loop .ready none (slotT n tm) n ps.toList asg body)) R)
    (h : ∀ v nx' H', R v nx' H' → ∃ stt pend tt' n' ps' asg' body', H' nx = some (.loop stt pend tt' n' ps' asg' body') ∧ stt ≠ .busy ∧
      ((pend = none ∧ Q .normal ⟨cutT n tm, n, H'.del nx, nx'⟩) ∨
       ∃ c, pend = some c ∧ Trip P W0 c ⟨cutT n tm, n, H'.del nx, nx'⟩ Q)) : Trip P W0 (.rangeFunc g ps asg body) ⟨tm, n, H, nx⟩ Q :=
  Trip.cut (Trip.rangeFunc (st := ⟨cutT n tm, n, H, nx⟩) (tt := slotT n tm) (fun t => slotT_get n tm t) hg hf hcall h)
theorem AYields.round {l n p nx : Nat} {H : Heap} {pend : Option Code} {tm : Nat → Value} {asg body : Code} {a : Value} {R : Value → Nat → Heap → Prop}
    (hl : H l = some (.loop .ready pend (slotT n tm) n [p] asg body)) (hp : p < n)
    (h : Trip P W0 asg ⟨tmPut (cutT n tm) (some p) a, n, H, nx⟩ fun x s => x = .normal ∧ s.H l = some (.loop .ready pend (slotT n tm) n [p] asg body) ∧
      Trip P W0 body ⟨s.tm, s.n, s.H.put l (.loop .busy pend (slotT n tm) n [p] asg body), s.nx⟩ fun x q => q.H l = some (.loop .busy pend (slotT n tm) n [p] asg body) ∧
        R (.bool (jumpOf x).isNone) q.nx (q.H.put l (.loop (endSt x) (jumpOf x) (slotT n tm) n [p] asg body))) : AYields P W0 l [a] nx H R := by
  have e : (fun t => (((slotT n tm).set p a).get t).getD undef) = tmPut (cutT n tm) (some p) a := by
    funext t
    rw [Tree.get_set]
    by_cases ht : t = p
    · subst ht; simp [tmPut]
    · rw [if_neg ht, slotT_get]; simp [tmPut, ht]
  refine AYields.of_trip (t1 := (slotT n tm).set p a) hl (by simp only [putArgs]; rw [show Nat.blt p n = true by rw [Nat.blt_eq]; exact hp]; rfl) ?_
  rw [e]
  refine Trip.mono h ?_
  rintro x s ⟨rfl, h1, h2⟩
  refine ⟨rfl, _, _, _, _, _, _, h1, Trip.mono h2 ?_⟩
  rintro x q ⟨h3, h4⟩
  exact ⟨_, _, _, _, _, _, _, h3, h4⟩
end
end Go.Am
namespace Go.Am
set_option linter.unusedSimpArgs false
set_option linter.unusedVariables false
open Go.RowKit
mutual
def eachX {σ : Type} (step : σ → Ex → σ) (live : σ → Bool) : Ex → σ → σ
  | .node k s e l, a => bif live (step a (.node k s e l)) then eachXL step live l (step a (.node k s e l)) else step a (.node k s e l)
def eachXL {σ : Type} (step : σ → Ex → σ) (live : σ → Bool) : List Ex → σ → σ
  | [], a => a
  | x :: l, a => bif live a then eachXL step live l (eachX step live x a) else a
end
section
variable {σ : Type} {step : σ → Ex → σ} {live : σ → Bool}
theorem eachXL_dead : ∀ (l : List Ex) {a : σ}, live a = false → eachXL step live l a = a
  | [], a, _ => by simp [eachXL]
  | x :: l, a, h => by simp [eachXL, h]
theorem eachXL_app : ∀ (l m : List Ex) (a : σ), eachXL step live (l ++ m) a = eachXL step live m (eachXL step live l a)
  | [], m, a => by simp [eachXL]
  | x :: l, m, a => by
    simp only [List.cons_append, eachXL]
    cases h : live a
    · simp only [cond_false]
      rw [eachXL_dead m h]
    · simp only [cond_true]
      exact eachXL_app l m _
theorem eachXL_take {l : List Ex} {i : Nat} (h : i < l.length) {a : σ} (hl : live (eachXL step live (l.take i) a) = true) : eachXL step live (l.take (i + 1)) a = eachX step live l[i] (eachXL step live (l.take i) a) := by
  rw [take_snoc h, eachXL_app]
  simp [eachXL, hl]
theorem eachXL_stop {l : List Ex} {i : Nat} {a : σ} (hl : live (eachXL step live (l.take i) a) = false) : eachXL step live l a = eachXL step live (l.take i) a := by
  conv => lhs; rw [← List.take_append_drop i l]
  rw [eachXL_app, eachXL_dead _ hl]
end
structure ExtL (L : List Nat) (nx : Nat) (H : Heap) (nx' : Nat) (H' : Heap) : Prop where
  le : nx ≤ nx'
  same : ∀ k, k < nx → k ∉ L → H' k = H k
section
variable {L : List Nat} {nx n2 n3 : Nat} {H H2 H3 : Heap}
theorem ExtL.refl : ExtL L nx H nx H := ⟨Nat.le_refl _, fun _ _ _ => rfl⟩
theorem ExtL.trans (h : ExtL L nx H n2 H2) (k : ExtL L n2 H2 n3 H3) : ExtL L nx H n3 H3 :=
  ⟨Nat.le_trans h.le k.le, fun i hi hn => by rw [k.same i (Nat.lt_of_lt_of_le hi h.le) hn, h.same i hi hn]⟩
theorem ExtL.of (h : Ext nx H n2 H2) : ExtL L nx H n2 H2 := ⟨h.1, fun i hi _ => h.2 i hi⟩
theorem ExC.extL {cs : List Value} {x : Ex} {B : List Nat} (hx : ExtL L nx H n2 H2) (hok : ∀ id o, H id = some o → id < nx) (hb : ∀ b ∈ B, b ∉ L) (h : ExC H cs x B) : ExC H2 cs x B :=
  h.same fun k hk => hx.same k (h.lt hok k hk) (hb k hk)
theorem getc_extL {a : Addr} {k : Nat} {vs : List Value} (hx : ExtL L nx H n2 H2) (ha : a.block < nx) (hn : a.block ∉ L) (h : getc H a k = some vs) : getc H2 a k = some vs := by
  unfold getc at *
  rw [hx.same _ ha hn]
  exact h
end
structure EatsX (P : Program) (W0 : World) (k : Nat) (L : List Nat) {σ : Type} (J : σ → Nat → Heap → Prop) (step : σ → Ex → σ) (live : σ → Bool) (good : Ex → Prop) : Prop where
  eat : ∀ a nx H cs x B, J a nx H → live a = true → good x → ExC H cs x B → (∀ b ∈ B, b ∉ L) → (∀ id o, H id = some o → id < nx) → AYields P W0 k [.agg cs.toArray] nx H fun v nx' H' => v = .bool (live (step a x)) ∧ J (step a x) nx' H' ∧ ExtL L nx H nx' H'
  ext : ∀ a nx H nx' H', J a nx H → Ext nx H nx' H' → J a nx' H'
  lt : ∀ a nx H, J a nx H → ∀ i ∈ L, i < nx
  loop : ∀ a nx H, J a nx H → isLoop (H k) = true
  cl : ∀ k s e l, good (.node k s e l) → ∀ y ∈ l, good y
end Go.Am
namespace Go.Proofs.YtmijhkclfoadaaaDoor
set_option linter.unusedSimpArgs false
set_option linter.unusedVariables false
open Go.Am Go.RowKit
attribute [local irreducible] aop OpsL Trip blockExit OpsD OpsK OpsR
theorem entersEachX : Am.Enters Tryd.prog 102 := ⟨Tryd.f102, Tryd.func102, by kernel_rfl, by kernel_rfl⟩
set_option maxRecDepth 20000 in
set_option maxHeartbeats 8000000 in
theorem eachXC (W0 : World) {k0 : Nat} {L : List Nat} {σ : Type} {J : σ → Nat → Heap → Prop} {step : σ → Ex → σ} {live : σ → Bool} {good : Ex → Prop} (he : EatsX Tryd.prog W0 k0 L J step live good) : ∀ (x : Ex) {a : σ} {nx : Nat} {H : Heap} {cs : List Value} {B : List Nat}, J a nx H → live a = true → good x → ExC H cs x B → (∀ b ∈ B, b ∉ L) → sizeX x ≤ 1000000 → ACalls Tryd.prog W0 102 [.agg cs.toArray, .chan (some k0)] nx H fun v nx' H' => v = .bool (live (eachX step live x a)) ∧ J (eachX step live x a) nx' H' ∧ ExtL L nx H nx' H' := by
  refine Ex.ind fun k s e l ih => ?_
  intro a nx H cs B hJ hlv hgd hx hBL hn
  obtain ⟨av, c, rfl⟩ := hx.cells
  simp only [sizeX] at hn
  have hlen := size_len l 1
  refine ACalls.by_trip (fn := Tryd.f102) (c := _) Tryd.func102 rfl (fun tm n hn0 htm => ?_)
  have e0 : tm 0 = .agg ([.int .i64 k, .int .i64 s, .int .i64 e, .slice av l.length c] : List Value).toArray := htm 0
  have e1 : tm 1 = .chan (some k0) := htm 1
  clear htm
  replace hn0 : n = 23 := hn0
  refine Trip.ok fun hok => ?_
  replace hok : ∀ id o, H id = some o → id < nx := hok
  refine Trip.seq ?_
  refine Trip.ops ?_
  refine OpsL.boxX hok ?_ (by (first | (simp only [ASt.ev, tmPut, ↓reduceIte, Nat.reduceEqDiff, *]; rfl))) rfl (by subst_vars; decide)
  intro G x0 okG hb
  have hG := hx.ext x0 hok
  have h0 := hb.c0
  have h1 := hb.c1
  have h2 := hb.c2
  have h3 := hb.c3
  clear e0
  have hJG := he.ext _ _ _ _ _ hJ x0
  have hnL : nx ∉ L := fun h => Nat.lt_irrefl _ (he.lt _ _ _ hJ nx h)
  have h4 := hb.all
  (first | (refine OpsL.q (by exact oasg) ?_))
  (first | (refine OpsL.nil ?_; (change Trip _ _ _ _ _)))
  refine Trip.seq ?_
  refine Trip.seq ?_
  refine Trip.opsF ?_
  refine OpsF.at 2 ?_
  repeat (first | (refine OpsL.q (by first | exact omv | exact aop_loadAgg (k := 4) (by (first | (simp only [ASt.ev, tmPut, ↓reduceIte, Nat.reduceEqDiff, *]; rfl))) (by exact rfl) rfl (by exact rfl) (by assumption)) ?_) | (refine OpsL.nil ?_; (dsimp only)))
  refine OpsF.yield1 (by subst_vars; decide) (by (first | (simp only [ASt.ev, tmPut, ↓reduceIte, Nat.reduceEqDiff, *]; done))) (by (first | (simp only [ASt.ev, tmPut, ↓reduceIte, Nat.reduceEqDiff, *]; done))) (he.loop _ _ _ hJG) (he.eat _ _ _ _ _ _ hJG hlv hgd hG hBL okG) ?_
  rintro v1 n1 H1 ⟨rfl, hJ1, y1⟩
  refine OpsF.of ?_
  have hE : eachX step live (.node k s e l) a = bif live (step a (.node k s e l)) then eachXL step live l (step a (.node k s e l)) else step a (.node k s e l) := by simp only [eachX]
  rw [hE]
  clear hE
  generalize step a (.node k s e l) = a1 at *
  have y01 := (ExtL.of (L := L) x0).trans y1
  cases hlv1 : live a1
  · simp only [cond_false]
    repeat (first | (refine OpsL.q (by exact onot) ?_) | (refine OpsL.nil ?_; (change Trip _ _ _ _ _)))
    refine Trip.ifT ?_
    repeat (first | (refine OpsL.q (by exact oasg) ?_) | (refine Trip.seq ?_) | (refine Trip.ops ?_) | (refine Trip.ret ?_; (dsimp only)) | (refine OpsL.nil ?_; (change Trip _ _ _ _ _)))
    exact ⟨.inr rfl, _, res_tmp, by simp [tmPut, *], hJ1, y01⟩
  simp only [cond_true]
  repeat (first | (refine OpsL.q (by exact onot) ?_) | (refine OpsL.nil ?_; (change Trip _ _ _ _ _)))
  refine Trip.ifF ?_
  have g3 : cellAt H1 ⟨nx, 3, none⟩ (.slice av l.length c) := getc_extL y1 (Nat.lt_succ_self _) hnL h3
  have hG1 := hG.extL y1 okG hBL
  clear h0 h1 h2 h3 h4 x0
  refine Trip.ok fun ok1 => ?_
  replace ok1 : ∀ id o, H1 id = some o → id < n1 := ok1
  repeat (first | (refine OpsL.q (by first | exact omv | exact ofa | exact old | exact olen) ?_) | (refine Trip.seq ?_) | (refine Trip.ops ?_) | (refine Trip.block ?_) | (refine Trip.skip ?_; (change Trip _ _ _ _ _)) | (refine OpsL.nil ?_; (change Trip _ _ _ _ _)))
  refine Trip.inv (fun (i : Nat) st => ∃ (tm : Nat → Value) (nx' : Nat) (F : Heap), st = ⟨tm, n, F, nx'⟩ ∧ ExtL L n1 H1 nx' F ∧ tm 1 = .chan (some k0) ∧ tm 12 = .slice av l.length c ∧ tm 13 = .int .i64 l.length ∧ tm 14 = .int .i64 i ∧ i ≤ l.length ∧ live (eachXL step live (l.take i) a1) = true ∧ J (eachXL step live (l.take i) a1) nx' F) (fun i => l.length - i) 0 ?_ ?_
  · exact ⟨_, _, _, rfl, ExtL.refl, by simp [tmPut, *], by simp [tmPut, *], by simp [tmPut, *], by simp [tmPut, *], by omega, by simp [eachXL, hlv1], by simp [eachXL]; exact hJ1⟩
  clear e1 g3
  rintro i st ⟨tm, nx', F, rfl, hxF, e1, e12, e13, e14, hi, hli, hJi⟩
  refine Trip.ok fun okF => ?_
  replace okF : ∀ id o, F id = some o → id < nx' := okF
  repeat (first | (refine OpsL.q (by exact olss) ?_) | (refine Trip.seq ?_) | (refine Trip.ops ?_) | (refine Trip.block ?_) | (refine Trip.itA (fun _ => ?_) (fun _ => ?_)) | (refine Trip.skip ?_; (change Trip _ _ _ _ _)) | (refine OpsL.nil ?_; (change Trip _ _ _ _ _)))
  · have hlt : i < l.length := by omega
    have hGF := hG1.extL hxF ok1 hBL
    obtain ⟨p, cs, B', rfl, hc, hx2, hBB⟩ := hGF.at rfl hlt
    have hsz := sizeXL_mem l 1 (List.getElem_mem hlt)
    have htk := eachXL_take (step := step) hlt hli
    obtain ⟨y, hy⟩ : ∃ y, l[i] = y := ⟨_, rfl⟩
    have hmem : y ∈ l := by rw [← hy]; exact List.getElem_mem hlt
    rw [hy] at hx2 hsz htk
    obtain ⟨yk, ys, ye, yl⟩ := y
    obtain ⟨ya, yc, rfl⟩ := hx2.cells
    repeat (first | (refine OpsL.q (by first | exact oixa | exact aop_loadAgg (k := 4) (by (first | (simp only [ASt.ev, tmPut, ↓reduceIte, Nat.reduceEqDiff, *]; rfl))) (by exact rfl) rfl (by exact rfl) (by assumption)) ?_))
    refine OpsL.new (by subst_vars; decide) (aop_alloc (l := [.int .i64 0, .int .i64 0, .int .i64 0, .slice none 0 0]) (by exact rfl)) ?_
    obtain ⟨F1, hF1⟩ : ∃ F1, F1 = F.put nx' (.cells [.int .i64 0, .int .i64 0, .int .i64 0, .slice none 0 0] 0 none false (some 28)) := ⟨_, rfl⟩
    have xF1 : Ext nx' F (nx' + 1) F1 := by rw [hF1]; exact Ext.newPut
    have rF1 : F1 nx' = some (.cells [.int .i64 0, .int .i64 0, .int .i64 0, .slice none 0 0] 0 none false (some 28)) := by rw [hF1]; exact Heap.put_eq
    rw [← hF1]
    clear hF1
    refine OpsL.storeX ?_ (by (first | (simp only [ASt.ev, tmPut, ↓reduceIte, Nat.reduceEqDiff, *]; done))) (by (first | (simp only [ASt.ev, tmPut, ↓reduceIte, Nat.reduceEqDiff, *]; rfl))) rF1 rfl rfl rfl
    intro F2 rF2 sF2
    have xF2 : Ext nx' F (nx' + 1) F2 := ⟨Nat.le_succ _, fun q hq => by rw [sF2 q (by omega), xF1.2 q hq]⟩
    have g6 : getc F2 ⟨nx', 0, none⟩ 4 = some [.int .i64 yk, .int .i64 ys, .int .i64 ye, .slice ya yl.length yc] := getc_all rF2 rfl
    have hJ2 := he.ext _ _ _ _ _ hJi xF2
    have hx3 := hx2.ext xF2 okF
    repeat (first | (refine OpsL.q (by first | exact omv | exact aop_loadAgg (k := 4) (by (first | (simp only [ASt.ev, tmPut, ↓reduceIte, Nat.reduceEqDiff, *]; rfl))) (by exact rfl) rfl (by exact rfl) (by assumption)) ?_) | (refine Trip.seq ?_) | (refine Trip.ops ?_) | (refine OpsL.nil ?_; (change Trip _ _ _ _ _)))
    refine OpsL.c2 (hf := entersEachX) (hc := (ih _ hmem hJ2 hli (he.cl _ _ _ _ hgd _ hmem) hx3 (fun b hb => hBL b (hBB b hb)) (by omega))) (h := ?_)
    rintro v2 n2 H2 ⟨rfl, hJ3, y2⟩
    rw [← htk] at hJ3 ⊢
    have yF : ExtL L n1 H1 n2 H2 := hxF.trans ((ExtL.of xF2).trans y2)
    cases hl2 : live (eachXL step live (l.take (i + 1)) a1)
    · have hst := eachXL_stop hl2
      repeat (first | (refine OpsL.q (by exact onot) ?_) | (refine OpsL.nil ?_; (change Trip _ _ _ _ _)))
      refine Trip.ifT ?_
      repeat (first | (refine OpsL.q (by exact oasg) ?_) | (refine Trip.seq ?_) | (refine Trip.ops ?_) | (refine Trip.ret ?_; ((repeat (refine blockExit_ret ?_)); dsimp only)) | (refine OpsL.nil ?_; (change Trip _ _ _ _ _)))
      exact ⟨.inr rfl, _, res_tmp, by rw [hst, hl2]; simp [tmPut], by rw [hst]; exact hJ3, y01.trans yF⟩
    · repeat (first | (refine OpsL.q (by exact onot) ?_) | (refine OpsL.nil ?_; (change Trip _ _ _ _ _)))
      refine Trip.ifF ?_
      repeat (first | (refine OpsL.q (by first | exact omv | exact oadd) ?_) | (refine Trip.ops ?_) | (refine Trip.skip ?_; ((repeat (refine blockExit_normal ?_)); change Trip _ _ _ _ _)) | (refine OpsL.nil ?_; (dsimp only)))
      exact ⟨i + 1, ⟨_, _, _, rfl, yF, by simp [tmPut, *], by simp [tmPut, *], by simp [tmPut, *], by simp [tmPut, *], by omega, hl2, hJ3⟩, by omega⟩
  · have hi2 : i = l.length := by omega
    subst hi2
    rw [List.take_length] at hli hJi
    repeat (first | (refine OpsL.q (by exact oasg) ?_) | (refine Trip.seq ?_) | (refine Trip.ops ?_) | (refine Trip.exit ?_; ((repeat (refine blockExit_eq ?_)); change Trip _ _ _ _ _)) | (refine Trip.ret ?_; (dsimp only)) | (refine OpsL.nil ?_; (change Trip _ _ _ _ _)))
    exact ⟨.inr rfl, _, res_tmp, by simp [tmPut, *], hJi, y01.trans hxF⟩
end Go.Proofs.YtmijhkclfoadaaaDoor
namespace Go.Proofs.YtmijhkclfoadaaaDoor
set_option linter.unusedSimpArgs false
set_option linter.unusedVariables false
open Go.Am Go.RowKit
theorem aop_makeFunc {P : Program} {H : Heap} {nx : Nat} {ev : Operand → Option Value} {dst : Option Tmp} {type : TypeId} {pos : String} {after : Array Edge} {guard : Option (Nat × Bool)} {fn : Fn} {first cap : Array Operand} {a b : List Value} (h1 : evAll ev first.toList = some a) (h2 : evAll ev cap.toList = some b) :
    aop P H nx ev ⟨dst, .makeFunc fn first cap, type, pos, after, guard⟩ = some (.func fn a.toArray b.toArray, .none) := by simp [aop, h1, h2]
theorem ev_cut {n t nx m : Nat} {tm : Nat → Value} {H : Heap} {v : Value} (h : tm t = v) (ht : t < n) : ASt.ev ⟨cutT n tm, m, H, nx⟩ (.tmp t) = some v := by
  show some (cutT n tm t) = _
  rw [cutT_at h ht]
attribute [local irreducible] aop OpsL Trip blockExit OpsD OpsK OpsR
theorem entersAllX : Am.Enters Tryd.prog 71 := ⟨Tryd.f71, Tryd.func71, by kernel_rfl, by kernel_rfl⟩
set_option maxRecDepth 20000 in
set_option maxHeartbeats 8000000 in
theorem allXC (W0 : World) {k s e : Int} {v : Value} (hv : v.cells = #[v]) {nx : Nat} {H : Heap} : ACalls Tryd.prog W0 71 [.agg #[.int .i64 k, .int .i64 s, .int .i64 e, v]] nx H fun r nx' H' => r = .func (.func 101) #[] #[.pointer (some ⟨nx, 0, none⟩)] ∧ nx' = nx + 1 ∧ Ext nx H (nx + 1) H' ∧ ExBox H' nx k s e v := by
  refine ACalls.by_trip (fn := Tryd.f71) (c := _) Tryd.func71 rfl (fun tm n hn0 htm => ?_)
  have e0 : tm 0 = .agg #[.int .i64 k, .int .i64 s, .int .i64 e, v] := htm 0
  clear htm
  replace hn0 : n = 4 := hn0
  refine Trip.ok fun hok => ?_
  replace hok : ∀ id o, H id = some o → id < nx := hok
  refine Trip.seq ?_
  refine Trip.ops ?_
  refine OpsL.boxX hok ?_ (by (first | (simp only [ASt.ev, tmPut, ↓reduceIte, Nat.reduceEqDiff, *]; rfl))) hv (by subst_vars; decide)
  intro G x0 okG hb
  repeat (first | (refine OpsL.q (by exact oasg) ?_) | (refine Trip.seq ?_) | (refine Trip.ops ?_) | (refine OpsL.nil ?_; (change Trip _ _ _ _ _)))
  refine OpsL.p (by subst_vars; decide) (aop_makeFunc (a := []) (b := [.pointer (some ⟨nx, 0, none⟩)]) rfl (by simp [evAll, ASt.ev, tmPut])) ?_
  repeat (first | (refine OpsL.q (by exact oasg) ?_) | (refine Trip.ret ?_; (dsimp only)) | (refine OpsL.nil ?_; (change Trip _ _ _ _ _)))
  exact ⟨.inr rfl, _, res_tmp, by simp [tmPut], rfl, x0, hb⟩
theorem entersAll1X : Am.Enters Tryd.prog 101 := ⟨Tryd.f101, Tryd.func101, by kernel_rfl, by kernel_rfl⟩
set_option maxRecDepth 20000 in
set_option maxHeartbeats 8000000 in
theorem all1XC (W0 : World) {k0 : Nat} {L : List Nat} {σ : Type} {J : σ → Nat → Heap → Prop} {step : σ → Ex → σ} {live : σ → Bool} {good : Ex → Prop} (he : EatsX Tryd.prog W0 k0 L J step live good) {x : Ex} {a : σ} {nx eb : Nat} {H : Heap} {cs : List Value} {B : List Nat} (hJ : J a nx H) (hlv : live a = true) (hgd : good x) (hx : ExC H cs x B) (hBL : ∀ b ∈ B, b ∉ L) (hn : sizeX x ≤ 1000000) (hg : getc H ⟨eb, 0, none⟩ 4 = some cs) : ACalls Tryd.prog W0 101 [.chan (some k0), .pointer (some ⟨eb, 0, none⟩)] nx H fun _ nx' H' => J (eachX step live x a) nx' H' ∧ ExtL L nx H nx' H' := by
  refine ACalls.by_trip (fn := Tryd.f101) (c := _) Tryd.func101 rfl (fun tm n hn0 htm => ?_)
  have e0 : tm 0 = .chan (some k0) := htm 0
  have e1 : tm 1 = .pointer (some ⟨eb, 0, none⟩) := htm 1
  clear htm
  replace hn0 : n = 6 := hn0
  refine Trip.ops ?_
  repeat (first | (refine OpsL.q (by first | exact aop_loadAgg (k := 4) (by (first | (simp only [ASt.ev, tmPut, ↓reduceIte, Nat.reduceEqDiff, *]; rfl))) (by exact rfl) rfl (by exact rfl) (by assumption) | exact omv) ?_))
  refine OpsL.c2 (hf := entersEachX) (hc := (eachXC W0 he x hJ hlv hgd hx hBL hn)) (h := ?_)
  rintro v2 n2 H2 ⟨rfl, hJ2, y2⟩
  refine OpsL.nil ?_
  exact ⟨.inl rfl, _, rfl, hJ2, y2⟩
theorem Trip.rangeX {W0 : World} {tm : Nat → Value} {n nx : Nat} {H : Heap} {g : Operand} {ps : Array Tmp} {asg body : Code} {Q : AExit → ASt → Prop} {L : List Nat} {σ : Type} {J : σ → Nat → Heap → Prop} {step : σ → Ex → σ} {live : σ → Bool} {good : Ex → Prop} {x : Ex} {a : σ} {eb : Nat} {cs : List Value} {B : List Nat}
    (hg : ASt.ev ⟨cutT n tm, n, H, nx⟩ g = some (.func (.func 101) #[] #[.pointer (some ⟨eb, 0, none⟩)]))
    (hok : ∀ id o, H id = some o → id < nx) (he : EatsX Tryd.prog W0 nx L J step live good) (hJ : J a (nx + 1) (H.put nx (.loop .ready none (slotT n tm) n ps.toList asg body))) (hlv : live a = true) (hgd : good x) (hx : ExC H cs x B) (hBL : ∀ b ∈ B, b ∉ L) (hn : sizeX x ≤ 1000000) (hc : getc H ⟨eb, 0, none⟩ 4 = some cs)
    (hend : ∀ n2 H2, J (eachX step live x a) n2 H2 → ExtL L (nx + 1) (H.put nx (.loop .ready none (slotT n tm) n ps.toList asg body)) n2 H2 → ∃ stt pend tt' n' ps' asg' body', H2 nx = some (.loop stt pend tt' n' ps' asg' body') ∧ stt ≠ .busy ∧
      ((pend = none ∧ Q .normal ⟨cutT n tm, n, H2.del nx, n2⟩) ∨ ∃ c, pend = some c ∧ Trip Tryd.prog W0 c ⟨cutT n tm, n, H2.del nx, n2⟩ Q)) : Trip Tryd.prog W0 (.rangeFunc g ps asg body) ⟨tm, n, H, nx⟩ Q := by
  have hxn : Ext nx H (nx + 1) (H.put nx (.loop .ready none (slotT n tm) n ps.toList asg body)) := Ext.newPut
  refine Trip.rangeG hg entersAll1X (all1XC W0 he hJ hlv hgd (hx.ext hxn hok) hBL hn (getc_ext hxn hok hc)) ?_
  rintro v n2 H2 ⟨hJ2, y2⟩
  exact hend n2 H2 hJ2 y2
theorem Trip.rangeXJ {W0 : World} {tm : Nat → Value} {n nx : Nat} {H : Heap} {g : Operand} {ps : Array Tmp} {asg body : Code} {Q : AExit → ASt → Prop} {L : List Nat} {σ : Type} (J : (LoopState → Option Code → AObj) → σ → Nat → Heap → Prop) {step : σ → Ex → σ} {live : σ → Bool} {good : Ex → Prop} {x : Ex} {a : σ} {eb : Nat} {cs : List Value} {B : List Nat}
    (hg : ASt.ev ⟨cutT n tm, n, H, nx⟩ g = some (.func (.func 101) #[] #[.pointer (some ⟨eb, 0, none⟩)]))
    (hok : ∀ id o, H id = some o → id < nx) (he : EatsX Tryd.prog W0 nx L (J (fun st p => .loop st p (slotT n tm) n ps.toList asg body)) step live good) (hJ : J (fun st p => .loop st p (slotT n tm) n ps.toList asg body) a (nx + 1) (H.put nx (.loop .ready none (slotT n tm) n ps.toList asg body))) (hlv : live a = true) (hgd : good x) (hx : ExC H cs x B) (hBL : ∀ b ∈ B, b ∉ L) (hn : sizeX x ≤ 1000000) (hc : getc H ⟨eb, 0, none⟩ 4 = some cs)
    (hend : ∀ n2 H2, J (fun st p => .loop st p (slotT n tm) n ps.toList asg body) (eachX step live x a) n2 H2 → ExtL L (nx + 1) (H.put nx (.loop .ready none (slotT n tm) n ps.toList asg body)) n2 H2 → ∃ stt pend tt' n' ps' asg' body', H2 nx = some (.loop stt pend tt' n' ps' asg' body') ∧ stt ≠ .busy ∧
      ((pend = none ∧ Q .normal ⟨cutT n tm, n, H2.del nx, n2⟩) ∨ ∃ c, pend = some c ∧ Trip Tryd.prog W0 c ⟨cutT n tm, n, H2.del nx, n2⟩ Q)) : Trip Tryd.prog W0 (.rangeFunc g ps asg body) ⟨tm, n, H, nx⟩ Q := by
  exact Trip.rangeX hg hok he hJ hlv hgd hx hBL hn hc hend
end Go.Proofs.YtmijhkclfoadaaaDoor
