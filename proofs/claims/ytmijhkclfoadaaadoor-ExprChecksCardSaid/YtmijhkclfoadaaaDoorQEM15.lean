import Derived.Test.YtmijhkclfoadaaaDoorQEM14
import Derived.Lib.Bytealg
namespace Go.Am
set_option linter.unusedSimpArgs false
set_option linter.unusedVariables false
open Go.RowKit
noncomputable section
def IdExt (P : Program) (f : FuncId) : Prop := ∀ (x : Value) (w : World), (callFunc f #[x]).run P w = .ok (.value x) w
section
variable {P : Program} {W0 : World} {st : ASt}
theorem callee_ext {C : Corr} {a : Act} {w : World} (hs : SRel W0 C st a w) {o : Oper} {f : FuncId} {x : Value} (h : callee st o = some (f, [x])) (hf : IdExt P f) :
    ∃ x', (execOp a.eval o).run P w = .ok (.value x') w ∧ VR st.nx st.H C x x' := by
  unfold callee at h
  split at h
  · rename_i c ho
    split at h
    · rename_i y hc
      split at h
      · rename_i f' first captured l hx hl
        simp only [Option.some.injEq, Prod.mk.injEq] at h
        obtain ⟨rfl, hargs⟩ := h
        have hv := hs.ev y _ hx
        have ha := evAll_sound hs.ev _ _ hl
        generalize hu : a.eval y = u at hv
        cases hv with
        | func _ _ a' _ b' q1 q2 q3 q4 =>
        have hall := ((agg_VRs q1 q3).append ha).append (agg_VRs q2 q4)
        rw [hargs] at hall
        obtain ⟨x', r, hxr, hxx, hr⟩ := hall.uncons
        have : r = [] := by rw [← List.length_eq_zero_iff, ← hr.1]; rfl
        subst this
        refine ⟨x', ?_, hxx⟩
        have e : (a' ++ c.args.map a.eval) ++ b' = #[x'] := by
          apply Array.ext'
          rw [show [x'] = (#[x'] : Array Value).toList from rfl] at hxr
          simpa using hxr
        have := hf x' w
        simp only [execOp, ho, resolve, hc, Deferred.ofValue, hu, Sem.run_bind, Sem.run_pure, Result.andThen_ok, invoke]
        rw [e]
        exact this
      · cases h
    · cases h
  · cases h
def IdxExt (P : Program) (f : FuncId) : Prop := ∀ (s : ByteArray) (c : Int) (w : World), (callFunc f #[.string s, .int .u8 c]).run P w = .ok (.value (.int .i64 (Lib.indexByte s.data.toList c.toNat.toUInt8))) w
def idxV (args : List Value) : Option Value :=
  match args with
  | [.string s, .int .u8 c] => some (.int .i64 (Lib.indexByte s.data.toList c.toNat.toUInt8))
  | _ => none
theorem callee_idx {C : Corr} {a : Act} {w : World} (hs : SRel W0 C st a w) {o : Oper} {f : FuncId} {args : List Value} {x : Value} (h : callee st o = some (f, args)) (hx : idxV args = some x) (hf : IdxExt P f) :
    (execOp a.eval o).run P w = .ok (.value x) w ∧ VR st.nx st.H C x x := by
  have key : ∃ s c, args = [.string s, .int .u8 c] ∧ x = .int .i64 (Lib.indexByte s.data.toList c.toNat.toUInt8) := by
    unfold idxV at hx
    split at hx
    · cases hx; exact ⟨_, _, rfl, rfl⟩
    · cases hx
  obtain ⟨s, c, rfl, rfl⟩ := key
  refine ⟨?_, .int _ _⟩
  unfold callee at h
  split at h
  · rename_i cc ho
    split at h
    · rename_i y hc
      split at h
      · rename_i f' first captured l hxx hl
        simp only [Option.some.injEq, Prod.mk.injEq] at h
        obtain ⟨rfl, hargs⟩ := h
        have hv := hs.ev y _ hxx
        have ha := evAll_sound hs.ev _ _ hl
        generalize hu : a.eval y = u at hv
        cases hv with
        | func _ _ a' _ b' q1 q2 q3 q4 =>
        have hall := ((agg_VRs q1 q3).append ha).append (agg_VRs q2 q4)
        rw [hargs] at hall
        obtain ⟨x1, r1, hx1, hxx1, hr1⟩ := hall.uncons
        obtain ⟨x2, r2, hx2, hxx2, hr2⟩ := hr1.uncons
        have : r2 = [] := by rw [← List.length_eq_zero_iff, ← hr2.1]; rfl
        subst this
        subst hx2
        cases hxx1
        cases hxx2
        have e : (a' ++ cc.args.map a.eval) ++ b' = #[.string s, .int .u8 c] := by
          apply Array.ext'
          rw [show [Value.string s, Value.int .u8 c] = (#[Value.string s, Value.int .u8 c] : Array Value).toList from rfl] at hx1
          simpa using hx1
        have := hf s c w
        simp only [execOp, ho, resolve, hc, Deferred.ofValue, hu, Sem.run_bind, Sem.run_pure, Result.andThen_ok, invoke]
        rw [e]
        exact this
      · cases h
    · cases h
  · cases h
theorem Ops.idx {ops : Array Oper} {i : Nat} {l : List Nat} {o : Oper} {f : FuncId} {args : List Value} {x : Value} {Q : ASt → Prop} (ho : ops[i]? = some o) (hw : wants ops st o = true) (hd : dstOk st o = true)
    (hc : callee st o = some (f, args)) (hx : idxV args = some x) (hf : IdxExt P f) (h : Ops P W0 ops l (st.put o.dst x .none) Q) : Ops P W0 ops (i :: l) st Q := by
  intro ρ C a w hr hs
  simp only [wpOpsIn, ho, wants_sound hs ops o, hw, if_true]
  refine ⟨fun _ _ => trivial, ?_⟩
  obtain ⟨hrun, hvr⟩ := callee_idx hs hc hx hf
  rw [callee_semAt hc, hrun]
  have hs' := hs.put (dst := o.dst) (dstOk_spec hd) hs.rel (Stp.refl _ _ _) hvr
  have := h ρ C _ w hr hs'
  rw [put_defers] at this
  exact this
theorem Ops.ext {ops : Array Oper} {i : Nat} {l : List Nat} {o : Oper} {f : FuncId} {x : Value} {Q : ASt → Prop} (ho : ops[i]? = some o) (hw : wants ops st o = true) (hd : dstOk st o = true)
    (hc : callee st o = some (f, [x])) (hf : IdExt P f) (h : Ops P W0 ops l (st.put o.dst x .none) Q) : Ops P W0 ops (i :: l) st Q := by
  intro ρ C a w hr hs
  simp only [wpOpsIn, ho, wants_sound hs ops o, hw, if_true]
  refine ⟨fun _ _ => trivial, ?_⟩
  obtain ⟨x', hrun, hx⟩ := callee_ext hs hc hf
  rw [callee_semAt hc, hrun]
  have hs' := hs.put (dst := o.dst) (dstOk_spec hd) hs.rel (Stp.refl _ _ _) hx
  have := h ρ C _ w hr hs'
  rw [put_defers] at this
  exact this
theorem argTree_get : ∀ (l : List Value) (i : Nat) (t : Tree Value) (m : Nat), (argTree l i t).get m = if i ≤ m ∧ m < i + l.length then l[m - i]? else t.get m := by
  intro l
  induction l with
  | nil => intro i t m; simp [argTree]; omega
  | cons v l ih =>
    intro i t m
    rw [argTree, ih, Tree.get_set]
    by_cases c1 : i + 1 ≤ m ∧ m < i + 1 + l.length
    · rw [if_pos c1, if_pos (by simp only [List.length_cons]; omega)]
      have : m - i = (m - (i + 1)) + 1 := by omega
      rw [this, List.getElem?_cons_succ]
    · rw [if_neg c1]
      by_cases c2 : m = i
      · subst c2
        rw [if_pos rfl, if_pos (by simp only [List.length_cons]; omega)]
        simp
      · rw [if_neg c2, if_neg (by simp only [List.length_cons]; omega)]
def resVal (tmps : Array Value) (r : ResultVar) : Sem Value :=
  match r with
  | .tmp t => pure (tmps.getD t undef)
  | .cell a t => do loadVar t (← asAddr (tmps.getD a undef))
theorem results_eq (fn : Func) (tmps : Array Value) : results fn tmps = (do
    let vs ← fn.results.mapM (resVal tmps)
    pure (if h : vs.size = 1 then vs[0] else .tuple vs)) := rfl
theorem aResult_sound {C : Corr} {a : Act} {w : World} (hs : SRel W0 C st a w) {r : ResultVar} {v : Value} (h : aResult P st r = some v) :
    ∃ v', (resVal a.tmps r).run P w = .ok v' w ∧ VR st.nx st.H C v v' := by
  cases r with
  | tmp t =>
    simp only [aResult, Option.some.injEq] at h
    subst h
    exact ⟨_, rfl, hs.tm t⟩
  | cell x t =>
    simp only [aResult] at h
    split at h
    · rename_i p hp
      have := hs.tm x
      rw [hp] at this
      unfold resVal
      simp only
      generalize a.tmps.getD x undef = y at this ⊢
      cases this with
      | ptr _ b k1 k2 =>
      obtain rfl := k2 (readAt_live h)
      obtain ⟨v', e, hv⟩ := readAt_sound (P := P) hs.rel h
      exact ⟨v', by simpa [asAddr] using e, hv⟩
    · cases h
theorem aResultL_sound {C : Corr} {a : Act} {w : World} (hs : SRel W0 C st a w) : ∀ (l : List ResultVar) (vs : List Value), aResultL P st l = some vs → ∃ vs', (l.mapM (resVal a.tmps)).run P w = .ok vs' w ∧ VRs st.nx st.H C vs vs' := by
  intro l
  induction l with
  | nil => intro vs h; simp only [aResultL, Option.some.injEq] at h; subst h; exact ⟨[], by simp, VRs.nil⟩
  | cons r l ih =>
    intro vs h
    simp only [aResultL] at h
    split at h
    · rename_i u us hu hus
      simp only [Option.some.injEq] at h
      subst h
      obtain ⟨u', e1, e2⟩ := aResult_sound hs hu
      obtain ⟨us', f1, f2⟩ := ih us hus
      refine ⟨u' :: us', ?_, VRs.cons e2 f2⟩
      simp only [List.mapM_cons, Sem.run_bind, e1, Result.andThen_ok, f1, Sem.run_pure]
    · cases h
theorem aResults_sound {C : Corr} {a : Act} {w : World} (hs : SRel W0 C st a w) {fn : Func} {v : Value} (h : aResults P st fn.results = some v) :
    ∃ v', (results fn a.tmps).run P w = .ok v' w ∧ VR st.nx st.H C v v' := by
  unfold aResults at h
  have hres : ∀ vs', (fn.results.toList.mapM (resVal a.tmps)).run P w = .ok vs' w →
      (results fn a.tmps).run P w = .ok (if h : vs'.toArray.size = 1 then vs'.toArray[0] else .tuple vs'.toArray) w := by
    intro vs' hvs
    rw [results_eq, Array.mapM_eq_mapM_toList]
    simp only [Sem.run_bind, Sem.run_map, hvs, Result.andThen_ok, Sem.run_pure]
  split at h
  · rename_i u hu
    simp only [Option.some.injEq] at h
    subst h
    obtain ⟨vs', e1, e2⟩ := aResultL_sound hs _ _ hu
    obtain ⟨u', r, rfl, hx, hr⟩ := e2.uncons
    have : r = [] := by rw [← List.length_eq_zero_iff, ← hr.1]; rfl
    subst this
    exact ⟨u', by rw [hres _ e1]; rfl, hx⟩
  · rename_i l hne hl
    simp only [Option.some.injEq] at h
    subst h
    obtain ⟨vs', e1, e2⟩ := aResultL_sound hs _ _ hl
    refine ⟨.tuple vs'.toArray, ?_, e2.tuple⟩
    rw [hres _ e1, dif_neg]
    intro hsz
    have : l.length = 1 := by rw [e2.1]; simpa using hsz
    obtain ⟨u, rfl⟩ := List.length_eq_one_iff.1 this
    exact hne u rfl
  · cases h
theorem leave_marks {fn : Func} {tmps : Array Value} {R : Ending → World → Prop} {nx : Nat} {H : Heap} {p0 : Nat → Option Obj} : ∀ (ds : List Nat) (C : Corr) (w : World), ds.Nodup → (∀ D ∈ ds, p0 D = none ∧ C.pin D = some (.deferred (some []))) →
    (∀ k o, p0 k = some o → C.pin k = some o) → Rel W0 C nx H w → (∀ w', Rel W0 (C.re p0) nx H w' → LeavesIn Fence.wide 0 P fn tmps R [] .returning w') → LeavesInM Fence.wide 0 P fn tmps R (ds.map mark) .returning w := by
  intro ds
  induction ds with
  | nil => intro C w _ _ hp hR hfin; exact hfin w (hR.pinLess hp)
  | cons D ds ih =>
    intro C w hnd hD hp hR hfin
    obtain ⟨h1, h2⟩ := hD D (List.mem_cons_self ..)
    obtain ⟨h3, h4⟩ := hR.pin D _ h2
    have hlt : D < w.heap.size := (Array.getElem?_eq_some_iff.1 h4).1
    have hne : ∀ k, k ≠ D → (w.heap.setIfInBounds D (.deferred none))[k]? = w.heap[k]? := fun k hk => Array.getElem?_setIfInBounds_ne (Ne.symm hk)
    refine ⟨by simp, .inl ⟨D, { w with heap := w.heap.setIfInBounds D (.deferred none) }, rfl, ?_, ?_⟩⟩
    · simp [Instr.takeDeferred, Sem.run_bind, getObj, setObj, Sem.run, h4, Result.andThen]
    · have hR' : Rel W0 (C.re fun k => if k = D then none else C.pin k) nx H { w with heap := w.heap.setIfInBounds D (.deferred none) } := by
        refine hR.unpin h2 (fun id o ho e => ?_) (hR.below.trans ⟨rfl, rfl, rfl, by simp, fun k hk => hne k (by omega), Nat.le_refl _⟩) hne
        have hob := hR.obj id o ho
        cases o with
        | cells c e2 t ro q => obtain ⟨_, _, _, hh, _⟩ := hob; rw [e, h4] at hh; cases hh
        | map es bs ck => obtain ⟨_, hh, _⟩ := hob; rw [e, h4] at hh; cases hh
        | miter m a b c => obtain ⟨_, hh, _⟩ := hob; rw [e, h4] at hh; cases hh
        | loop a b c d e2 f g => obtain ⟨_, hh, _⟩ := hob; rw [e, h4] at hh; cases hh
        | siter s p => have hh := hob.1; rw [e, h4] at hh; cases hh
      rw [List.nodup_cons] at hnd
      refine ih _ _ hnd.2 (fun D' hD' => ?_) (fun k o hk => ?_) hR' hfin
      · have hx := hD D' (List.mem_cons_of_mem _ hD')
        have : D' ≠ D := fun e => hnd.1 (e ▸ hD')
        exact ⟨hx.1, by simp only [Corr.re, this, if_false]; exact hx.2⟩
      · have : k ≠ D := fun e => by rw [e, h1] at hk; cases hk
        simp only [Corr.re, this, if_false]
        exact hp k o hk
theorem ACalls.of_trip {f : FuncId} {fn : Func} {c : Code} {args : List Value} {nx : Nat} {H : Heap} {R : Value → Nat → Heap → Prop} (hf : P.funcs[f]? = some fn) (hb : fn.body = some c) {tm : Nat → Value} (htm : ∀ t, tm t = (args[t]?).getD undef)
    (h : Trip P W0 c ⟨tm, args.length + (fn.ntmps - args.length), H, nx⟩ fun x s => (x = .normal ∨ x = .ret) ∧ ∃ v, aResults P s fn.results = some v ∧ R v s.nx s.H) : ACalls P W0 f args nx H R := by
  intro C w args' hR ha
  refine callsIn_wide.1 (callsIn_of_wp_marks (n := 0) hf hb trivial ?_ rfl)
  have hs : SRel W0 C ⟨tm, args.length + (fn.ntmps - args.length), H, nx⟩ { tmps := args'.toArray ++ Array.replicate (fn.ntmps - args'.toArray.size) undef, defers := [] } w := by
    refine ⟨fun t => ?_, by simp [ha.1], hR⟩
    show VR nx H C (tm t) _
    rw [htm, Array.getD_eq_getD_getElem?]
    by_cases h1 : t < args.length
    · have h2 : t < args'.length := by rw [← ha.1]; exact h1
      rw [Array.getElem?_append_left (by simpa using h2)]
      simp only [List.getElem?_toArray, List.getElem?_eq_getElem h1, List.getElem?_eq_getElem h2, Option.getD_some]
      exact ha.2 t h1 h2
    · rw [List.getElem?_eq_none (by omega), Array.getElem?_append_right (by simp; rw [← ha.1]; omega)]
      simp only [Option.getD_none]
      rw [Array.getElem?_replicate]
      split <;> exact undef_VR
  have hw : c.wpIn Fence.wide 0 P _ _ w := h none C _ w (fun c hc => by cases hc) hs
  refine wpIn_mono hw ?_
  rintro e a' w' ⟨x, s, C', rfl, ⟨hx, v, hv, hr⟩, hs', hS, hn, ds, hds, hnd, hD⟩
  have hS' : Stp nx H C s.nx s.H (C'.re C.pin) := ⟨⟨hS.le, hS.keep⟩, fun _ _ x => x, hS.fix⟩
  have hpost : LeavesInM Fence.wide 0 P fn a'.tmps (fun e w' => ∃ v v' C' nx' H', e = .returned v' ∧ R v nx' H' ∧ Rel W0 C' nx' H' w' ∧ VR nx' H' C' v v' ∧ Stp nx H C nx' H' C') a'.defers .returning w' := by
    have hds' : a'.defers = ds.map mark := by rw [hds]; simp
    rw [hds']
    refine leave_marks ds C' w' hnd hD hS.pin hs'.rel fun w2 hR2 => ?_
    have hs2 : SRel W0 (C'.re C.pin) s a' w2 := ⟨fun t => (hs'.tm t).mono0 (Stp0.re _ _ _ _), hs'.sz, hR2⟩
    obtain ⟨v', e1, e2⟩ := aResults_sound hs2 hv
    exact ⟨v', e1, v, v', _, s.nx, s.H, rfl, hr, hR2, e2, hS'⟩
  rcases hx with rfl | rfl
  · exact hpost
  · exact hpost
end
section
variable {P : Program} {W0 : World} {ops : Array Oper}
def TrOk (P : Program) (W0 : World) (ops : Array Oper) : List Oper → CSt → List DTr → CSt → Prop
  | [], s, [], s' => s' = s
  | o :: l, s, d :: tr, s' => d.s = s ∧ ∃ s1 : CSt, s1 = s.put o.dst d.v s1.ht s1.nx s1.asm ∧ DStep P W0 ops s.tm s.n s.ht.get s.nx o d.v s1.ht.get s1.nx ∧ (d.e = false → s1.ht.get = s.ht.get ∧ s1.nx = s.nx) ∧ TrOk P W0 ops l s1 tr s'
  | _, _, _, _ => False
def trAt (tr : List DTr) (s' : CSt) (p : Nat) : CSt := match tr[p]? with | some d => d.s | none => s'
theorem TrOk.len : ∀ {l : List Oper} {s : CSt} {tr : List DTr} {s' : CSt}, TrOk P W0 ops l s tr s' → tr.length = l.length := by
  intro l
  induction l with
  | nil => intro s tr s' h; cases tr with
    | nil => rfl
    | cons d tr => exact h.elim
  | cons o l ih =>
    intro s tr s' h
    cases tr with
    | nil => exact h.elim
    | cons d tr => obtain ⟨_, s1, _, _, _, h⟩ := h; simp [ih h]
theorem TrOk.at : ∀ {l : List Oper} {s : CSt} {tr : List DTr} {s' : CSt}, TrOk P W0 ops l s tr s' → trAt tr s' 0 = s ∧ trAt tr s' l.length = s' ∧ (trAt tr s' l.length).n = s.n ∧ ∀ (i : Nat) (o : Oper), l[i]? = some o → ∃ d, tr[i]? = some d ∧ d.s = trAt tr s' i ∧
    (trAt tr s' (i + 1)).tm = tmPut (trAt tr s' i).tm o.dst d.v ∧ (trAt tr s' i).n = s.n ∧ DStep P W0 ops (trAt tr s' i).tm s.n (trAt tr s' i).ht.get (trAt tr s' i).nx o d.v (trAt tr s' (i + 1)).ht.get (trAt tr s' (i + 1)).nx ∧
    (d.e = false → (trAt tr s' (i + 1)).ht.get = (trAt tr s' i).ht.get ∧ (trAt tr s' (i + 1)).nx = (trAt tr s' i).nx) := by
  intro l
  induction l with
  | nil => intro s tr s' h; cases tr with
    | nil => cases h; exact ⟨rfl, rfl, rfl, fun i o ho => by simp at ho⟩
    | cons d tr => exact h.elim
  | cons o l ih =>
    intro s tr s' h
    cases tr with
    | nil => exact h.elim
    | cons d tr =>
      obtain ⟨hd, s1, h1, h2, h3, h4⟩ := h
      obtain ⟨i1, i2, i3, i4⟩ := ih h4
      have hn1 : s1.n = s.n := by rw [h1]; rfl
      have hsucc : ∀ i, trAt (d :: tr) s' (i + 1) = trAt tr s' i := fun i => by simp [trAt]
      have hzero : trAt (d :: tr) s' 0 = s := by simp [trAt, hd]
      refine ⟨hzero, ?_, ?_, ?_⟩
      · rw [List.length_cons, hsucc]; exact i2
      · rw [List.length_cons, hsucc, i3, hn1]
      · intro i o' ho'
        cases i with
        | zero =>
          simp only [List.getElem?_cons_zero, Option.some.injEq] at ho'
          subst ho'
          refine ⟨d, rfl, by rw [hzero, hd], ?_, by rw [hzero], ?_, ?_⟩
          · rw [hsucc, i1, hzero]
            have : s1.st = (s.put o.dst d.v s1.ht s1.nx s1.asm).st := by rw [← h1]
            rw [CSt.put_st] at this
            exact congrArg ASt.tm this
          · rw [hsucc, i1, hzero]; exact h2
          · rw [hsucc, i1, hzero]; exact h3
        | succ i =>
          obtain ⟨d', g1, g2, g3, g4, g5, g6⟩ := i4 i o' (by simpa using ho')
          refine ⟨d', by simpa using g1, by rw [hsucc]; exact g2, ?_, ?_, ?_, ?_⟩
          · rw [hsucc, hsucc]; exact g3
          · rw [hsucc, g4, hn1]
          · rw [hsucc, hsucc, ← hn1]; exact g5
          · rw [hsucc, hsucc]; exact g6
theorem statOk_spec (h : statOk ops = true) :
    (∀ (i : Nat) (o : Oper), ops[i]? = some o → ∀ j, dep o j → j < i) ∧
    (∀ (i j : Nat) (oi oj : Oper) (d : Tmp), ops[i]? = some oi → ops[j]? = some oj → oi.dst = some d → oj.dst = some d → i = j) ∧
    (∀ (i j : Nat) (oi oj : Oper) (t : Tmp), ops[i]? = some oi → ops[j]? = some oj → (t ∈ opTs oi ∨ gdst ops oi = some t) → oj.dst = some t → (j < i → dep oi j) ∧ (i < j → dep oj i)) := by
  unfold statOk at h
  simp only [Bool.and_eq_true] at h
  obtain ⟨⟨h1, h2⟩, h3⟩ := h
  have toL : ∀ (i : Nat) (o : Oper), ops[i]? = some o → ops.toList[i]? = some o := fun i o ho => by simpa using ho
  refine ⟨?_, ?_, ?_⟩
  · rintro i o ho j ⟨e, he, hb, rfl⟩
    have := allIdx_spec _ 0 h1 i o (toL i o ho)
    rw [List.all_eq_true] at this
    have := this e (by simpa using he)
    simp only [hb, Bool.not_true, Bool.false_or, decide_eq_true_eq] at this
    omega
  · intro i j oi oj d hi hj hdi hdj
    have := allIdx_spec _ 0 h2 i oi (toL i oi hi)
    have := allIdx_spec _ 0 this j oj (toL j oj hj)
    simp only [hdi, hdj, Bool.or_eq_true, beq_iff_eq, bne_self_eq_false, Bool.false_eq_true, or_false] at this
    omega
  · intro i j oi oj t hi hj ht hd
    have := allIdx_spec _ 0 h3 i oi (toL i oi hi)
    have := allIdx_spec _ 0 this j oj (toL j oj hj)
    simp only [hd, Bool.or_eq_true, beq_iff_eq] at this
    have hc : ((opTs oi).contains t = true ∨ gdst ops oi = some t) := by
      rcases ht with ht | ht
      · exact .inl (List.contains_iff_mem.2 ht)
      · exact .inr ht
    rw [if_pos hc] at this
    refine ⟨fun hlt => ?_, fun hlt => ?_⟩
    · rcases this with e | e
      · omega
      · rw [if_pos (by omega)] at e
        rw [← depB_iff]; simpa using e
    · rcases this with e | e
      · omega
      · rw [if_neg (by omega)] at e
        rw [← depB_iff]; simpa using e
end
section
variable {P : Program} {W0 : World} {xs : List Nat}
theorem st_put (s : CSt) (dst : Option Tmp) (v : Value) (e : Eff) : (s.put dst v (e.tree s.nx s.ht) (e.nx s.nx) s.asm).st = s.st.put dst v e := by
  rw [CSt.put_st, Eff.tree_get]; rfl
theorem drop_head {ops : Array Oper} {o : Oper} {l : List Oper} {i : Nat} (h : o :: l = ops.toList.drop i) : ops[i]? = some o ∧ l = ops.toList.drop (i + 1) := by
  have h0 : (ops.toList.drop i)[0]? = some o := by rw [← h]; rfl
  rw [List.getElem?_drop] at h0
  refine ⟨by simpa using h0, ?_⟩
  have : (ops.toList.drop i).drop 1 = ops.toList.drop (i + 1) := by rw [List.drop_drop]
  rw [← this, ← h]; rfl
def AsTold (P : Program) (W0 : World) (x : FuncId × List Value × Value) : Prop :=
  Enters P x.1 ∧ ∀ nx H, ACalls P W0 x.1 x.2.1 nx H fun v nx' H' => v = x.2.2 ∧ nx' = nx ∧ H' = H
variable {ov : FuncId → List Value → Option Value}
end
end
end Go.Am
namespace Go.Am
set_option linter.unusedSimpArgs false
set_option linter.unusedVariables false
open Go.RowKit
noncomputable section
section
variable {P : Program} {W0 : World}
abbrev Tables := List (Nat × List Value)
noncomputable def tabTree (T : Tables) : Tree AObj := T.foldr (fun x t => t.set x.1 (.cells x.2 1 none true none)) .leaf
def Tabs (T : Tables) (w : World) : Prop := ∀ x ∈ T, x.1 < NG ∧ x.2.all plain1 = true ∧ ∃ Cc el fr, w.heap[x.1]? = some (.cells Cc el fr) ∧ x.2.length ≤ Cc.size ∧ ∀ i, i < x.2.length → Cc[i]? = x.2[i]?
theorem Tabs.nil {w : World} : Tabs [] w := fun _ h => by cases h
theorem Tabs.below {T : Tables} {w w' : World} (h : Tabs T w) (hb : BelD w.heap.size w w') : Tabs T w' := fun x hx => by
  obtain ⟨h1, h2, Cc, el, fr, h3, h4⟩ := h x hx
  exact ⟨h1, h2, Cc, el, fr, (hb.block _ (Array.getElem?_eq_some_iff.1 h3).1).trans h3, h4⟩
theorem tabTree_get {T : Tables} {g : Nat} {o : AObj} (h : (tabTree T).get g = some o) : ∃ c, (g, c) ∈ T ∧ o = .cells c 1 none true none := by
  induction T with
  | nil => simp [tabTree, Tree.get_leaf] at h
  | cons x T ih =>
    simp only [tabTree, List.foldr_cons, Tree.get_set] at h
    split at h
    · rename_i e
      cases h
      subst e
      exact ⟨x.2, List.mem_cons_self .., rfl⟩
    · obtain ⟨c, h1, h2⟩ := ih h
      exact ⟨c, List.mem_cons_of_mem _ h1, h2⟩
def Corr.tab (w : World) : Corr := ⟨fun i => (i, 0), fun i => match w.heap[i]? with | some (.cells Cc _ _) => Cc.size | _ => 0, fun _ => none⟩
theorem Rel.tabs {T : Tables} {w : World} (hT : Tabs T w) (hb : BelD W0.heap.size W0 w) : Rel W0 (Corr.tab w) NG (tabTree T).get w := by
  refine ⟨hb, fun g o h => ?_, fun g o h => ?_, fun g o h hro => ?_, fun i j oi oj hi hj _ hro => ?_, fun _ _ h => (by cases h), Nat.le_refl _, fun g o _ h => ?_, fun _ _ _ => rfl⟩
  · obtain ⟨c, hm, rfl⟩ := tabTree_get h
    exact ⟨(hT _ hm).1, fun t ht => by cases ht⟩
  · obtain ⟨c, hm, rfl⟩ := tabTree_get h
    obtain ⟨h1, h2, Cc, el, fr, h3, h4, h5⟩ := hT _ hm
    refine ⟨Cc, el, fr, h3, by simp [Corr.tab, h3], by simpa [Corr.tab] using h4, fun i hi hi' => ?_, fun x => (by cases x), fun t x => (by cases x), fun x => (by cases x), fun x => (by cases x)⟩
    have hq := h5 i hi
    simp only [Corr.tab, Nat.zero_add] at hi' ⊢
    rw [Array.getElem?_eq_getElem hi', List.getElem?_eq_getElem hi, Option.some.injEq] at hq
    rw [hq]
    exact plain1_VR (List.all_eq_true.1 h2 _ (List.getElem_mem hi))
  · obtain ⟨c, _, rfl⟩ := tabTree_get h; cases hro
  · obtain ⟨c, _, rfl⟩ := tabTree_get hi; cases hro
  · obtain ⟨c, _, rfl⟩ := tabTree_get h; exact ⟨rfl, rfl⟩
theorem told_of_callsB {f : FuncId} {args : List Value} {r : Value} (hf : Enters P f) (ha : args.all plain1 = true) (hr : plain1 r = true)
    (h : ∀ w, BelD W0.heap.size W0 w → Calls P f args.toArray w fun e w' => e = .returned r ∧ BelD w.heap.size w w') : AsTold P W0 (f, args, r) := by
  refine ⟨hf, fun nx H C w args' hR hargs => ?_⟩
  have hargs' : args' = args := by
    apply List.ext_getElem hargs.1.symm
    intro i p q
    have hv := hargs.2 i q p
    have hp := List.all_eq_true.1 ha args[i] (List.getElem_mem q)
    generalize args[i] = x at hv hp
    generalize args'[i] = y at hv
    cases hv <;> first | rfl | (simp [plain1] at hp)
  subst hargs'
  refine (h w hR.below).mono ?_
  rintro e w' ⟨rfl, hb⟩
  refine ⟨r, r, C, nx, H, rfl, ⟨rfl, rfl, rfl⟩, ?_, plain1_VR hr, Stp.refl _ _ _⟩
  exact hR.world (hR.below.trans (hb.mono hR.below.size)) (fun k hk => hb.block k hk)
theorem told_of_calls {f : FuncId} {args : List Value} {r : Value} (hf : Enters P f) (ha : args.all plain1 = true) (hr : plain1 r = true)
    (h : ∀ w, Calls P f args.toArray w fun e w' => e = .returned r ∧ BelD w.heap.size w w') : AsTold P W0 (f, args, r) := told_of_callsB hf ha hr fun w _ => h w
theorem calls_of_told {T : Tables} {f : FuncId} {args : List Value} {R : Value → Prop} (ha : args.all plain1 = true) (w : World) (hT : Tabs T w) (h : ACalls P w f args NG (tabTree T).get fun v _ _ => R v) :
    Calls P f args.toArray w fun e w' => ∃ v v', e = .returned v' ∧ R v ∧ (plain1 v = true → v' = v) ∧ BelD w.heap.size w w' := by
  refine (h (Corr.tab w) w args (Rel.tabs hT (BelD.refl _ _)) (plain_VRs ha)).mono ?_
  rintro e w' ⟨v, v', C', nx', H', rfl, hr, hR, hv, hS⟩
  refine ⟨v, v', rfl, hr, fun hp => ?_, hR.below⟩
  cases hv <;> first | rfl | (simp [plain1] at hp)
variable {xs : List Nat} {ov : FuncId → List Value → Option Value}
structure Fit (P : Program) (xs : List Nat) : Prop where
  names : ∀ (f : FuncId) (fn : Func), P.funcs[f]? = some fn → (fn.name == "runtime.NumGoroutine") = false
  exts : ∀ f, f < XB → xs.contains f = true → IdExt P f
  idxs : ∀ f, f < XB → xs.contains (XB + f) = true → IdxExt P f
  mixed : P.follows .mixedOrders = true
  small : P.funcs.size ≤ YB
  extsLt : ∀ f, xs.contains f = true → f < YB
end
end
end Go.Am
