import Derived.Test.YtmijhkclfoadaaaDoorQEM15
namespace Go.Am
set_option linter.unusedSimpArgs false
set_option linter.unusedVariables false
open Go.RowKit
noncomputable def putArgs (n : Nat) : Tree Value → List Tmp → List Value → Option (Tree Value)
  | tt, [], vs => match vs with
    | [] => some tt
    | _ => none
  | tt, p :: ps, vs => match vs with
    | v :: vs => cond (Nat.blt p n) (putArgs n (tt.set p v) ps vs) none
    | [] => none
def jumpOf : AExit → Option Code
  | .normal => none
  | .exit id => some (.exit id)
  | .goto l => some (.goto l)
  | .ret => some .ret
def endSt : AExit → LoopState
  | .normal => .ready
  | _ => .done
section
variable {P : Program} {W0 : World} {C : Corr} {nx : Nat} {H : Heap} {w : World}
theorem Corr.put_self (C : Corr) (k : Nat) : C.put k (C.loc k) (C.siz k) = C := by
  cases C with
  | mk loc siz pin =>
    simp only [Corr.put]
    congr 1
    · funext i; by_cases e : i = k
      · subst e; simp
      · simp [e]
    · funext i; by_cases e : i = k
      · subst e; simp
      · simp [e]
theorem isLoop_iff {o : Option AObj} : isLoop o = true ↔ ∃ a b c d e f g, o = some (.loop a b c d e f g) := by
  constructor
  · intro h
    unfold isLoop at h
    split at h
    · exact ⟨_, _, _, _, _, _, _, rfl⟩
    · cases h
  · rintro ⟨a, b, c, d, e, f, g, rfl⟩; rfl
theorem Rel.setLoop (h : Rel W0 C nx H w) {l : Nat} {stt : LoopState} {pend : Option Code} {tt : Tree Value} {n : Nat} {ps : List Tmp} {asg body : Code} (hl : H l = some (.loop stt pend tt n ps asg body)) :
    ∃ r : Loop, w.heap[(C.loc l).1]? = some (.loop r) ∧ r.state = stt ∧ r.pending = pend ∧ r.tmps.size = n ∧ r.params.toList = ps ∧ r.assign = asg ∧ r.body = body ∧ (∀ t, VR nx H C ((tt.get t).getD undef) (r.tmps.getD t undef)) ∧
      ∀ (s2 : LoopState) (p2 : Option Code), Rel W0 C nx (H.put l (.loop s2 p2 tt n ps asg body)) { w with heap := w.heap.setIfInBounds (C.loc l).1 (.loop { r with state := s2, pending := p2 }) } ∧ Stp nx H C nx (H.put l (.loop s2 p2 tt n ps asg body)) C := by
  obtain ⟨r, h1, h2, h3, h4, h5, h6, h7, h8, h9⟩ := h.obj l _ hl
  refine ⟨r, h1, h3, h4, h5, h6, h7, h8, h9, fun s2 p2 => ?_⟩
  have hlt : (C.loc l).1 < w.heap.size := (Array.getElem?_eq_some_iff.1 h1).1
  have hown := h.own l _ hl rfl
  have hne : ∀ k, k ≠ (C.loc l).1 → (w.heap.setIfInBounds (C.loc l).1 (.loop { r with state := s2, pending := p2 }))[k]? = w.heap[k]? := fun k hk => Array.getElem?_setIfInBounds_ne (Ne.symm hk)
  have := h.set (w' := { w with heap := w.heap.setIfInBounds (C.loc l).1 (.loop { r with state := s2, pending := p2 }) }) l _ (.loop s2 p2 tt n ps asg body) (C.loc l) (C.siz l) hl rfl (Nat.le_refl _) (.inl ⟨rfl, rfl, rfl, rfl⟩) (.inl rfl) (fun x => rfl)
    (h.below.trans ⟨rfl, rfl, rfl, by simp, fun k hk => hne k (by have := hown.1; omega), Nat.le_refl _⟩) (fun k _ hk => hne k hk)
    (fun C' hC hS => by
      rw [Corr.put_self] at hC
      subst hC
      exact ⟨{ r with state := s2, pending := p2 }, Array.getElem?_setIfInBounds_self_of_lt hlt, h2, rfl, rfl, h5, h6, h7, h8, fun t => (h9 t).mono hS⟩)
    (fun _ => ⟨rfl, rfl⟩)
  rw [Corr.put_self] at this
  exact this
theorem putArgs_sound {n : Nat} : ∀ (ps : List Tmp) (vs vs' : List Value) (tt t1 : Tree Value) (tmps : Array Value), putArgs n tt ps vs = some t1 → VRs nx H C vs vs' → tmps.size = n → (∀ t, VR nx H C ((tt.get t).getD undef) (tmps.getD t undef)) →
    ps.length = vs'.length ∧ (((ps.zip vs').foldl (fun t (x : Tmp × Value) => t.setIfInBounds x.1 x.2) tmps).size = n ∧ ∀ t, VR nx H C ((t1.get t).getD undef) (((ps.zip vs').foldl (fun t (x : Tmp × Value) => t.setIfInBounds x.1 x.2) tmps).getD t undef)) := by
  intro ps
  induction ps with
  | nil =>
    intro vs vs' tt t1 tmps h hv hs ht
    cases vs with
    | nil =>
      simp only [putArgs, Option.some.injEq] at h
      subst h
      have : vs' = [] := by rw [← List.length_eq_zero_iff, ← hv.1]; rfl
      subst this
      exact ⟨rfl, hs, ht⟩
    | cons v vs => simp [putArgs] at h
  | cons p ps ih =>
    intro vs vs' tt t1 tmps h hv hs ht
    cases vs with
    | nil => simp [putArgs] at h
    | cons v vs =>
      simp only [putArgs] at h
      cases hb : Nat.blt p n with
      | false => rw [hb] at h; cases h
      | true =>
        rw [hb] at h
        have hlt : p < n := by rw [Nat.blt_eq] at hb; exact hb
        obtain ⟨v', r, rfl, hx, hr⟩ := hv.uncons
        have := ih vs r (tt.set p v) t1 (tmps.setIfInBounds p v') h hr (by simpa using hs) (fun t => by
          rw [Tree.get_set]
          by_cases e : t = p
          · subst e
            rw [if_pos rfl, Array.getD_eq_getD_getElem?, Array.getElem?_setIfInBounds_self_of_lt (by rw [hs]; exact hlt)]
            exact hx
          · rw [if_neg e, Array.getD_eq_getD_getElem?, Array.getElem?_setIfInBounds_ne (Ne.symm e), ← Array.getD_eq_getD_getElem?]
            exact ht t)
        exact ⟨by simp [this.1], this.2⟩
theorem run_getLoop {c : Nat} {r : Loop} (h : w.heap[c]? = some (.loop r)) : (Instr.getLoop c).run P w = .ok r w := by
  simp [Instr.getLoop, Sem.run_bind, getObj, Sem.run, h, Result.andThen]
theorem run_setLoop {c : Nat} {r r2 : Loop} (h : w.heap[c]? = some (.loop r)) : (setObj c (.loop r2)).run P w = .ok () { w with heap := w.heap.setIfInBounds c (.loop r2) } := by
  simp only [setObj, Sem.run, h]
theorem run_newObj (o : Obj) : (newObj o).run P w = .ok w.heap.size (w.alloc o) := rfl
theorem AYields.of_trip {l : Nat} {pend : Option Code} {tt t1 : Tree Value} {n : Nat} {ps : List Tmp} {asg body : Code} {args : List Value} {R : Value → Nat → Heap → Prop}
    (hl : H l = some (.loop .ready pend tt n ps asg body)) (hput : putArgs n tt ps args = some t1)
    (h : Trip P W0 asg ⟨fun t => (t1.get t).getD undef, n, H, nx⟩ fun x s => x = .normal ∧ ∃ pend2 tt2 n2 ps2 asg2 body2, s.H l = some (.loop .ready pend2 tt2 n2 ps2 asg2 body2) ∧
      Trip P W0 body ⟨s.tm, s.n, s.H.put l (.loop .busy pend2 tt2 n2 ps2 asg2 body2), s.nx⟩ fun x q => ∃ st3 pend3 tt3 n3 ps3 asg3 body3, q.H l = some (.loop st3 pend3 tt3 n3 ps3 asg3 body3) ∧
        R (.bool (jumpOf x).isNone) q.nx (q.H.put l (.loop (endSt x) (jumpOf x) tt3 n3 ps3 asg3 body3))) : AYields P W0 l args nx H R := by
  intro C w args' hR ha
  obtain ⟨r, h1, h3, h4, h5, h6, h7, h8, h9, _⟩ := hR.setLoop hl
  obtain ⟨hlen, hsz, hvr⟩ := putArgs_sound ps args args' tt t1 r.tmps hput ha h5 h9
  have hnx : l < nx := (hR.lt l _ hl).1
  have hfold : (r.params.zip args'.toArray).foldl (fun tmps (x : Tmp × Value) => tmps.setIfInBounds x.1 x.2) r.tmps = (ps.zip args').foldl (fun t (x : Tmp × Value) => t.setIfInBounds x.1 x.2) r.tmps := by
    rw [← Array.foldl_toList, Array.toList_zip, h6]
  have hyield : (Instr.yield (C.loc l).1 args'.toArray).run P w = .ok (.round (C.loc l).1 r.fn ((ps.zip args').foldl (fun t (x : Tmp × Value) => t.setIfInBounds x.1 x.2) r.tmps) asg body) w := by
    have hsize : args'.toArray.size = r.params.size := by rw [← Array.length_toList (xs := r.params), h6, hlen]; simp
    simp only [Instr.yield, Sem.run_bind, run_getLoop h1, Result.andThen_ok]
    rw [if_neg (by simpa using hsize)]
    simp only [Sem.run_bind, Sem.run_pure, Result.andThen_ok]
    rw [h7, h8]
    congr 2
  refine ⟨_, _, _, _, hyield, roundIn_of_wpIn trivial ?_⟩
  have hrnd : RndOk (some (C.loc l).1) C nx H := fun c hc => ⟨l, hnx, by rw [hl]; rfl, by cases hc; rfl⟩
  have hs : SRel W0 C ⟨fun t => (t1.get t).getD undef, n, H, nx⟩ { tmps := (ps.zip args').foldl (fun t (x : Tmp × Value) => t.setIfInBounds x.1 x.2) r.tmps, defers := [] } w := ⟨hvr, hsz, hR⟩
  have hw : asg.wpIn (Fence.wide.inRound (C.loc l).1) 0 P _ _ w := h (some (C.loc l).1) C _ w hrnd hs
  refine wpIn_mono hw ?_
  rintro e a1 w1 ⟨x, s, C1, rfl, ⟨rfl, pend2, tt2, n2, ps2, asg2, body2, hl2, hb⟩, hs1, hS1, hn1, hm1⟩
  have hfix1 := hS1.fix l hnx (by show isLoop (H l) = true; rw [hl]; rfl)
  obtain ⟨r2, g1, g3, _, _, _, _, _, _, gset⟩ := hs1.rel.setLoop hl2
  obtain ⟨hR2, hS2⟩ := gset .busy pend2
  have hloc1 : (C1.loc l).1 = (C.loc l).1 := by rw [hfix1.2]
  refine ⟨{ w1 with heap := w1.heap.setIfInBounds (C1.loc l).1 (.loop { r2 with state := .busy, pending := pend2 }) }, ?_, ?_⟩
  · rw [← hloc1]
    simp only [Instr.beginRound, Sem.run_bind, run_getLoop g1, Result.andThen_ok, g3]
    have : ({ r2 with state := .busy, pending := pend2 } : Loop) = { r2 with state := .busy } := by
      rename_i gp _ _ _ _ _
      rw [← gp]
    rw [this]
    simp only [run_setLoop g1, Result.andThen_ok, Sem.run_pure]
  · have hs2 : SRel W0 C1 ⟨s.tm, s.n, s.H.put l (.loop .busy pend2 tt2 n2 ps2 asg2 body2), s.nx⟩ a1 { w1 with heap := w1.heap.setIfInBounds (C1.loc l).1 (.loop { r2 with state := .busy, pending := pend2 }) } :=
      ⟨fun t => (hs1.tm t).mono hS2, hs1.sz, hR2⟩
    have hrnd2 : RndOk (some (C.loc l).1) C1 s.nx (s.H.put l (.loop .busy pend2 tt2 n2 ps2 asg2 body2)) := (hrnd.next hS1).next hS2
    have hw2 : body.wpIn (Fence.wide.inRound (C.loc l).1) 0 P _ _ _ := hb (some (C.loc l).1) C1 a1 _ hrnd2 hs2
    refine wpIn_mono hw2 ?_
    rintro e a2 w2 ⟨x, q, C2, rfl, ⟨st3, pend3, tt3, n3, ps3, asg3, body3, hl3, hr3⟩, hs3, hS3, hn3, hm3⟩
    obtain ⟨r3, k1, _, _, _, _, _, _, _, kset⟩ := hs3.rel.setLoop hl3
    obtain ⟨hR4, hS4⟩ := kset (endSt x) (jumpOf x)
    have hfix2 := hS3.fix l (Nat.lt_of_lt_of_le hnx hS1.le) (by simp only [Heap.put, if_true]; rfl)
    have hloc2 : (C2.loc l).1 = (C.loc l).1 := by rw [hfix2.2, hloc1]
    have hend : (Instr.endRound (C.loc l).1 (jumpOf x)).run P w2 = .ok (.bool (jumpOf x).isNone) { w2 with heap := w2.heap.setIfInBounds (C2.loc l).1 (.loop { r3 with state := endSt x, pending := jumpOf x }) } := by
      rw [← hloc2]
      simp only [Instr.endRound, Sem.run_bind, run_getLoop k1, Result.andThen_ok]
      have e : (if (jumpOf x).isNone = true then LoopState.ready else LoopState.done) = endSt x := by cases x <;> rfl
      rw [e]
      simp only [run_setLoop k1, Result.andThen_ok, Sem.run_pure]
    have hfin : ∃ v v' C' nx' H', Ending.returned (Value.bool (jumpOf x).isNone) = .returned v' ∧ R v nx' H' ∧ Rel W0 C' nx' H' { w2 with heap := w2.heap.setIfInBounds (C2.loc l).1 (.loop { r3 with state := endSt x, pending := jumpOf x }) } ∧ VR nx' H' C' v v' ∧ Stp nx H C nx' H' C' :=
      ⟨_, _, C2, q.nx, _, rfl, hr3, hR4, .bool _, ((hS1.trans hS2).trans hS3).trans hS4⟩
    cases x with
    | normal => exact ⟨_, _, hend, hfin⟩
    | ret => exact ⟨_, _, hend, hfin⟩
    | exit id => exact ⟨_, _, hend, hfin⟩
    | goto t => exact ⟨_, _, hend, hfin⟩
theorem enterLoop_sound {ρ : Option Nat} {st : ASt} {a : Act} (hr : RndOk ρ C st.nx st.H) (hs : SRel W0 C st a w) (fn : FuncId) (ps : Array Tmp) (asg body : Code) {tt : Tree Value} (htt : ∀ t, (tt.get t).getD undef = st.tm t) :
    ∃ C1 mk lc w1, (Instr.enterLoop fn a.tmps ps asg body ρ).run P w = .ok (lc, mk) w1 ∧ Rel W0 C1 (st.nx + 1) (st.H.put st.nx (.loop .ready none tt st.n ps.toList asg body)) w1 ∧
      Stp st.nx st.H C (st.nx + 1) (st.H.put st.nx (.loop .ready none tt st.n ps.toList asg body)) C1 ∧ (C1.loc st.nx).1 = lc ∧ Mks C C1 a.defers (mk ++ a.defers) := by
  have lay : ∀ (C0 : Corr) (w0 : World) (d : Nat), Rel W0 C0 st.nx st.H w0 → (∀ t, VR st.nx st.H C0 (st.tm t) (a.tmps.getD t undef)) →
      Rel W0 (C0.put st.nx (w0.heap.size, 0) 0) (st.nx + 1) (st.H.put st.nx (.loop .ready none tt st.n ps.toList asg body)) (w0.alloc (.loop { state := .ready, pending := none, fn, tmps := a.tmps, params := ps, assign := asg, body, defers := d })) ∧
      Stp st.nx st.H C0 (st.nx + 1) (st.H.put st.nx (.loop .ready none tt st.n ps.toList asg body)) (C0.put st.nx (w0.heap.size, 0) 0) := by
    intro C0 w0 d hR ht
    refine hR.new (.loop .ready none tt st.n ps.toList asg body) _ 0 0 (fun t h => by cases h) fun C' hC hS => ?_
    subst hC
    exact ⟨_, by simp only [Corr.put, if_true]; exact Array.getElem?_push_size, by simp [Corr.put], rfl, rfl, hs.sz, rfl, rfl, rfl, fun t => by rw [htt]; exact (ht t).mono hS⟩
  cases ρ with
  | none =>
    obtain ⟨hR1, hS1⟩ := hs.rel.pinNew (.deferred (some []))
    obtain ⟨hR2, hS2⟩ := lay _ _ w.heap.size hR1 (fun t => (hs.tm t).mono hS1)
    refine ⟨_, [mark w.heap.size], _, _, ?_, hR2, hS1.trans hS2, rfl, [w.heap.size], rfl, by simp, fun D hD => ?_⟩
    · simp only [Instr.enterLoop, Sem.run_bind, run_newObj, Result.andThen_ok, Sem.run_pure, mark]
      simp [Corr.put]
    · rw [List.mem_singleton] at hD
      subst hD
      refine ⟨?_, by simp only [Corr.put, Corr.re, if_true]⟩
      cases hq : C.pin w.heap.size with
      | none => rfl
      | some o => exact absurd (Array.getElem?_eq_some_iff.1 (hs.rel.pin _ _ hq).2).1 (Nat.lt_irrefl _)
  | some c =>
    obtain ⟨l0, e1, e2, e3⟩ := hr c rfl
    obtain ⟨a1, a2, a3, a4, a5, a6, a7, e4⟩ := isLoop_iff.1 e2
    obtain ⟨r, h1, _⟩ := hs.rel.setLoop e4
    rw [e3] at h1
    obtain ⟨hR2, hS2⟩ := lay C w r.defers hs.rel hs.tm
    refine ⟨_, [], _, _, ?_, hR2, hS2, rfl, .same⟩
    simp only [Instr.enterLoop, Sem.run_bind, run_getLoop h1, run_newObj, Result.andThen_ok, Sem.run_pure]
    simp [Corr.put]
theorem Trip.rangeFunc {st : ASt} {g : Operand} {ps : Array Tmp} {asg body : Code} {Q : AExit → ASt → Prop} {f : FuncId} {first cap : Array Value} {tt : Tree Value} {R : Value → Nat → Heap → Prop} (htt : ∀ t, (tt.get t).getD undef = st.tm t)
    (hg : st.ev g = some (.func (.func f) first cap)) (hf : Enters P f)
    (hcall : ACalls P W0 f ((first.toList ++ [.chan (some st.nx)]) ++ cap.toList) (st.nx + 1) (st.H.put st.nx (.loop .ready none tt st.n ps.toList asg body)) R)
    (h : ∀ v nx' H', R v nx' H' → ∃ stt pend tt' n' ps' asg' body', H' st.nx = some (.loop stt pend tt' n' ps' asg' body') ∧ stt ≠ .busy ∧
      ((pend = none ∧ Q .normal ⟨st.tm, st.n, H'.del st.nx, nx'⟩) ∨
       ∃ c, pend = some c ∧ Trip P W0 c ⟨st.tm, st.n, H'.del st.nx, nx'⟩ Q)) : Trip P W0 (.rangeFunc g ps asg body) st Q := by
  intro ρ C a w hr hs
  refine wpIn_rangeFunc fun fn _ => ?_
  obtain ⟨C1, mk, lc, w1, hent, hR1, hS1, hlc, hmk⟩ := enterLoop_sound (P := P) hr hs fn ps asg body htt
  have hv := (hs.ev g _ hg).mono hS1
  obtain ⟨fnn, f1, f2, f3⟩ := hf
  generalize hu : a.eval g = u at hv
  cases hv with
  | func _ _ a' _ b' q1 q2 q3 q4 =>
  have hyl : VR (st.nx + 1) (st.H.put st.nx (.loop .ready none tt st.n ps.toList asg body)) C1 (.chan (some st.nx)) (.func (.yield lc) #[] #[]) := .yld _ _ (by omega) (fun _ _ _ => hlc.symm)
  have hargs := ((agg_VRs q1 q3).append (VRs.cons hyl VRs.nil)).append (agg_VRs q2 q4)
  refine ⟨lc, mk, w1, ⟨.fn (.func f) b', a' ++ #[.func (.yield lc) #[] #[]]⟩, w1, f, (a' ++ #[.func (.yield lc) #[] #[]]) ++ b', w1, hent, ?_, fun _ _ => trivial, ?_, fun h => (by cases h), ?_⟩
  · simp only [resolve, rangeCall, Deferred.ofValue, hu, Sem.run_bind, Sem.run_pure, Result.andThen_ok]
    simp [Act.eval, Sem.run_pure]
  · simp only [invoke, callFunc, Sem.run_bind, run_program, Result.andThen_ok, f1, f2, f3, Bool.false_eq_true, if_false, Sem.run_pure]
  · refine callsIn_rf ?_
    have hc := hcall C1 w1 _ hR1 hargs
    have e : ((a'.toList ++ [Value.func (.yield lc) #[] #[]]) ++ b'.toList).toArray = (a' ++ #[.func (.yield lc) #[] #[]]) ++ b' := by apply Array.ext'; simp
    rw [e] at hc
    refine hc.mono ?_
    rintro e w3 ⟨v, v', C2, nx2, H2, rfl, hq, hR2, _, hS2⟩
    obtain ⟨stt, pend, tt', n', ps', asg', body', hl, hnb, hend⟩ := h v nx2 H2 hq
    obtain ⟨r, k1, k2, k3, _, _, _, _, _, kset⟩ := hR2.setLoop hl
    obtain ⟨hR3, hS3⟩ := kset .exhausted pend
    have hfix := hS2.fix st.nx (by omega) (by simp only [Heap.put, if_true]; rfl)
    have hloc : (C2.loc st.nx).1 = lc := by rw [hfix.2]; exact hlc
    have hS0 := (hS1.trans hS2).trans hS3
    obtain ⟨hR4, hS4⟩ := hR3.sub (H' := H2.del st.nx) (fun id o ho => by
      unfold Heap.del at ho
      split at ho
      · cases ho
      · rename_i hne; simp only [Heap.put, hne, if_false]; exact ho)
    have hS : Stp st.nx st.H C nx2 (H2.del st.nx) C2 := ⟨hS0.toStp0.trans hS4, hS0.pin, fun id hid hl => by
      obtain ⟨g1, g2⟩ := hS0.fix id hid hl
      have hne : id ≠ st.nx := by omega
      simp only [Heap.put, hne, if_false] at g1
      exact ⟨by simp only [Heap.del, hne, if_false]; exact g1, g2⟩⟩
    refine ⟨pend, { w3 with heap := w3.heap.setIfInBounds (C2.loc st.nx).1 (.loop { r with state := .exhausted, pending := pend }) }, ?_, ?_⟩
    · rw [← hloc]
      have hb : (r.state == LoopState.busy) = false := by rw [k2]; cases stt <;> first | rfl | exact absurd rfl hnb
      have : ({ r with state := .exhausted, pending := pend } : Loop) = { r with state := .exhausted } := by rw [← k3]
      rw [this]
      simp only [Instr.endLoop, Sem.run_bind, run_getLoop k1, Result.andThen_ok, hb, Bool.false_eq_true, if_false, Sem.run_pure]
      simp only [run_setLoop k1, Result.andThen_ok, Sem.run_pure, k3]
    · have hs3 : SRel W0 C2 ⟨st.tm, st.n, H2.del st.nx, nx2⟩ { a with defers := mk ++ a.defers } { w3 with heap := w3.heap.setIfInBounds (C2.loc st.nx).1 (.loop { r with state := .exhausted, pending := pend }) } :=
        ⟨fun t => (hs.tm t).mono hS, hs.sz, hR4⟩
      have hm : Mks C C2 a.defers (mk ++ a.defers) := hmk.trans .same hS1.pin (hS2.trans hS3).pin
      rcases hend with ⟨rfl, hq⟩ | ⟨c, rfl, ht⟩
      · exact ⟨.normal, _, C2, rfl, hq, hs3, hS, rfl, hm⟩
      · exact wpIn_mono (ht ρ C2 _ _ (hr.next hS) hs3) fun e a w hp => Post.trans hp hS rfl hm
end
end Go.Am
