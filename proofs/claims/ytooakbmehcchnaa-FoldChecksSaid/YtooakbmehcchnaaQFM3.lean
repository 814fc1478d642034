import Derived.Lib.Builder
import Derived.RangeFuncLeaves
import Derived.LoopNIn
import Derived.OrdersIn
import Derived.Test.YtooakbmehcchnaaQFM2
set_option linter.unusedSimpArgs false
set_option linter.unusedVariables false
set_option maxRecDepth 100000
set_option maxHeartbeats 16000000
namespace Go.Am
open Go.RowKit
section
variable {P : Program} {W0 : World} {C : Corr} {nx : Nat} {H : Heap} {w : World}
theorem VRs.func {fn : Fn} {a a' b b' : List Value} (ha : VRs nx H C a a') (hb : VRs nx H C b b') : VR nx H C (.func fn a.toArray b.toArray) (.func fn a'.toArray b'.toArray) :=
  .func fn _ _ _ _ (by simpa using ha.1) (by simpa using hb.1) (fun i h h' => by simpa using ha.2 i (by simpa using h) (by simpa using h')) (fun i h h' => by simpa using hb.2 i (by simpa using h) (by simpa using h'))
def aIntStr (P : Program) (src dst : TypeId) (x : Value) : Option Value :=
  match P.underlying src, P.underlying dst, x with
  | some (.int _), some .string, .int _ n => some (.string (Utf8.encode n))
  | _, _, _ => none
theorem aIntStr_sound (hR : Rel W0 C nx H w) {src dst : TypeId} {x x' v : Value} (h : aIntStr P src dst x = some v) (hx : VR nx H C x x') : Snd W0 C nx H ((convert src dst x').run P w) v .none := by
  unfold aIntStr at h
  split at h
  · rename_i hs hd
    cases h
    cases hx
    refine Snd.same hR (v' := .string (Utf8.encode _)) ?_ (.string _)
    simp only [convert, Sem.run_bind, run_underlying hs, run_underlying hd, Result.andThen_ok, Conv.intToString, Sem.run_pure]
  · cases h
def aRange (P : Program) (H : Heap) (nx : Nat) (t : TypeId) (x : Value) : Option (Value × Eff) :=
  match P.underlying t, x with
  | some .string, .string s => some (.pointer (some ⟨nx, 0, none⟩), .new (.siter s 0))
  | some (.map _ _), .map none => some (.pointer (some ⟨nx, 0, none⟩), .new (.miter none 0 [] 0))
  | some (.map _ _), .map (some r) =>
    match H r with
    | some (.map _ _ clk) => some (.pointer (some ⟨nx, 0, none⟩), .new (.miter (some r) clk [] clk))
    | _ => none
  | _, _ => none
theorem aRange_sound (hR : Rel W0 C nx H w) {t : TypeId} {x x' v : Value} {e : Eff} (h : aRange P H nx t x = some (v, e)) (hx : VR nx H C x x') : Snd W0 C nx H ((Instr.range t x').run P w) v e := by
  unfold aRange at h
  split at h
  · rename_i s hu
    cases h
    cases hx
    have key : Snd W0 C nx H (.ok (.pointer (some ⟨w.heap.size, 0, none⟩)) (w.alloc (.stringIter s 0))) (.pointer (some ⟨nx, 0, none⟩)) (.new (.siter s 0)) := by
      obtain ⟨h1, h2⟩ := hR.new (.siter s 0) (.stringIter s 0) 0 0 (by simp [AObj.tag]) (by
        rintro C' rfl hst
        refine ⟨?_, by simp [Corr.put]⟩
        simp only [Corr.put, if_true]
        exact heap_alloc_new w _)
      refine ⟨_, _, _, rfl, h1, h2, .ptr _ _ ⟨?_, ?_⟩ ?_⟩
      · show nx < nx + 1; omega
      · intro t ht; cases ht
      · intro _
        simp [Corr.at, Corr.put]
    have : (Instr.range t (.string s)).run P w = .ok (.pointer (some ⟨w.heap.size, 0, none⟩)) (w.alloc (.stringIter s 0)) := by
      simp [Instr.range, run_underlying hu]
    rw [this]; exact key
  · rename_i kt et hu
    cases h
    cases hx
    have key : Snd W0 C nx H (.ok (.pointer (some ⟨w.heap.size, 0, none⟩)) (w.alloc (.mapIter none 0 #[] 0))) (.pointer (some ⟨nx, 0, none⟩)) (.new (.miter none 0 [] 0)) := by
      obtain ⟨h1, h2⟩ := hR.new (.miter none 0 [] 0) (.mapIter none 0 #[] 0) 0 0 (by simp [AObj.tag]) (by
        rintro C' rfl hst
        refine ⟨none, ?_, by simp [Corr.put], .nilm⟩
        simp only [Corr.put, if_true]
        exact heap_alloc_new w _)
      exact ⟨_, _, _, rfl, h1, h2, .ptr _ _ ⟨Nat.lt_succ_self nx, fun t ht => by cases ht⟩ (fun _ => by simp [Corr.at, Corr.put])⟩
    have : (Instr.range t (.map none)).run P w = .ok (.pointer (some ⟨w.heap.size, 0, none⟩)) (w.alloc (.mapIter none 0 #[] 0)) := by
      simp [Instr.range, run_underlying hu]
    rw [this]; exact key
  · rename_i kt et r hu
    split at h
    case h_2 => cases h
    rename_i es bs clk hr
    cases h
    cases hx with
    | map _ r' m1 m2 =>
    obtain rfl := m2 _ hr rfl
    obtain ⟨es', e1, e2, e3, e4⟩ := hR.obj _ _ hr
    have key : Snd W0 C nx H (.ok (.pointer (some ⟨w.heap.size, 0, none⟩)) (w.alloc (.mapIter (some (C.loc r).1) clk #[] clk))) (.pointer (some ⟨nx, 0, none⟩)) (.new (.miter (some r) clk [] clk)) := by
      obtain ⟨h1, h2⟩ := hR.new (.miter (some r) clk [] clk) (.mapIter (some (C.loc r).1) clk #[] clk) 0 0 (by simp [AObj.tag]) (by
        rintro C' rfl hst
        refine ⟨_, ?_, by simp [Corr.put], (VR.map r _ m1 m2).mono hst⟩
        simp only [Corr.put, if_true]
        exact heap_alloc_new w _)
      exact ⟨_, _, _, rfl, h1, h2, .ptr _ _ ⟨Nat.lt_succ_self nx, fun t ht => by cases ht⟩ (fun _ => by simp [Corr.at, Corr.put])⟩
    have : (Instr.range t (.map (some (C.loc r).1))).run P w = .ok (.pointer (some ⟨w.heap.size, 0, none⟩)) (w.alloc (.mapIter (some (C.loc r).1) clk #[] clk)) := by
      simp [Instr.range, run_underlying hu, getObj, Sem.run, e1]
    rw [this]; exact key
  · cases h
def aNext (H : Heap) (it : Value) (isString : Bool) : Option (Value × Eff) :=
  match it, isString with
  | .pointer (some ⟨r, 0, none⟩), true =>
    match H r with
    | some (.siter s pos) =>
      if pos < s.size then
        let c := Utf8.decode s pos
        some (.tuple #[.bool true, goInt pos, .int .i32 c.1], .upd r (.siter s (pos + c.2)))
      else some (.tuple #[.bool false], .none)
    | _ => none
  | _, _ => none
theorem aNext_sound (hR : Rel W0 C nx H w) {it it' : Value} {b : Bool} {ty : TypeId} {v : Value} {e : Eff} (h : aNext H it b = some (v, e)) (hx : VR nx H C it it') : Snd W0 C nx H ((Instr.next it' b ty).run P w) v e := by
  unfold aNext at h
  split at h
  case h_2 => cases h
  rename_i r
  split at h
  case h_2 => cases h
  rename_i s pos hr
  cases hx with
  | ptr _ a h1 h2 =>
  have ha : a = C.at ⟨r, 0, none⟩ := h2 ⟨_, hr, rfl⟩
  obtain ⟨hobj, hz⟩ := hR.obj _ _ hr
  have ha2 : a = ⟨(C.loc r).1, 0, none⟩ := by rw [ha]; simp [Corr.at, hz]
  subst ha2
  have hg : (getObj (C.loc r).1).run P w = .ok (.stringIter s pos) w := by simp [getObj, Sem.run, hobj]
  split at h
  · rename_i hp
    cases h
    have hlt := (Array.getElem?_eq_some_iff.1 hobj).1
    have hown := hR.own _ _ hr rfl
    have hbel : BelD W0.heap.size W0 { w with heap := w.heap.setIfInBounds (C.loc r).1 (.stringIter s (pos + (Utf8.decode s pos).2)) } := hR.below.trans ⟨rfl, rfl, rfl, by simp, fun k hk => by
      show (w.heap.setIfInBounds (C.loc r).1 _)[k]? = _
      rw [Array.getElem?_setIfInBounds_ne (by omega)], Nat.le_refl _⟩
    have hC : C.put r (C.loc r) (C.siz r) = C := by
      unfold Corr.put
      cases C with
      | mk l s => congr 1 <;> (funext i; simp; intro h; rw [h])
    have key := hR.set (w' := { w with heap := w.heap.setIfInBounds (C.loc r).1 (.stringIter s (pos + (Utf8.decode s pos).2)) }) r _ (.siter s (pos + (Utf8.decode s pos).2)) (C.loc r) (C.siz r) hr rfl (Nat.le_refl _) (.inl ⟨rfl, rfl, rfl, rfl⟩) (.inl rfl) (fun _ => rfl) hbel
      (fun k _ hk => by
        show (w.heap.setIfInBounds (C.loc r).1 _)[k]? = _
        rw [Array.getElem?_setIfInBounds_ne (Ne.symm hk)]) (by
        rintro C' rfl hst
        rw [hC]
        refine ⟨?_, hz⟩
        show (w.heap.setIfInBounds (C.loc r).1 _)[(C.loc r).1]? = _
        rw [Array.getElem?_setIfInBounds_self_of_lt hlt])
    rw [hC] at key
    refine ⟨_, _, C, ?_, key.1, key.2, (VRs.cons (.bool true) (VRs.cons (.int _ _) (VRs.cons (.int _ _) VRs.nil))).tuple⟩
    simp only [Instr.next, Sem.run_bind, hg, Result.andThen_ok, hp, if_true, Sem.run_pure]
    simp [setObj, Sem.run, hobj]
    rfl
  · rename_i hp
    cases h
    refine Snd.same hR (v' := .tuple #[.bool false]) ?_ (VRs.cons (.bool false) VRs.nil).tuple
    simp only [Instr.next, Sem.run_bind, hg, Result.andThen_ok, hp, if_false, Sem.run_pure]
def EB (nx : Nat) (H : Heap) (C : Corr) : List ((Value × Value) × Nat) → List MapEntry → Prop
  | [], [] => True
  | x :: l, e :: l' => VR nx H C x.1.1 e.key ∧ VR nx H C x.1.2 e.val ∧ e.born = x.2 ∧ EB nx H C l l'
  | _, _ => False
theorem EB.of_index : ∀ {es : List (Value × Value)} {bs : List Nat} {l' : List MapEntry}, l'.length = es.length → (∀ (i : Nat) (h : i < es.length) (h' : i < l'.length), VR nx H C es[i].1 l'[i].key ∧ VR nx H C es[i].2 l'[i].val) → l'.map (·.born) = bs → EB nx H C (es.zip bs) l' := by
  intro es
  induction es with
  | nil => intro bs l' h _ _; have : l' = [] := List.length_eq_zero_iff.1 h; subst this; exact trivial
  | cons x es ih =>
    intro bs l' h h2 h3
    cases l' with
    | nil => simp at h
    | cons e l' =>
      subst h3
      have h0 := h2 0 (by simp) (by simp)
      exact ⟨h0.1, h0.2, rfl, ih (by simpa using h) (fun i a b => h2 (i + 1) (by simpa using a) (by simpa using b)) rfl⟩
theorem EB.filter (p : Nat → Bool) : ∀ {l : List ((Value × Value) × Nat)} {l' : List MapEntry}, EB nx H C l l' → EB nx H C (l.filter fun x => p x.2) (l'.filter fun e => p e.born) := by
  intro l
  induction l with
  | nil => intro l' h; cases l' with
    | nil => exact trivial
    | cons e l' => exact h.elim
  | cons x l ih =>
    intro l' h
    cases l' with
    | nil => exact h.elim
    | cons e l' =>
      obtain ⟨h1, h2, h3, h4⟩ := h
      simp only [List.filter_cons, h3]
      split
      · exact ⟨h1, h2, h3, ih h4⟩
      · exact ih h4
theorem EB.len : ∀ {l : List ((Value × Value) × Nat)} {l' : List MapEntry}, EB nx H C l l' → l'.length = l.length := by
  intro l
  induction l with
  | nil => intro l' h; cases l' with
    | nil => rfl
    | cons e l' => exact h.elim
  | cons x l ih =>
    intro l' h
    cases l' with
    | nil => exact h.elim
    | cons e l' => simp [ih h.2.2.2]
theorem EB.get : ∀ {l : List ((Value × Value) × Nat)} {l' : List MapEntry}, EB nx H C l l' → ∀ (i : Nat) (h : i < l.length) (h' : i < l'.length), VR nx H C l[i].1.1 l'[i].key ∧ VR nx H C l[i].1.2 l'[i].val ∧ l'[i].born = l[i].2 := by
  intro l
  induction l with
  | nil => intro l' _ i h; simp at h
  | cons x l ih =>
    intro l' h
    cases l' with
    | nil => exact h.elim
    | cons e l' =>
      obtain ⟨h1, h2, h3, h4⟩ := h
      intro i p q
      cases i with
      | zero => exact ⟨h1, h2, h3⟩
      | succ i => exact ih h4 i (by simpa using p) (by simpa using q)
def aNexts (H : Heap) (it : Value) : Option (List (Value × Eff)) :=
  match it with
  | .pointer (some ⟨r, 0, none⟩) =>
    match H r with
    | some (.miter none _ _ _) => some [(.tuple #[.bool false], .none)]
    | some (.miter (some m) since seen last) =>
      match H m with
      | some (.map es bs clk) =>
        if (bs.all fun b => decide (b < since)) && (seen.isEmpty || bs.isEmpty || bs.any fun b => decide (b < last)) then
          match (es.zip bs).filter fun x => !seen.contains x.2 with
          | [] => some [(.tuple #[.bool false], .none)]
          | l => some (l.map fun x => (.tuple #[.bool true, x.1.1, x.1.2], .upd r (.miter (some m) since (seen ++ [x.2]) clk)))
        else none
      | _ => none
    | _ => none
  | _ => none
theorem run_next_any {w : World} {b m' since last clk : Nat} {seen : Array Nat} {es : Array MapEntry} {ty : TypeId} (hb : w.heap[b]? = some (.mapIter (some m') since seen last)) (hm : w.heap[m']? = some (.map es clk))
    (hold : ∀ x ∈ es.toList, x.born < since) (ht : (!seen.isEmpty && !es.isEmpty && es.all (fun x => decide (x.born ≥ last))) = false) :
    ((leftOf es seen).size = 0 ∧ (Instr.next (.pointer (some ⟨b, 0, none⟩)) false ty).run P w = .ok (.tuple #[.bool false]) w) ∨
    ∃ (j : Nat) (hj : j < (leftOf es seen).size) (w1 : World), (w1 = w ∨ w1 = w.drew) ∧
      (Instr.next (.pointer (some ⟨b, 0, none⟩)) false ty).run P w = .ok (.tuple #[.bool true, (leftOf es seen)[j].key, (leftOf es seen)[j].val]) { w1 with heap := w1.heap.setIfInBounds b (.mapIter (some m') since (seen.push (leftOf es seen)[j].born) clk) } := by
  have hg1 : ∀ w : World, w.heap[b]? = some (.mapIter (some m') since seen last) → (getObj b).run P w = .ok (.mapIter (some m') since seen last) w := fun w h => by simp [getObj, Sem.run, h]
  have hg2 : (getObj m').run P w = .ok (.map es clk) w := by simp [getObj, Sem.run, hm]
  simp only [Instr.next, Sem.run_bind, hg1 w hb, Result.andThen_ok, hg2, ht, Bool.false_eq_true, if_false]
  unfold leftOf
  have hmem : ∀ x ∈ (Array.filter (fun e => !seen.contains e.born) es).toList, x.born < since := fun x hx => hold x (by simp at hx ⊢; exact hx.1)
  generalize Array.filter (fun e => !seen.contains e.born) es = L at hmem ⊢
  have e1 : L.filter (fun x => decide (x.born < since)) = L := Array.filter_eq_self.2 (fun x hx => by simpa using hmem x (by simpa using hx))
  have e2 : L.filter (fun x => decide (x.born ≥ since)) = #[] := by
    rw [Array.filter_eq_empty_iff]
    intro x hx
    have := hmem x (by simpa using hx)
    simp
    omega
  simp only [e1, e2, Array.append_empty]
  by_cases h0 : L.size = 0
  · left
    have : L = #[] := Array.eq_empty_of_size_eq_zero h0
    subst this
    refine ⟨rfl, ?_⟩
    simp [choose, Sem.run, Question.forced]
  · right
    have hne : L.isEmpty = false := by simp [Array.isEmpty, h0]
    simp only [hne, Bool.false_eq_true, if_false, Array.empty_append, Array.size_map]
    have hch : ∃ (j : Nat) (w1 : World), j < L.size ∧ (w1 = w ∨ w1 = w.drew) ∧ (choose (Question.mapNext L.size)).run P w = .ok j w1 := by
      by_cases hf : L.size ≤ 1
      · exact ⟨0, w, by omega, .inl rfl, by simp [choose, Sem.run, Question.forced, hf]⟩
      · exact ⟨_, w.drew, Nat.mod_lt _ (by omega), .inr rfl, by
          simp only [choose, Sem.run, Question.forced, decide_eq_true_eq, hf, if_false, Question.cut]
          rfl⟩
    obtain ⟨j, w1, hj, hal, hrun⟩ := hch
    refine ⟨j, hj, w1, hal, ?_⟩
    have hb1 : w1.heap[b]? = some (.mapIter (some m') since seen last) := by rcases hal with rfl | rfl <;> exact hb
    simp only [hrun, Array.getElem?_map, Array.getElem?_eq_getElem hj, Option.map_some, Sem.run_bind, Result.andThen_ok]
    simp [setObj, Sem.run, hb1]
theorem aNexts_sound (hR : Rel W0 C nx H w) {it it' : Value} {ty : TypeId} {l : List (Value × Eff)} (h : aNexts H it = some l) (hx : VR nx H C it it') : ∃ x ∈ l, Snd W0 C nx H ((Instr.next it' false ty).run P w) x.1 x.2 := by
  unfold aNexts at h
  split at h
  case h_2 => cases h
  rename_i r
  split at h
  case h_3 => cases h
  · rename_i since seen last hr
    cases h
    cases hx with
    | ptr _ a h1 h2 =>
    have ha : a = C.at ⟨r, 0, none⟩ := h2 ⟨_, hr, rfl⟩
    obtain ⟨m', hobj, hz, hm⟩ := hR.obj _ _ hr
    have ha2 : a = ⟨(C.loc r).1, 0, none⟩ := by rw [ha]; simp [Corr.at, hz]
    subst ha2
    cases hm
    refine ⟨_, List.mem_singleton.2 rfl, Snd.same hR (v' := .tuple #[.bool false]) ?_ (VRs.cons (.bool false) VRs.nil).tuple⟩
    have hg : (getObj (C.loc r).1).run P w = .ok (.mapIter none since seen.toArray last) w := by simp [getObj, Sem.run, hobj]
    simp only [Instr.next, Sem.run_bind, hg, Result.andThen_ok, Sem.run_pure]
  · rename_i m since seen last hr
    split at h
    case h_2 => cases h
    rename_i es bs clk hm
    split at h
    case isFalse => cases h
    rename_i hc
    simp only [Bool.and_eq_true] at hc
    obtain ⟨hc1, hc2⟩ := hc
    cases hx with
    | ptr _ a h1 h2 =>
    have ha : a = C.at ⟨r, 0, none⟩ := h2 ⟨_, hr, rfl⟩
    obtain ⟨m', hobj, hz, hmv⟩ := hR.obj _ _ hr
    have ha2 : a = ⟨(C.loc r).1, 0, none⟩ := by rw [ha]; simp [Corr.at, hz]
    subst ha2
    cases hmv with
    | map _ r' q1 q2 =>
    obtain rfl := q2 _ hm rfl
    obtain ⟨es', e1, e2, e3, e4⟩ := hR.obj _ _ hm
    have hmemb : ∀ x ∈ es'.toList, x.born ∈ bs := fun x hx => by rw [← e4]; exact List.mem_map.2 ⟨x, hx, rfl⟩
    have hold : ∀ x ∈ es'.toList, x.born < since := fun x hx => by
      have := List.all_eq_true.1 hc1 _ (hmemb x hx)
      simpa using this
    have htest : (!seen.toArray.isEmpty && !es'.isEmpty && es'.all (fun x => decide (x.born ≥ last))) = false := by
      rw [Bool.or_eq_true, Bool.or_eq_true] at hc2
      rcases hc2 with (q | q) | q
      · simp at q; subst q; simp
      · have : bs = [] := by simpa using q
        have : es'.toList = [] := by rw [this] at e4; simpa using e4
        have : es' = #[] := by apply Array.ext'; simpa using this
        subst this
        simp
      · rw [List.any_eq_true] at q
        obtain ⟨b, hb, hlt⟩ := q
        rw [← e4, List.mem_map] at hb
        obtain ⟨x, hx, rfl⟩ := hb
        have : es'.all (fun x => decide (x.born ≥ last)) = false := by
          rw [Bool.eq_false_iff]
          intro hall
          rw [Array.all_eq_true_iff_forall_mem] at hall
          have := hall x (by simpa using hx)
          simp at this hlt
          omega
        simp [this]
    have hEB : EB nx H C (es.zip bs) es'.toList := EB.of_index (by simpa using e2) (fun i a b => by simpa using e3 i a (by simpa using b)) e4
    have hEL := hEB.filter (fun b => !seen.contains b)
    have hleft : (leftOf es' seen.toArray).toList = es'.toList.filter fun e => !seen.contains e.born := by
      unfold leftOf
      simp [Array.toList_filter]
    rw [← hleft] at hEL
    have hlen := hEL.len
    rcases run_next_any (P := P) (ty := ty) hobj e1 hold htest with ⟨hsz, hrun⟩ | ⟨j, hj, w1, hw1, hrun⟩
    · have : (leftOf es' seen.toArray).toList.length = 0 := by simpa using hsz
      rw [this] at hlen
      rw [List.length_eq_zero_iff.1 hlen.symm] at h
      cases h
      exact ⟨_, List.mem_singleton.2 rfl, Snd.same hR (v' := .tuple #[.bool false]) hrun (VRs.cons (.bool false) VRs.nil).tuple⟩
    · have hj' : j < ((es.zip bs).filter fun x => !seen.contains x.2).length := by rw [← hlen]; simpa using hj
      have hl : l = ((es.zip bs).filter fun x => !seen.contains x.2).map fun x => (.tuple #[.bool true, x.1.1, x.1.2], .upd r (.miter (some m) since (seen ++ [x.2]) clk)) := by
        split at h
        · rename_i hnil; rw [hnil] at hj'; simp at hj'
        · cases h; rfl
      obtain ⟨g1, g2, g3⟩ := hEL.get j hj' (by simpa using hj)
      have hR1 : Rel W0 C nx H w1 := by
        rcases hw1 with rfl | rfl
        · exact hR
        · exact hR.drew
      have hobj1 : w1.heap[(C.loc r).1]? = some (.mapIter (some (C.loc m).1) since seen.toArray last) := by rcases hw1 with rfl | rfl <;> exact hobj
      have hlt := (Array.getElem?_eq_some_iff.1 hobj1).1
      have hown := hR1.own _ _ hr rfl
      generalize hx : ((es.zip bs).filter fun x => !seen.contains x.2)[j] = x at g1 g2 g3
      have hborn : (leftOf es' seen.toArray)[j].born = x.2 := by simpa using g3
      have hC : C.put r (C.loc r) (C.siz r) = C := by
        unfold Corr.put
        cases C with
        | mk l s => congr 1 <;> (funext i; simp; intro h; rw [h])
      have hbel : BelD W0.heap.size W0 { w1 with heap := w1.heap.setIfInBounds (C.loc r).1 (.mapIter (some (C.loc m).1) since (seen.toArray.push x.2) clk) } := hR1.below.trans ⟨rfl, rfl, rfl, by simp, fun k hk => by
        show (w1.heap.setIfInBounds (C.loc r).1 _)[k]? = _
        rw [Array.getElem?_setIfInBounds_ne (by omega)], Nat.le_refl _⟩
      have key := hR1.set (w' := { w1 with heap := w1.heap.setIfInBounds (C.loc r).1 (.mapIter (some (C.loc m).1) since (seen.toArray.push x.2) clk) }) r _ (.miter (some m) since (seen ++ [x.2]) clk) (C.loc r) (C.siz r) hr rfl (Nat.le_refl _) (.inl ⟨rfl, rfl, rfl, rfl⟩) (.inl rfl) (fun _ => rfl) hbel
        (fun k _ hk => by
          show (w1.heap.setIfInBounds (C.loc r).1 _)[k]? = _
          rw [Array.getElem?_setIfInBounds_ne (Ne.symm hk)]) (by
          rintro C' rfl hst
          rw [hC] at hst ⊢
          refine ⟨_, ?_, hz, (VR.map m _ q1 q2).mono hst⟩
          show (w1.heap.setIfInBounds (C.loc r).1 _)[(C.loc r).1]? = _
          rw [Array.getElem?_setIfInBounds_self_of_lt hlt]
          simp)
      rw [hC] at key
      refine ⟨(.tuple #[.bool true, x.1.1, x.1.2], .upd r (.miter (some m) since (seen ++ [x.2]) clk)), ?_, _, _, C, ?_, key.1, key.2, ((VRs.cons (.bool true) (VRs.cons g1 (VRs.cons g2 VRs.nil))).tuple).mono key.2⟩
      · rw [hl, List.mem_map]
        exact ⟨x, by rw [← hx]; exact List.getElem_mem _, rfl⟩
      · rw [hrun, hborn]
        simp
def aEntry (H : Heap) (it : Value) : Option Value :=
  match it with
  | .pointer (some ⟨r, 0, none⟩) =>
    match H r with
    | some (.miter (some m) _ seen stepped) =>
      match H m with
      | some (.map es bs clk) =>
        if clk = stepped then
          match seen.getLast? with
          | some stamp => ((es.zip bs).find? fun x => x.2 == stamp).map fun x => .tuple #[x.1.1, x.1.2]
          | none => none
        else none
      | _ => none
    | _ => none
  | _ => none
theorem EB.find (p : Nat → Bool) : ∀ {l : List ((Value × Value) × Nat)} {l' : List MapEntry} {x : (Value × Value) × Nat}, EB nx H C l l' → l.find? (fun x => p x.2) = some x → ∃ e, l'.find? (fun e => p e.born) = some e ∧ VR nx H C x.1.1 e.key ∧ VR nx H C x.1.2 e.val := by
  intro l
  induction l with
  | nil => intro l' x _ h; simp at h
  | cons y l ih =>
    intro l' x h hf
    cases l' with
    | nil => exact h.elim
    | cons e l' =>
      obtain ⟨h1, h2, h3, h4⟩ := h
      rw [List.find?_cons] at hf ⊢
      rw [h3]
      split at hf
      · rename_i hp
        cases hf
        exact ⟨e, rfl, h1, h2⟩
      · rename_i hp
        obtain ⟨e', a, b⟩ := ih h4 hf
        exact ⟨e', a, b⟩
theorem aEntry_sound (hR : Rel W0 C nx H w) {it it' v : Value} (h : aEntry H it = some v) (hx : VR nx H C it it') : Snd W0 C nx H ((Instr.entry it').run P w) v .none := by
  unfold aEntry at h
  split at h
  case h_2 => cases h
  rename_i r
  split at h
  case h_2 => cases h
  rename_i m since seen stepped hr
  split at h
  case h_2 => cases h
  rename_i es bs clk hm
  split at h
  case isFalse => cases h
  rename_i hc
  subst hc
  split at h
  case h_2 => cases h
  rename_i stamp hs
  rw [Option.map_eq_some_iff] at h
  obtain ⟨x, hf, rfl⟩ := h
  cases hx with
  | ptr _ a h1 h2 =>
  have ha : a = C.at ⟨r, 0, none⟩ := h2 ⟨_, hr, rfl⟩
  obtain ⟨m', hobj, hz, hmv⟩ := hR.obj _ _ hr
  have ha2 : a = ⟨(C.loc r).1, 0, none⟩ := by rw [ha]; simp [Corr.at, hz]
  subst ha2
  cases hmv with
  | map _ r' q1 q2 =>
  obtain rfl := q2 _ hm rfl
  obtain ⟨es', e1, e2, e3, e4⟩ := hR.obj _ _ hm
  have hEB : EB nx H C (es.zip bs) es'.toList := EB.of_index (by simpa using e2) (fun i a b => by simpa using e3 i a (by simpa using b)) e4
  obtain ⟨e, f1, f2, f3⟩ := hEB.find (fun b => b == stamp) hf
  have hg1 : (getObj (C.loc r).1).run P w = .ok (.mapIter (some (C.loc m).1) since seen.toArray clk) w := by simp [getObj, Sem.run, hobj]
  have hg2 : (getObj (C.loc m).1).run P w = .ok (.map es' clk) w := by simp [getObj, Sem.run, e1]
  have hb : seen.toArray.back? = some stamp := by simpa using hs
  have hf' : es'.find? (fun e => e.born == stamp) = some e := by rw [← Array.find?_toList]; exact f1
  refine Snd.same hR (v' := .tuple #[e.key, e.val]) ?_ (VRs.cons f2 (VRs.cons f3 VRs.nil)).tuple
  simp only [Instr.entry, Sem.run_bind, hg1, Result.andThen_ok, hb, hg2, bne_self_eq_false, Bool.false_eq_true, if_false, hf', Sem.run_pure]
theorem aFind_get {kt : TypeId} {k : Value} : ∀ (l : List (Value × Value)) (i j : Nat) (v : Value), aFind P H kt k l i = some (some (j, v)) → (l[j - i]?).map (·.2) = some v ∧ i ≤ j := by
  intro l
  induction l with
  | nil => intro i j v h; simp [aFind] at h
  | cons x l ih =>
    intro i j v h
    obtain ⟨kx, vx⟩ := x
    simp only [aFind] at h
    split at h
    · cases h; simp
    · obtain ⟨a, b⟩ := ih _ _ _ h
      refine ⟨?_, by omega⟩
      rw [show j - i = (j - (i + 1)) + 1 by omega]
      simpa using a
    · cases h
def aMapEntry (P : Program) (H : Heap) (t : TypeId) (m k : Value) : Option (Value × Eff) :=
  match P.underlying t, m with
  | some (.map kt et), .map (some r) =>
    match H r with
    | some (.map es bs clk) =>
      if aCheckKey P 60 kt k ∧ (P.underlying kt).isSome ∧ plainKey k then
        match aFind P H kt k es 0 with
        | some (some (i, _)) =>
          match es[i]?, bs[i]? with
          | some (k0, v0), some b => if aMapUpdate.veqk k0 k then some (.tuple #[v0, goInt b], .upd r (.map (es.set i (k, v0)) bs clk)) else none
          | _, _ => none
        | some none =>
          match zeroV P et with
          | some z => some (.tuple #[z, goInt clk], .upd r (.map (es ++ [(k, z)]) (bs ++ [clk]) (clk + 1)))
          | none => none
        | none => none
      else none
    | _ => none
  | _, _ => none
theorem aMapEntry_sound (hR : Rel W0 C nx H w) {t : TypeId} {m m' k k' v : Value} {e : Eff} (h : aMapEntry P H t m k = some (v, e)) (hm : VR nx H C m m') (hk : VR nx H C k k') :
    Snd W0 C nx H ((Instr.mapEntry t m' k').run P w) v e := by
  unfold aMapEntry at h
  split at h
  case h_2 => cases h
  rename_i kt et r hu
  split at h
  case h_2 => cases h
  rename_i es bs clock hr
  split at h
  case isFalse => cases h
  rename_i hc
  obtain ⟨hck, hkt, hpk⟩ := hc
  obtain ⟨u, hku⟩ := Option.isSome_iff_exists.1 hkt
  have hcheck := aCheckKey_sound (P := P) 60 10000 kt k k' false (by omega) hck hk w
  cases hm with
  | map _ r' m1 m2 =>
  obtain rfl := m2 _ hr rfl
  obtain ⟨es', e1, e2, e3, e4⟩ := hR.obj _ _ hr
  have hg : (getObj (C.loc r).1).run P w = .ok (.map es' clock) w := by simp [getObj, Sem.run, e1]
  have hers : ERs nx H C es es'.toList := ERs.of_index (by simpa using e2) (fun i a b => by simpa using e3 i a (by simpa using b))
  have hkk := plainKey_eq hpk hk
  subst hkk
  split at h
  · rename_i i v0 hf
    split at h
    · rename_i k0 v1 b hi hb
      split at h
      · rename_i heq
        cases h
        have hk0 := veqk_spec heq
        subst hk0
        obtain ⟨r', f1, f2⟩ := findKey_sound (w := w) hR hk hf hers hku
        cases r' with
        | none => exact f2.elim
        | some jv =>
          obtain ⟨j', v2⟩ := jv
          obtain ⟨rfl, hv2⟩ := f2
          have hilt : i < es.length := (List.getElem?_eq_some_iff.1 hi).1
          have hilt' : i < es'.size := by omega
          have hesi : es[i] = (k0, v1) := (List.getElem?_eq_some_iff.1 hi).2
          have hv01 : v0 = v1 := by
            have := (aFind_get _ _ _ _ hf).1
            rw [show i - 0 = i by omega, hi] at this
            simpa using this.symm
          subst hv01
          have hborn : es'[i].born = b := by
            rw [← e4] at hb
            simpa [hilt'] using hb
          have hkey : es'[i].key = k0 := by
            have := (e3 i hilt hilt').1
            rw [show es[i].1 = k0 by rw [hesi]] at this
            exact plainKey_eq hpk this
          have hstays : ∀ w, (Instr.keyThatStays (((es'[i]?).map (·.key)).getD k0) k0).run P w = .ok k0 w := by
            intro w
            have : ((es'[i]?).map (·.key)).getD k0 = k0 := by simp [hilt', hkey]
            rw [this]
            simp [Instr.keyThatStays, plainKey_bits 9999 hpk]
          obtain ⟨w', g1, g2, g3⟩ := setMap_sound (P := P) hR hr (es1 := es.set i (k0, v0)) (es1' := es'.modify i fun e => { e with key := k0 }) (clock := clock) (bs1 := bs) (by
            rw [← e4]
            apply List.ext_getElem
            · simp
            · intro j h1 h2
              simp only [List.getElem_map, Array.getElem_toList, Array.getElem_modify]
              split <;> rfl) (by simp [e2]) (by
            intro j a b
            simp only [List.length_set] at a
            simp only [Array.size_modify] at b
            by_cases c : i = j
            · subst c
              simp only [List.getElem_set_self, Array.getElem_modify, if_true]
              refine ⟨hk, ?_⟩
              have := (e3 i a b).2
              rw [hesi] at this
              exact this
            · simp only [List.getElem_set_ne c, Array.getElem_modify, c, if_false]
              exact e3 j a b)
          refine ⟨.tuple #[v2, goInt b], w', C, ?_, g2, g3, ((VRs.cons hv2 (VRs.cons (.int _ _) VRs.nil)).tuple).mono g3⟩
          have hbg : ((es'[i]?).map (fun x => (x.born : Int))).getD 0 = (b : Int) := by simp [hilt', hborn]
          simp only [Instr.mapEntry, Sem.run_bind, run_underlying hu, Result.andThen_ok, hg, hcheck, f1, hstays, g1, Sem.run_pure, hbg]
      · cases h
    · cases h
  · rename_i hf
    split at h
    case h_2 => cases h
    rename_i z hz
    cases h
    obtain ⟨zr, zv⟩ := run_zeroV (nx := nx) (H := H) (C := C) hz
    obtain ⟨r', f1, f2⟩ := findKey_sound (w := w) hR hk hf hers hku
    cases r' with
    | some jv => exact f2.elim
    | none =>
      obtain ⟨w', g1, g2, g3⟩ := setMap_sound (P := P) hR hr (es1 := es ++ [(k', z)]) (es1' := es'.push { key := k', val := z, born := clock }) (clock := clock + 1) (bs1 := bs ++ [clock]) (by rw [← e4]; simp) (by simp [e2]) (by
        intro j a b
        simp only [List.length_append, List.length_singleton] at a
        simp only [Array.size_push] at b
        by_cases c : j < es.length
        · rw [List.getElem_append_left c, Array.getElem_push_lt (by omega)]
          exact e3 j c (by omega)
        · have : j = es.length := by omega
          subst this
          have h2 : (es'.push { key := k', val := z, born := clock })[es.length]'(by simp; omega) = { key := k', val := z, born := clock } := by
            simp only [← e2, Array.getElem_push_eq]
          rw [h2]
          simp only [List.getElem_append_right (Nat.le_refl _), Nat.sub_self, List.getElem_cons_zero]
          exact ⟨hk, zv⟩)
      refine ⟨.tuple #[z, goInt clock], w', C, ?_, g2, g3, ((VRs.cons zv (VRs.cons (.int _ _) VRs.nil)).tuple).mono g3⟩
      simp only [Instr.mapEntry, Sem.run_bind, run_underlying hu, Result.andThen_ok, hg, hcheck, f1, zr, g1, Sem.run_pure]
  · cases h
def aEntryStore (H : Heap) (m stamp v : Value) : Option Eff :=
  match m, stamp with
  | .map (some r), .int _ n =>
    match H r with
    | some (.map es bs clk) =>
      match bs.findIdx? (fun (b : Nat) => decide ((b : Int) = n)) with
      | some i =>
        match es[i]? with
        | some (k, _) => some (.upd r (.map (es.set i (k, v)) bs clk))
        | none => none
      | none => none
    | _ => none
  | _, _ => none
theorem aEntryStore_sound (hR : Rel W0 C nx H w) {t : TypeId} {m m' s s' v v' : Value} {e : Eff} (h : aEntryStore H m s v = some e) (hm : VR nx H C m m') (hs : VR nx H C s s') (hv : VR nx H C v v') :
    ∃ w', (Instr.entryStore t m' s' v').run P w = .ok () w' ∧ Rel W0 C (e.nx nx) (e.H nx H) w' ∧ Stp nx H C (e.nx nx) (e.H nx H) C := by
  unfold aEntryStore at h
  split at h
  case h_2 => cases h
  rename_i r kd n
  split at h
  case h_2 => cases h
  rename_i es bs clock hr
  split at h
  case h_2 => cases h
  rename_i i hi
  split at h
  case h_2 => cases h
  rename_i k v0 hk
  cases h
  cases hs
  cases hm with
  | map _ r' m1 m2 =>
  obtain rfl := m2 _ hr rfl
  obtain ⟨es', e1, e2, e3, e4⟩ := hR.obj _ _ hr
  have hg : (getObj (C.loc r).1).run P w = .ok (.map es' clock) w := by simp [getObj, Sem.run, e1]
  have hfi : es'.findIdx? (fun e => (e.born : Int) == n) = some i := by
    have ef : ∀ (p : MapEntry → Bool), es'.findIdx? p = es'.toList.findIdx? p := fun p => by cases es'; simp
    rw [ef]
    rw [← e4, List.findIdx?_map] at hi
    rw [← hi]
    first | rfl | (congr 1; funext x; by_cases q : (x.born : Int) = n <;> simp [q])
  have hilt : i < es.length := (List.getElem?_eq_some_iff.1 hk).1
  have hesi : es[i] = (k, v0) := (List.getElem?_eq_some_iff.1 hk).2
  obtain ⟨w', g1, g2, g3⟩ := setMap_sound (P := P) hR hr (es1 := es.set i (k, v)) (es1' := es'.modify i fun e => { e with val := v' }) (clock := clock) (bs1 := bs) (by
    rw [← e4]
    apply List.ext_getElem
    · simp
    · intro j h1 h2
      simp only [List.getElem_map, Array.getElem_toList, Array.getElem_modify]
      split <;> rfl) (by simp [e2]) (by
    intro j a b
    simp only [List.length_set] at a
    simp only [Array.size_modify] at b
    by_cases c : i = j
    · subst c
      simp only [List.getElem_set_self, Array.getElem_modify, if_true]
      refine ⟨?_, hv⟩
      have := (e3 i a b).1
      rw [hesi] at this
      exact this
    · simp only [List.getElem_set_ne c, Array.getElem_modify, c, if_false]
      exact e3 j a b)
  refine ⟨w', ?_, g2, g3⟩
  simp only [Instr.entryStore, asInt, asIntOf, Sem.run_bind, Sem.run_pure, Result.andThen_ok, hg, hfi, g1]
theorem VRs.unit : VR nx H C (.tuple #[]) (.tuple #[]) := (VRs.nil (nx := nx) (H := H) (C := C)).tuple
def aClear (P : Program) (H : Heap) (ts : Array TypeId) (m : Value) : Option Eff :=
  match ts[0]?.bind P.underlying, m with
  | some (.map _ _), .map (some r) =>
    match H r with
    | some (.map _ _ clk) => some (.upd r (.map [] [] clk))
    | _ => none
  | some (.map _ _), .map none => some .none
  | _, _ => none
theorem aClear_sound (hR : Rel W0 C nx H w) {ts : Array TypeId} {ty : TypeId} {m m' : Value} {e : Eff} (h : aClear P H ts m = some e) (hm : VR nx H C m m') :
    Snd W0 C nx H ((Builtin.clear_ ts ty #[m']).run P w) (.tuple #[]) e := by
  unfold aClear at h
  split at h
  case h_3 => cases h
  · rename_i kt et r hu
    split at h
    case h_2 => cases h
    rename_i es bs clock hr
    cases h
    cases hm with
    | map _ r' m1 m2 =>
    obtain rfl := m2 _ hr rfl
    obtain ⟨es', e1, e2, e3, e4⟩ := hR.obj _ _ hr
    have hg : (getObj (C.loc r).1).run P w = .ok (.map es' clock) w := by simp [getObj, Sem.run, e1]
    cases h0 : ts[0]? with
    | none => simp [h0] at hu
    | some t0 =>
    simp only [h0, Option.bind_some] at hu
    obtain ⟨w', g1, g2, g3⟩ := setMap_sound (P := P) hR hr (es1 := []) (es1' := #[]) (clock := clock) (bs1 := []) rfl rfl (fun i a => absurd a (by simp))
    refine ⟨.tuple #[], w', C, ?_, g2, g3, VRs.unit⟩
    simp only [Builtin.clear_, List.getElem?_toArray, List.getElem?_cons_zero, h0, Sem.run_bind, run_underlying hu, Result.andThen_ok, hg, g1, Sem.run_pure]
  · rename_i kt et hu
    cases h
    cases hm
    cases h0 : ts[0]? with
    | none => simp [h0] at hu
    | some t0 =>
    simp only [h0, Option.bind_some] at hu
    refine Snd.same hR (v' := .tuple #[]) ?_ VRs.unit
    simp only [Builtin.clear_, List.getElem?_toArray, List.getElem?_cons_zero, h0, Sem.run_bind, run_underlying hu, Result.andThen_ok, Sem.run_pure]
def zcells (z : List Value) : Nat → List Value
  | 0 => []
  | n + 1 => z ++ zcells z n
theorem zcells_length (z : List Value) (n : Nat) : (zcells z n).length = n * z.length := by
  induction n with
  | zero => simp [zcells]
  | succ n ih => simp [zcells, ih, Nat.succ_mul, Nat.add_comm]
theorem zcells_get (z : List Value) : ∀ (n i : Nat) (h : i < (zcells z n).length) (h' : i % z.length < z.length), (zcells z n)[i] = z[i % z.length] := by
  intro n
  induction n with
  | zero => intro i h; simp [zcells] at h
  | succ n ih =>
    intro i h h'
    simp only [zcells]
    by_cases hi : i < z.length
    · rw [List.getElem_append_left hi]
      simp [Nat.mod_eq_of_lt hi]
    · rw [List.getElem_append_right (by omega)]
      have hz : 0 < z.length := by omega
      have h2 : (i - z.length) % z.length = i % z.length := by
        conv => rhs; rw [show i = (i - z.length) + z.length by omega, Nat.add_mod_right]
      rw [ih (i - z.length) (by simp [zcells] at h; omega) (by rw [h2]; exact h')]
      simp only [h2]
theorem zeroCells_eq (z : List Value) (n : Nat) : (Builtin.zeroCells z.toArray n).toList = zcells z n := by
  apply List.ext_getElem
  · simp [Builtin.zeroCells, zcells_length]
  · intro i h1 h2
    have hz : 0 < z.length := by
      rw [zcells_length] at h2
      rcases Nat.eq_zero_or_pos z.length with e | e
      · simp [e] at h2
      · exact e
    have hm := Nat.mod_lt i hz
    rw [zcells_get z n i h2 hm]
    simp [Builtin.zeroCells, hm]
def aClearS (P : Program) (H : Heap) (ts : Array TypeId) (m : Value) : Option Eff :=
  match ts[0]?.bind P.underlying, m with
  | some (.slice elem), .slice a n _ =>
    if n = 0 then some .none
    else match a with
      | none => some .none
      | some a =>
        match zeroOf P elem with
        | some z => (setc H a (zcells z n)).map (.upd a.block ·)
        | none => none
  | _, _ => none
theorem zcells_plain {z : List Value} (h : z.all plain1 = true) (n : Nat) : (zcells z n).all plain1 = true := by
  induction n with
  | zero => rfl
  | succ n ih => simp only [zcells, List.all_append, h, ih, Bool.and_self]
theorem aClearS_sound (hR : Rel W0 C nx H w) {ts : Array TypeId} {ty : TypeId} {m m' : Value} {e : Eff} (h : aClearS P H ts m = some e) (hm : VR nx H C m m') :
    Snd W0 C nx H ((Builtin.clear_ ts ty #[m']).run P w) (.tuple #[]) e := by
  unfold aClearS at h
  split at h
  case h_2 => cases h
  rename_i elem a n c hu
  cases h0 : ts[0]? with
  | none => simp [h0] at hu
  | some t0 =>
  simp only [h0, Option.bind_some] at hu
  split at h
  · rename_i hn
    cases h
    subst hn
    refine Snd.same hR (v' := .tuple #[]) ?_ VRs.unit
    cases hm with
    | nils => simp only [Builtin.clear_, List.getElem?_toArray, List.getElem?_cons_zero, h0, Sem.run_bind, run_underlying hu, Result.andThen_ok, Sem.run_pure]
    | slc => simp only [Builtin.clear_, List.getElem?_toArray, List.getElem?_cons_zero, h0, Sem.run_bind, run_underlying hu, Result.andThen_ok, Sem.run_pure]
  · rename_i hn
    cases hm with
    | nils =>
      simp only at h
      cases h
      refine Snd.same hR (v' := .tuple #[]) ?_ VRs.unit
      simp only [Builtin.clear_, List.getElem?_toArray, List.getElem?_cons_zero, h0, Sem.run_bind, run_underlying hu, Result.andThen_ok, Sem.run_pure]
    | slc a _ _ b c' k1 k2 =>
      simp only at h
      split at h
      case h_2 => cases h
      rename_i z hz
      simp only [Option.map_eq_some_iff] at h
      obtain ⟨o, ho, rfl⟩ := h
      obtain ⟨o2, ho2, ht2⟩ := setc_live ho
      obtain rfl := (k2 o2 ho2 ht2).1
      obtain ⟨z', z1, z2, z3⟩ := run_zeroOf hz
      obtain ⟨w', e1, e2, e3⟩ := setc_sound (P := P) hR ho (plain_VRs (zcells_plain z3 n))
      refine ⟨.tuple #[], w', C, ?_, e2, e3, VRs.unit⟩
      have hz2 : (Builtin.zeroCells z'.cells n).toList = zcells z n := by rw [z2, zeroCells_eq]
      cases n with
      | zero => exact absurd rfl hn
      | succ n =>
      simp only [Builtin.clear_, List.getElem?_toArray, List.getElem?_cons_zero, h0, Sem.run_bind, run_underlying hu, Result.andThen_ok, z1, hz2, e1, Sem.run_pure]
def aCap (P : Program) (H : Heap) (args : Array TypeId) (x : Value) : Option Value :=
  match args[0]? with
  | some t =>
    match P.underlying t, x with
    | some (.slice _), .slice none _ c => some (.int .i64 c)
    | some (.slice _), .slice (some a) _ c =>
      match a.spot, H a.block with
      | none, some o => if o.tag = none then some (.int .i64 c) else none
      | _, _ => none
    | _, _ => none
  | none => none
theorem aCap_sound (hR : Rel W0 C nx H w) {args : Array TypeId} {ty : TypeId} {x x' v : Value} (h : aCap P H args x = some v) (hx : VR nx H C x x') : Snd W0 C nx H ((Builtin.cap_ args ty #[x']).run P w) v .none := by
  unfold aCap at h
  split at h
  case h_2 => cases h
  rename_i t ha
  split at h
  · rename_i el l c hu
    cases h
    refine Snd.same hR (v' := .int .i64 c) ?_ (.int _ _)
    cases hx
    simp only [Builtin.cap_, ha, List.getElem?_toArray, List.getElem?_cons_zero, Sem.run_bind, run_underlying hu, Result.andThen_ok, Sem.run_pure, goInt]
  · rename_i el a l c hu
    split at h
    case h_2 => cases h
    rename_i o hs ho
    split at h
    case isFalse => cases h
    rename_i ht
    cases h
    cases hx with
    | slc _ _ _ b c' k1 k2 =>
    have hc := (k2 o ho (ht.trans hs.symm)).2
    simp only [capOk, hs] at hc
    subst hc
    refine Snd.same hR (v' := .int .i64 c') ?_ (.int _ _)
    simp only [Builtin.cap_, ha, List.getElem?_toArray, List.getElem?_cons_zero, Sem.run_bind, run_underlying hu, Result.andThen_ok, Sem.run_pure, goInt]
  · cases h
def aAppendZ (P : Program) (nx : Nat) (ts : Array TypeId) (s x : Value) : Option (Value × Eff) :=
  match ts[0]?, ts[1]? with
  | some st, some xt =>
    match P.underlying st, P.underlying xt, s, x with
    | some (.slice elem), some (.int _), .slice none 0 0, .int .i64 k =>
      match szOf P elem, bytesOfT P elem, zeroOf P elem with
      | some size, some bytes, some z =>
        if z.length = size ∧ 0 ≤ k ∧ k ≤ 1099511627776 ∧ (2 * k.toNat + 192) * bytes ≤ 281474976710656 then
          if k = 0 then some (.slice none 0 0, .none)
          else some (.slice (some ⟨nx, 0, some nx⟩) k.toNat k.toNat, .new (.cells (zcells z k.toNat) size (some nx) false (some elem)))
        else none
      | _, _, _ => none
    | _, _, _, _ => none
  | _, _ => none
theorem run_append_zero {st xt ty elem : TypeId} {kd : IntKind} {size n bytes : Nat} {z : List Value} {args : Array TypeId} (w : World)
    (ha0 : args[0]? = some st) (ha1 : args[1]? = some xt) (hst : P.underlying st = some (.slice elem)) (hxt : P.underlying xt = some (.int kd)) (hs : szOf P elem = some size) (hb : bytesOfT P elem = some bytes) (hzo : zeroOf P elem = some z)
    (hzl : z.length = size) (hn : 0 < n) (hbd : n ≤ 1099511627776) (hbd2 : (2 * n + 192) * bytes ≤ 281474976710656) :
    ∃ c, n ≤ c ∧ (Builtin.append_ args ty #[.slice none 0 0, .int .i64 n]).run P w = .ok (.slice (some ⟨w.heap.size, 0, none⟩) n c) (w.drew.alloc (.cells ((zcells z n) ++ rep (c - n) z).toArray elem)) := by
  obtain ⟨i, hi, hib⟩ := run_typeInfo_bytes hb
  obtain ⟨zv, hzr, hzc, hzp⟩ := run_zeroOf hzo
  refine ⟨(Question.appendCap n 0 elem).cut (w.tape w.drawn (.appendCap n 0 elem)), by simp [Question.cut], ?_⟩
  generalize hc : (Question.appendCap n 0 elem).cut (w.tape w.drawn (.appendCap n 0 elem)) = c
  have hw : IntKind.i64.wrap (n : Int) = n := IntWalk.i64_in _ (by omega)
  have hmul : (n : Int) * bytes ≤ 281474976710656 := by
    have : n * bytes ≤ (2 * n + 192) * bytes := Nat.mul_le_mul_right _ (by omega)
    have h2 : n * bytes ≤ 281474976710656 := by omega
    rw [← Int.natCast_mul]; omega
  have g1 : ¬ ((n : Int) < 0) := by omega
  have hint : ∀ w' : World, (asInt (.int .i64 (n : Int))).run P w' = .ok (n : Int) w' := fun _ => rfl
  have g2 : ¬ ((n : Int) * (bytes : Int) > 2 ^ 48) := by
    have : (2 : Int) ^ 48 = 281474976710656 := by decide
    omega
  simp only [Builtin.append_, ha0, ha1, List.getElem?_toArray, List.getElem?_cons_zero, List.getElem?_cons_succ, Sem.run_bind, run_underlying hst, run_underlying hxt, Result.andThen_ok, run_sizeOf' hs, Sem.run_pure, if_true, hint, hw, g1, if_false, hi, hib, g2, Int.toNat_natCast]
  rw [if_neg (by omega)]
  have h63 : ¬ (((n : Int) > IntKind.i64.max)) := by
    have : IntKind.i64.max = 9223372036854775807 := rfl
    omega
  have h48 : ¬ (Builtin.nextslicecap n 0 * bytes > 2 ^ 48) := by
    have := Nat.mul_le_mul_right bytes (nextslicecap_le n 0 (by omega))
    have h2 : (2 : Nat) ^ 48 = 281474976710656 := by decide
    omega
  have hforced : (Question.appendCap n 0 elem).forced = false := rfl
  have hfirst : ∀ w' : World, ((if (!true) = true then Builtin.firstCells size n (.int .i64 (n : Int)) else if n * size = 0 then pure #[] else do pure (Builtin.zeroCells (← zeroValue elem).cells n) : Sem (Array Value))).run P w' = .ok (zcells z n).toArray w' := by
    intro w'
    simp only [Bool.not_true, Bool.false_eq_true, if_false]
    split
    · rename_i h0
      have : (zcells z n) = [] := by rw [← List.length_eq_zero_iff, zcells_length, hzl]; exact h0
      rw [this]; rfl
    · simp only [Sem.run_bind, hzr, Result.andThen_ok, Sem.run_pure]
      rw [hzc, ← zeroCells_eq]
  simp only [h63, h48, false_and, if_false, Sem.run_bind, Sem.run_pure, hi, Result.andThen_ok, hib, run_choose, Nat.zero_add, hforced, Bool.false_eq_true, World.drew_eq, hc, run_askRoom, Builtin.firstCells]
  simp only [Bool.not_true, Bool.false_eq_true, if_false] at hfirst ⊢
  simp only [hfirst, Result.andThen_ok, Sem.run_bind, hzr, hzc, newRow, run_newObj, World.alloc_eq, World.size_drew, Sem.run_pure]
  have hzz := zero_cells z.toArray (c - n)
  simp only [Builtin.zeroCells, hzz]
  simp
theorem aAppendZ_sound (hR : Rel W0 C nx H w) {args : Array TypeId} {ty : TypeId} {s s' x x' v : Value} {e : Eff} (h : aAppendZ P nx args s x = some (v, e)) (hs : VR nx H C s s') (hx : VR nx H C x x') :
    Snd W0 C nx H ((Builtin.append_ args ty #[s', x']).run P w) v e := by
  unfold aAppendZ at h
  split at h
  case h_2 => cases h
  rename_i st xt ha0 ha1
  split at h
  case h_2 => cases h
  rename_i elem kd k hst hxt
  split at h
  case h_2 => cases h
  rename_i size bytes z hsz hby hzo
  split at h
  case isFalse => cases h
  rename_i hc0
  obtain ⟨hzl, h0, hbd, hbd2⟩ := hc0
  obtain ⟨n, rfl⟩ := Int.eq_ofNat_of_zero_le h0
  cases hs
  cases hx
  obtain ⟨zv, hzr, hzc, hzp⟩ := run_zeroOf hzo
  split at h
  · rename_i hk
    simp only [Option.some.injEq, Prod.mk.injEq] at h
    obtain ⟨rfl, rfl⟩ := h
    have : n = 0 := by omega
    subst this
    refine Snd.same hR (v' := .slice none 0 0) ?_ (.nils _ _)
    obtain ⟨i, hi, hib⟩ := run_typeInfo_bytes hby
    have hw : IntKind.i64.wrap ((0 : Nat) : Int) = 0 := rfl
    have hint : ∀ w' : World, (asInt (.int .i64 ((0 : Nat) : Int))).run P w' = .ok (0 : Int) w' := fun _ => rfl
    have hw0 : IntKind.i64.wrap (0 : Int) = 0 := rfl
    have g2 : ¬ ((0 : Int) * (bytes : Int) > 2 ^ 48) := by rw [Int.zero_mul]; decide
    simp only [Builtin.append_, ha0, ha1, List.getElem?_toArray, List.getElem?_cons_zero, List.getElem?_cons_succ, Sem.run_bind, run_underlying hst, run_underlying hxt, Result.andThen_ok, run_sizeOf' hsz, Sem.run_pure, if_true, hint, hw0, Int.lt_irrefl, if_false, hi, hib, g2, Int.toNat_zero, Nat.zero_add, Nat.le_refl, Nat.zero_mul, Bool.not_true, Bool.false_eq_true]
  · rename_i hk
    simp only [Option.some.injEq, Prod.mk.injEq] at h
    obtain ⟨rfl, rfl⟩ := h
    simp only [Int.toNat_natCast, Int.ofNat_eq_natCast] at *
    obtain ⟨c, hcn, hrun⟩ := run_append_zero (P := P) (ty := ty) w ha0 ha1 hst hxt hsz hby hzo hzl (by omega) (by omega) hbd2
    obtain ⟨C', hC, h1, h2⟩ := new_sound hR.drew (plain_VRs (zcells_plain hzp n)) elem size (rep (c - n) z) (some nx) (by simp) (by simp)
    refine ⟨_, _, C', hrun, by simpa [Eff.H, Eff.nx] using h1, h2, ?_⟩
    rw [hC]
    refine .slc _ _ _ _ _ ⟨by simp [Eff.nx], by simp [Eff.nx]⟩ (fun o ho _ => ⟨by simp [Corr.at, Corr.put], ?_⟩)
    simp only [Eff.H, Heap.put, if_true, Option.some.injEq] at ho
    subst ho
    simp only [capOk, Corr.put, if_true, AObj.esz, length_rep, hzl, zcells_length]
    refine ⟨hcn, ?_⟩
    rw [← Nat.add_mul]
    have : n + (c - n) = c := by omega
    rw [this]; omega
end
end Go.Am
namespace Go.Am
open Go.RowKit
section
variable {P : Program} {W0 : World} {C : Corr} {nx : Nat} {H : Heap} {w : World}
def aConvPtr (P : Program) (H : Heap) (src dst : TypeId) (x : Value) : Option Value :=
  match P.underlying src, P.underlying dst, x with
  | some (.pointer t), some .unsafePointer, .pointer (some a) =>
    match szOf P t, H a.block with
    | some n, some (.cells c _ tag _ _) => if n ≠ 0 ∧ tag = a.spot ∧ a.off < c.length then some (.pointer (some a)) else none
    | _, _ => none
  | some .unsafePointer, some (.pointer u), .pointer (some a) =>
    match szOf P u, H a.block with
    | some _, some (.cells c _ none false (some e)) => if a.spot = none ∧ liesAt P P.depth e (c.length / P.cellsOf e) a.off u 1 = true then some (.pointer (some a)) else none
    | _, _ => none
  | _, _, _ => none
theorem aConvPtr_sound (hR : Rel W0 C nx H w) {src dst : TypeId} {x x' v : Value} (h : aConvPtr P H src dst x = some v) (hx : VR nx H C x x') : Snd W0 C nx H ((convert src dst x').run P w) v .none := by
  unfold aConvPtr at h
  split at h
  · rename_i t a hs hd
    split at h
    · rename_i n c e tag ro q hn ho
      split at h
      · rename_i hc
        cases h
        cases hx with
        | ptr _ b k1 k2 =>
        obtain rfl := k2 ⟨_, ho, hc.2.1⟩
        obtain ⟨Cc, el, fr, r1, r2, r3, r4, r5⟩ := hR.obj _ _ ho
        unfold szOf at hn
        cases hi : P.info? t with
        | none => simp [hi] at hn
        | some j =>
          have hj : j.size ≠ 0 := by simp [hi] at hn; omega
          have hsh : w.shape? (C.at a).block = some (el, Cc.size) := by simp [World.shape?, Corr.at, r1]
          have := Lib.run_to_unsafe (P := P) w (C.at a) hs hd hi hj hsh (by simp only [Corr.at]; omega)
          exact Snd.same hR this (.ptr _ _ k1 (fun _ => rfl))
      · cases h
    · cases h
  · rename_i u a hs hd
    split at h
    · rename_i n c e el hn ho
      split at h
      · rename_i hc
        cases h
        cases hx with
        | ptr _ b k1 k2 =>
        obtain rfl := k2 ⟨_, ho, hc.1.symm⟩
        obtain ⟨Cc, el', fr, r1, r2, r3, r4, r5, r6, r7⟩ := hR.obj _ _ ho
        obtain rfl := r6 _ rfl
        obtain ⟨q1, q2⟩ := r7.1 rfl rfl
        unfold szOf at hn
        cases hi : P.info? u with
        | none => simp [hi] at hn
        | some j =>
          have hsh : w.shape? (C.at a).block = some (el', Cc.size) := by simp [World.shape?, Corr.at, r1]
          have := Lib.run_from_unsafe (P := P) w (C.at a) hs hd hi hsh (by simp only [Corr.at, q1, q2, Nat.zero_add]; exact hc.2)
          exact Snd.same hR this (.ptr _ _ k1 (fun _ => rfl))
      · cases h
    · cases h
  · cases h
end
end Go.Am
namespace Go.Am
open Go.RowKit
section
variable {P : Program} {W0 : World} {C : Corr} {nx : Nat} {H : Heap} {w : World}
def isConstO : Operand → Bool
  | .const _ => true
  | _ => false
def eqOk (P : Program) (t : TypeId) (x y : Operand) (a b : Value) : Bool :=
  match a, b with
  | .nilIface, .nilIface => isConstO x || isConstO y
  | .agg _, .agg _ => !P.eqGuardType P.depth t
  | _, _ => true
def aBin (P : Program) (H : Heap) (op : BinOp) (t : TypeId) (x y : Operand) (a b : Value) : Option Value :=
  match a, b with
  | .int k n, .int k' m => if op = .shl ∨ op = .shr then aShift op k n m else if k = k' then intArith op k n m else none
  | .string s, .string r => aString op s r
  | a, b =>
    if eqOk P t x y a b then
      match op with
      | .eql => (aEq P H 60 t a b).map .bool
      | .neq => (aEq P H 60 t a b).map fun b => .bool !b
      | _ => none
    else none
theorem run_eqGuard {op : BinOp} {t : TypeId} {x y : Operand} {a b a' b' : Value} (h : eqOk P t x y a b = true) (ha : VR nx H C a a') (hb : VR nx H C b b') (w : World) : (eqGuard op t x y a' b').run P w = .ok () w := by
  by_cases hagg : ∃ xs ys, a' = .agg xs ∧ b' = .agg ys
  · obtain ⟨xs, ys, rfl, rfl⟩ := hagg
    cases ha with
    | agg a1 _ p1 p2 =>
    cases hb with
    | agg b1 _ q1 q2 =>
    have : P.eqGuardType P.depth t = false := by simpa [eqOk] using h
    exact run_eqGuard_agg w op t x y xs ys this
  · by_cases hnil : a' = .nilIface ∧ b' = .nilIface
    · obtain ⟨rfl, rfl⟩ := hnil
      cases ha; cases hb
      simp only [eqOk, Bool.or_eq_true] at h
      cases op <;> first | (simp [eqGuard]; done) | skip
      all_goals
        cases x <;> cases y <;> first | (simp [isConstO] at h; done) | simp [eqGuard]
    · cases ha <;> cases hb <;> first | (exact absurd ⟨_, _, rfl, rfl⟩ hagg) | (exact absurd ⟨rfl, rfl⟩ hnil) | (cases op <;> simp [eqGuard])
theorem aString_sound {op : BinOp} {s r : ByteArray} {v : Value} (h : aString op s r = some v) (w : World) : (Op.stringOp op s r).run P w = .ok v w ∧ VR nx H C v v := by
  have e1 : (s.toList == r.toList) = sEq s r := by rw [← beq_toListBytes]; exact sEq_toList s r
  have e2 : Op.bytesLess s.toList r.toList = sLt s r := by rw [ByteArray.toList_eq, ByteArray.toList_eq]; rfl
  cases op <;> simp only [aString] at h <;> try (cases h; done)
  · split at h
    · rename_i hl
      simp only [Option.some.injEq] at h
      subst h
      refine ⟨?_, .string _⟩
      have hs : s.size = s.data.toList.length := by rw [Array.length_toList]; rfl
      have hr : r.size = r.data.toList.length := by rw [Array.length_toList]; rfl
      have hmax : IntKind.i64.max = 9223372036854775807 := rfl
      have happ : s ++ r = ⟨(s.data.toList ++ r.data.toList).toArray⟩ := by
        have : (s ++ r).data = s.data ++ r.data := ByteArray.data_append
        cases hsr : s ++ r with
        | mk d => rw [hsr] at this; simp only at this; rw [this]; congr 1; apply Array.ext'; simp
      simp only [Op.stringOp]
      rw [if_neg (by rw [hs, hr, hmax]; omega), happ]
      rfl
    · cases h
  all_goals
    simp only [Option.some.injEq] at h
    subst h
    refine ⟨?_, .bool _⟩
    simp [Op.stringOp, e1, e2]
theorem intArith_sound {t : TypeId} {op : BinOp} {k : IntKind} {x y : Int} {v : Value} (h : intArith op k x y = some v) (w : World) : (binOp op t (.int k x) (.int k y)).run P w = .ok v w ∧ VR nx H C v v := by
  cases op <;> simp only [intArith] at h <;> try (cases h; done)
  case quo => split at h <;> first | (cases h; done) | (rename_i hy; cases h; refine ⟨?_, .int _ _⟩; simp [binOp, Op.intDiv, hy])
  case rem => split at h <;> first | (cases h; done) | (rename_i hy; cases h; refine ⟨?_, .int _ _⟩; simp [binOp, Op.intDiv, hy])
  all_goals
    simp only [Option.some.injEq] at h
    subst h
    refine ⟨?_, by first | exact .int _ _ | exact .bool _⟩
    simp [binOp, Op.intArith, Op.intBits, Op.intCmp]
theorem aShift_sound {t : TypeId} {op : BinOp} {k k' : IntKind} {x y : Int} {v : Value} (h : aShift op k x y = some v) (w : World) : (binOp op t (.int k x) (.int k' y)).run P w = .ok v w ∧ VR nx H C v v := by
  unfold aShift at h
  split at h
  · cases h
  · rename_i hy
    cases op <;> simp only at h <;> try (cases h; done)
    all_goals
      simp only [Option.some.injEq] at h
      subst h
      refine ⟨?_, .int _ _⟩
      simp [binOp, Op.shift, hy]
theorem aBin_sound (hR : Rel W0 C nx H w) {op : BinOp} {t : TypeId} {x y : Operand} {a b a' b' v : Value} (h : aBin P H op t x y a b = some v) (ha : VR nx H C a a') (hb : VR nx H C b b') :
    Snd W0 C nx H ((do eqGuard op t x y a' b'; binOp op t a' b' : Sem Value).run P w) v .none := by
  unfold aBin at h
  split at h
  · rename_i k n k' m
    cases ha; cases hb
    have hg : (eqGuard op t x y (.int k n) (.int k' m)).run P w = .ok () w := by cases op <;> simp [eqGuard]
    split at h
    · obtain ⟨e1, e2⟩ := aShift_sound (P := P) (nx := nx) (H := H) (C := C) (t := t) (k' := k') h w
      exact Snd.same hR (v' := v) (by simp only [Sem.run_bind, hg, Result.andThen_ok, e1]) e2
    · split at h
      · rename_i hk
        subst hk
        obtain ⟨e1, e2⟩ := intArith_sound (P := P) (nx := nx) (H := H) (C := C) (t := t) h w
        exact Snd.same hR (v' := v) (by simp only [Sem.run_bind, hg, Result.andThen_ok, e1]) e2
      · cases h
  · rename_i s r
    cases ha; cases hb
    have hg : (eqGuard op t x y (.string s) (.string r)).run P w = .ok () w := by cases op <;> simp [eqGuard]
    obtain ⟨e1, e2⟩ := aString_sound (P := P) (nx := nx) (H := H) (C := C) h w
    refine Snd.same hR (v' := v) ?_ e2
    simp only [Sem.run_bind, hg, Result.andThen_ok]
    cases op <;> exact e1
  · rename_i hn1 hn2
    split at h
    · rename_i hok
      have hg := run_eqGuard (op := op) hok ha hb w
      have hnot1 : ∀ k n k' m, ¬ (a' = .int k n ∧ b' = .int k' m) := by
        rintro k n k' m ⟨rfl, rfl⟩
        cases ha; cases hb
        exact hn1 _ _ _ _ rfl rfl
      have hnot2 : ∀ s r, ¬ (a' = .string s ∧ b' = .string r) := by
        rintro s r ⟨rfl, rfl⟩
        cases ha; cases hb
        exact hn2 _ _ rfl rfl
      split at h
      · simp only [Option.map_eq_some_iff] at h
        obtain ⟨r, hr, rfl⟩ := h
        have e1 := aEq_sound (P := P) (w := w) hR 60 10000 t a b a' b' r (by omega) hr ha hb
        refine Snd.same hR (v' := .bool r) ?_ (.bool _)
        have hb' : (binOp .eql t a' b').run P w = .ok (.bool r) w := by
          cases a' <;> cases b' <;> first
            | (exact absurd ⟨rfl, rfl⟩ (hnot1 _ _ _ _))
            | (exact absurd ⟨rfl, rfl⟩ (hnot2 _ _))
            | (exfalso; cases ha; done)
            | (exfalso; cases hb; done)
            | (simp only [binOp, Op.equal, Op.maxDepth, Sem.run_bind, e1, Result.andThen_ok, Sem.run_pure])
        simp only [Sem.run_bind, hg, Result.andThen_ok, hb']
      · simp only [Option.map_eq_some_iff] at h
        obtain ⟨r, hr, rfl⟩ := h
        have e1 := aEq_sound (P := P) (w := w) hR 60 10000 t a b a' b' r (by omega) hr ha hb
        refine Snd.same hR (v' := .bool !r) ?_ (.bool _)
        have hb' : (binOp .neq t a' b').run P w = .ok (.bool !r) w := by
          cases a' <;> cases b' <;> first
            | (exact absurd ⟨rfl, rfl⟩ (hnot1 _ _ _ _))
            | (exact absurd ⟨rfl, rfl⟩ (hnot2 _ _))
            | (exfalso; cases ha; done)
            | (exfalso; cases hb; done)
            | (simp only [binOp, Op.equal, Op.maxDepth, Sem.run_bind, e1, Result.andThen_ok, Sem.run_pure])
        simp only [Sem.run_bind, hg, Result.andThen_ok, hb']
      · cases h
    · cases h
def aUn (op : UnOp) (x : Value) : Option Value :=
  match op, x with
  | .neg, .int k n => some (.int k (k.wrap (0 - n)))
  | .xor, .int k n => some (.int k (k.wrap ((BitVec.ofInt k.bits (if k.signed then -1 else k.max) ^^^ BitVec.ofInt k.bits n).toNat)))
  | .not, .bool b => some (.bool !b)
  | _, _ => none
theorem aUn_sound (hR : Rel W0 C nx H w) {op : UnOp} {x x' v : Value} (h : aUn op x = some v) (hx : VR nx H C x x') : Snd W0 C nx H ((Op.unary op x').run P w) v .none := by
  unfold aUn at h
  split at h
  · cases h; cases hx; exact Snd.same hR (by simp [Op.unary, Op.intArith]) (.int _ _)
  · cases h; cases hx; exact Snd.same hR (by simp [Op.unary, Op.intBits]) (.int _ _)
  · cases h; cases hx; exact Snd.same hR (by simp [Op.unary]) (.bool _)
  · cases h
def evParts (ev : Operand → Option Value) : List (Nat × Operand) → Option (List (Nat × Value))
  | [] => some []
  | (i, x) :: r =>
    match ev x, evParts ev r with
    | some v, some l => some ((i, v) :: l)
    | _, _ => none
def evAll (ev : Operand → Option Value) : List Operand → Option (List Value)
  | [] => some []
  | x :: r =>
    match ev x, evAll ev r with
    | some v, some l => some (v :: l)
    | _, _ => none
def evOpt (ev : Operand → Option Value) : Option Operand → Option (Option Value)
  | none => some none
  | some x => (ev x).map some
def aBuiltin (P : Program) (H : Heap) (nx : Nat) (b : Builtin) (argTypes : Array TypeId) (args : List Value) : Option (Value × Eff) :=
  match b, args with
  | .append, [s, x] => match aAppend P H nx argTypes s x with | some r => some r | none => aAppendZ P nx argTypes s x
  | .len, [x] => (aLen P H argTypes x).map (·, .none)
  | .clear, [m] => match aClear P H argTypes m with | some e => some (.tuple #[], e) | none => (aClearS P H argTypes m).map (.tuple #[], ·)
  | .cap, [x] => (aCap P H argTypes x).map (·, .none)
  | _, _ => none
def aop (P : Program) (H : Heap) (nx : Nat) (ev : Operand → Option Value) (o : Oper) : Option (Value × Eff) :=
  match o.op with
  | .move x | .assign x => (ev x).map (·, .none)
  | .pick c a b =>
    match ev c with
    | some (.bool true) => (ev a).map (·, .none)
    | some (.bool false) => (ev b).map (·, .none)
    | _ => none
  | .alloc t => aAlloc P nx t
  | .box t x => (ev x).map fun v => (.pointer (some ⟨nx, 0, none⟩), .new (.cells v.cells.toList 0 none false (some t)))
  | .build t parts => (evParts ev parts.toList).bind fun l => (aBuild P t l).map (·, .none)
  | .buildSlice t len parts => (evParts ev parts.toList).bind fun l => aBuildSlice P nx t len l
  | .load t a => (ev a).bind fun v => (aLoad P H t v).map (·, .none)
  | .store t a x => (ev a).bind fun v => (ev x).bind fun u => (aStore P H t v u).map (undef, ·)
  | .nilCheck x =>
    match ev x with
    | some (.pointer (some a)) => some (.pointer (some a), .none)
    | some (.func (.func f) a b) => some (.func (.func f) a b, .none)
    | _ => none
  | .binOp op t x y _ => (ev x).bind fun a => (ev y).bind fun b => (aBin P H op t x y a b).map (·, .none)
  | .unOp op _ x => (ev x).bind fun v => (aUn op v).map (·, .none)
  | .convert src dst x => (ev x).bind fun v => match aConvert P nx H src dst v with | some r => some r | none => match aConvPtr P H src dst v with | some r => some (r, .none) | none => (aIntStr P src dst v).map (·, .none)
  | .makeFunc fn first captured => (evAll ev first.toList).bind fun a => (evAll ev captured.toList).map fun b => (.func fn a.toArray b.toArray, .none)
  | .range t x => (ev x).bind fun v => aRange P H nx t v
  | .next it s => (ev it).bind fun v => aNext H v s
  | .entry it => (ev it).bind fun v => (aEntry H v).map (·, .none)
  | .makeMap t r => (evOpt ev r).bind fun a => aMakeMap P nx t a
  | .lookup t x i ok => (ev x).bind fun v => (ev i).bind fun j => (aLookup P H t v j ok).map (·, .none)
  | .mapUpdate t m k x | .insert t m k x => (ev m).bind fun a => (ev k).bind fun b => (ev x).bind fun c => (aMapUpdate P H t a b c).map (undef, ·)
  | .mapEntry t m k => (ev m).bind fun a => (ev k).bind fun b => aMapEntry P H t a b
  | .entryStore _ m s x => (ev m).bind fun a => (ev s).bind fun b => (ev x).bind fun c => (aEntryStore H a b c).map (undef, ·)
  | .makeSlice t l c => (ev l).bind fun a => (ev c).bind fun b => aMakeSlice P nx t a b
  | .slice t x lo hi mx => (ev x).bind fun v => (evOpt ev lo).bind fun a => (evOpt ev hi).bind fun b => (evOpt ev mx).bind fun c => (aSlice P H t v a b c).map (·, .none)
  | .fieldAddr s x f => (ev x).bind fun v => (aFieldAddr P s v f).map (·, .none)
  | .field t x f => (ev x).bind fun v => (aField P t v f).map (·, .none)
  | .indexAddr t x i => (ev x).bind fun v => (ev i).bind fun j => (aIndexAddr P t v j).map (·, .none)
  | .index t x i => (ev x).bind fun v => (ev i).bind fun j => (aIndex P t v j).map (·, .none)
  | .extract x i => (ev x).bind fun v => (aExtract v i).map (·, .none)
  | .call c =>
    match c.callee with
    | .builtin b => (evAll ev c.args.toList).bind fun l => aBuiltin P H nx b c.argTypes l
    | _ => none
  | _ => none
def SndN (W0 : World) (C : Corr) (nx : Nat) (H : Heap) (r : Result Next) (v : Value) (e : Eff) : Prop :=
  ∃ n v' w' C', r = .ok n w' ∧ (n = .value v' ∨ (n = .skip ∧ v' = undef)) ∧ Rel W0 C' (e.nx nx) (e.H nx H) w' ∧ Stp nx H C (e.nx nx) (e.H nx H) C' ∧ VR (e.nx nx) (e.H nx H) C' v v'
theorem Snd.toN {s : Sem Value} {v : Value} {e : Eff} (h : Snd W0 C nx H (s.run P w) v e) : SndN W0 C nx H ((do pure (Next.value (← s)) : Sem Next).run P w) v e := by
  obtain ⟨v', w', C', h1, h2⟩ := h
  refine ⟨.value v', v', w', C', ?_, .inl rfl, h2⟩
  simp only [Sem.run_bind, h1, Result.andThen_ok, Sem.run_pure]
theorem undef_VR : VR nx H C undef undef := .tuple _ _ rfl (fun i h => absurd h (by simp))
theorem evParts_sound {ev : Operand → Option Value} {ρ : Operand → Value} (hev : ∀ x v, ev x = some v → VR nx H C v (ρ x)) : ∀ (l : List (Nat × Operand)) (r : List (Nat × Value)), evParts ev l = some r → PRs nx H C r (l.map fun (i, x) => (i, ρ x)) := by
  intro l
  induction l with
  | nil => intro r h; simp only [evParts, Option.some.injEq] at h; subst h; trivial
  | cons x l ih =>
    obtain ⟨i, x⟩ := x
    intro r h
    simp only [evParts] at h
    split at h
    · rename_i v l' hv hl
      simp only [Option.some.injEq] at h
      subst h
      exact ⟨rfl, hev x v hv, ih l' hl⟩
    · cases h
theorem evAll_sound {ev : Operand → Option Value} {ρ : Operand → Value} (hev : ∀ x v, ev x = some v → VR nx H C v (ρ x)) : ∀ (l : List Operand) (r : List Value), evAll ev l = some r → VRs nx H C r (l.map ρ) := by
  intro l
  induction l with
  | nil => intro r h; simp only [evAll, Option.some.injEq] at h; subst h; exact VRs.nil
  | cons x l ih =>
    intro r h
    simp only [evAll] at h
    split at h
    · rename_i v l' hv hl
      simp only [Option.some.injEq] at h
      subst h
      exact VRs.cons (hev x v hv) (ih l' hl)
    · cases h
theorem evOpt_sound {ev : Operand → Option Value} {ρ : Operand → Value} (hev : ∀ x v, ev x = some v → VR nx H C v (ρ x)) {o : Option Operand} {r : Option Value} (h : evOpt ev o = some r) : OVR nx H C r (o.map ρ) := by
  cases o with
  | none => simp only [evOpt, Option.some.injEq] at h; subst h; trivial
  | some x =>
    simp only [evOpt, Option.map_eq_some_iff] at h
    obtain ⟨v, hv, rfl⟩ := h
    exact hev x v hv
theorem aBuiltin_sound (hR : Rel W0 C nx H w) {b : Builtin} {argTypes : Array TypeId} {ty : TypeId} {consts : Array Bool} {args args' : List Value} {v : Value} {e : Eff} (h : aBuiltin P H nx b argTypes args = some (v, e)) (ha : VRs nx H C args args') :
    SndN W0 C nx H ((builtin b argTypes ty consts args'.toArray).run P w) v e := by
  unfold aBuiltin at h
  split at h
  · obtain ⟨s', r, rfl, hs, hr⟩ := ha.uncons
    obtain ⟨x', r2, rfl, hx, hr2⟩ := hr.uncons
    have : r2 = [] := by rw [← List.length_eq_zero_iff, ← hr2.1]; rfl
    subst this
    split at h
    · rename_i r0 hr0
      simp only [Option.some.injEq] at h
      subst h
      exact (aAppend_sound hR hr0 hs hx).toN
    · exact (aAppendZ_sound hR h hs hx).toN
  · obtain ⟨x', r, rfl, hx, hr⟩ := ha.uncons
    have : r = [] := by rw [← List.length_eq_zero_iff, ← hr.1]; rfl
    subst this
    simp only [Option.map_eq_some_iff, Prod.mk.injEq] at h
    obtain ⟨v, h, rfl, rfl⟩ := h
    exact (aLen_sound hR h hx).toN
  · obtain ⟨x', r, rfl, hx, hr⟩ := ha.uncons
    have : r = [] := by rw [← List.length_eq_zero_iff, ← hr.1]; rfl
    subst this
    split at h
    · rename_i e0 he0
      simp only [Option.some.injEq, Prod.mk.injEq] at h
      obtain ⟨rfl, rfl⟩ := h
      exact (aClear_sound hR he0 hx).toN
    · simp only [Option.map_eq_some_iff, Prod.mk.injEq] at h
      obtain ⟨v, h, rfl, rfl⟩ := h
      exact (aClearS_sound hR h hx).toN
  · obtain ⟨x', r, rfl, hx, hr⟩ := ha.uncons
    have : r = [] := by rw [← List.length_eq_zero_iff, ← hr.1]; rfl
    subst this
    simp only [Option.map_eq_some_iff, Prod.mk.injEq] at h
    obtain ⟨v, h, rfl, rfl⟩ := h
    exact (aCap_sound hR h hx).toN
  · cases h
theorem aop_sound (hR : Rel W0 C nx H w) {ev : Operand → Option Value} {ρ : Operand → Value} (hev : ∀ x v, ev x = some v → VR nx H C v (ρ x)) {o : Oper} {v : Value} {e : Eff} (h : aop P H nx ev o = some (v, e)) :
    SndN W0 C nx H ((execOp ρ o).run P w) v e := by
  unfold aop at h
  unfold execOp
  cases ho : o.op <;> simp only [ho] at h ⊢ <;> try (cases h; done)
  case move x | assign x =>
    simp only [Option.map_eq_some_iff, Prod.mk.injEq] at h
    obtain ⟨v, hv, rfl, rfl⟩ := h
    exact ⟨.value (ρ x), ρ x, w, C, rfl, .inl rfl, hR, Stp.refl _ _ _, hev x v hv⟩
  case pick c a b =>
    split at h
    · rename_i hc
      simp only [Option.map_eq_some_iff, Prod.mk.injEq] at h
      obtain ⟨v, hv, rfl, rfl⟩ := h
      have := hev c _ hc
      generalize ρ c = cc at this
      cases this
      exact ⟨.value (ρ a), ρ a, w, C, by simp [asBool], .inl rfl, hR, Stp.refl _ _ _, hev a v hv⟩
    · rename_i hc
      simp only [Option.map_eq_some_iff, Prod.mk.injEq] at h
      obtain ⟨v, hv, rfl, rfl⟩ := h
      have := hev c _ hc
      generalize ρ c = cc at this
      cases this
      exact ⟨.value (ρ b), ρ b, w, C, by simp [asBool], .inl rfl, hR, Stp.refl _ _ _, hev b v hv⟩
    · cases h
  case alloc t => exact (aAlloc_sound hR h).toN
  case box t x =>
    simp only [Option.map_eq_some_iff, Prod.mk.injEq] at h
    obtain ⟨v, hv, rfl, rfl⟩ := h
    exact (newVar_sound hR (hev x v hv) t).toN
  case build t parts =>
    simp only [Option.bind_eq_some_iff, Option.map_eq_some_iff, Prod.mk.injEq] at h
    obtain ⟨l, hl, v, hv, rfl, rfl⟩ := h
    have hp := evParts_sound hev _ _ hl
    exact (aBuild_sound hR hv (by simpa using hp)).toN
  case buildSlice t len parts =>
    simp only [Option.bind_eq_some_iff] at h
    obtain ⟨l, hl, h⟩ := h
    have hp := evParts_sound hev _ _ hl
    exact (aBuildSlice_sound hR h (by simpa using hp)).toN
  case load t a =>
    simp only [Option.bind_eq_some_iff, Option.map_eq_some_iff, Prod.mk.injEq] at h
    obtain ⟨x, hx, v, hv, rfl, rfl⟩ := h
    exact (aLoad_sound hR hv (hev a x hx)).toN
  case store t a x =>
    simp only [Option.bind_eq_some_iff, Option.map_eq_some_iff, Prod.mk.injEq] at h
    obtain ⟨p, hp, u, hu, e', he, rfl, rfl⟩ := h
    obtain ⟨w', e1, e2, e3⟩ := aStore_sound (P := P) hR he (hev a p hp) (hev x u hu)
    exact ⟨.skip, undef, w', C, by simp only [Sem.run_bind, e1, Result.andThen_ok, Sem.run_pure], .inr ⟨rfl, rfl⟩, e2, e3, undef_VR⟩
  case nilCheck x =>
    split at h
    · rename_i a hx
      simp only [Option.some.injEq, Prod.mk.injEq] at h
      obtain ⟨rfl, rfl⟩ := h
      have := hev x _ hx
      generalize ρ x = xx at this
      cases this with
      | ptr _ b k1 k2 => exact ⟨.value (.pointer (some b)), .pointer (some b), w, C, rfl, .inl rfl, hR, Stp.refl _ _ _, .ptr _ _ k1 k2⟩
    · rename_i f a b hx
      simp only [Option.some.injEq, Prod.mk.injEq] at h
      obtain ⟨rfl, rfl⟩ := h
      have := hev x _ hx
      generalize ρ x = xx at this
      cases this with
      | func _ _ a' _ b' q1 q2 q3 q4 => exact ⟨_, _, w, C, rfl, .inl rfl, hR, Stp.refl _ _ _, .func _ _ _ _ _ q1 q2 q3 q4⟩
    · cases h
  case binOp op t x y yt =>
    simp only [Option.bind_eq_some_iff, Option.map_eq_some_iff, Prod.mk.injEq] at h
    obtain ⟨a, ha, b, hb, v, hv, rfl, rfl⟩ := h
    exact (aBin_sound hR hv (hev x a ha) (hev y b hb)).toN
  case unOp op t x =>
    simp only [Option.bind_eq_some_iff, Option.map_eq_some_iff, Prod.mk.injEq] at h
    obtain ⟨a, ha, v, hv, rfl, rfl⟩ := h
    exact (aUn_sound hR hv (hev x a ha)).toN
  case convert src dst x =>
    simp only [Option.bind_eq_some_iff] at h
    obtain ⟨a, ha, h⟩ := h
    split at h
    · rename_i r hr
      simp only [Option.some.injEq] at h
      subst h
      exact (aConvert_sound hR hr (hev x a ha)).toN
    · split at h
      · rename_i r hr
        simp only [Option.some.injEq, Prod.mk.injEq] at h
        obtain ⟨rfl, rfl⟩ := h
        exact (aConvPtr_sound hR hr (hev x a ha)).toN
      · simp only [Option.map_eq_some_iff, Prod.mk.injEq] at h
        obtain ⟨v, hv, rfl, rfl⟩ := h
        exact (aIntStr_sound hR hv (hev x a ha)).toN
  case makeFunc fn first captured =>
    simp only [Option.bind_eq_some_iff, Option.map_eq_some_iff, Prod.mk.injEq] at h
    obtain ⟨a, ha, b, hb, rfl, rfl⟩ := h
    refine ⟨.value (.func fn (first.map ρ) (captured.map ρ)), _, w, C, rfl, .inl rfl, hR, Stp.refl _ _ _, ?_⟩
    have h1 := evAll_sound hev _ _ ha
    have h2 := evAll_sound hev _ _ hb
    have := h1.func (fn := fn) h2
    have e1 : (first.toList.map ρ).toArray = first.map ρ := by apply Array.ext'; simp
    have e2 : (captured.toList.map ρ).toArray = captured.map ρ := by apply Array.ext'; simp
    rw [e1, e2] at this
    exact this
  case range t x =>
    simp only [Option.bind_eq_some_iff] at h
    obtain ⟨a, ha, h⟩ := h
    exact (aRange_sound hR h (hev x a ha)).toN
  case next it s =>
    simp only [Option.bind_eq_some_iff] at h
    obtain ⟨a, ha, h⟩ := h
    exact (aNext_sound hR h (hev it a ha)).toN
  case entry it =>
    simp only [Option.bind_eq_some_iff, Option.map_eq_some_iff, Prod.mk.injEq] at h
    obtain ⟨a, ha, u, hu, rfl, rfl⟩ := h
    exact (aEntry_sound hR hu (hev it a ha)).toN
  case makeMap t r =>
    simp only [Option.bind_eq_some_iff] at h
    obtain ⟨a, ha, h⟩ := h
    exact (aMakeMap_sound hR h (evOpt_sound hev ha)).toN
  case lookup t x i ok =>
    simp only [Option.bind_eq_some_iff, Option.map_eq_some_iff, Prod.mk.injEq] at h
    obtain ⟨a, ha, b, hb, v, hv, rfl, rfl⟩ := h
    exact (aLookup_sound hR hv (hev x a ha) (hev i b hb)).toN
  case mapUpdate t m k x =>
    simp only [Option.bind_eq_some_iff, Option.map_eq_some_iff, Prod.mk.injEq] at h
    obtain ⟨a, ha, b, hb, c, hc, ef, he, rfl, rfl⟩ := h
    obtain ⟨w', h1, h2, h3⟩ := aMapUpdate_sound hR he (hev m a ha) (hev k b hb) (hev x c hc)
    exact ⟨.skip, undef, w', C, by simp only [Sem.run_bind, h1, Result.andThen_ok, Sem.run_pure], .inr ⟨rfl, rfl⟩, h2, h3, undef_VR⟩
  case insert t m k x =>
    simp only [Option.bind_eq_some_iff, Option.map_eq_some_iff, Prod.mk.injEq] at h
    obtain ⟨a, ha, b, hb, c, hc, ef, he, rfl, rfl⟩ := h
    obtain ⟨w', h1, h2, h3⟩ := aMapUpdate_sound hR he (hev m a ha) (hev k b hb) (hev x c hc)
    exact ⟨.skip, undef, w', C, by simp only [Sem.run_bind, h1, Result.andThen_ok, Sem.run_pure], .inr ⟨rfl, rfl⟩, h2, h3, undef_VR⟩
  case mapEntry t m k =>
    simp only [Option.bind_eq_some_iff] at h
    obtain ⟨a, ha, b, hb, h⟩ := h
    exact (aMapEntry_sound hR h (hev m a ha) (hev k b hb)).toN
  case entryStore t m s x =>
    simp only [Option.bind_eq_some_iff, Option.map_eq_some_iff, Prod.mk.injEq] at h
    obtain ⟨a, ha, b, hb, c, hc, ef, he, rfl, rfl⟩ := h
    obtain ⟨w', h1, h2, h3⟩ := aEntryStore_sound (P := P) (t := t) hR he (hev m a ha) (hev s b hb) (hev x c hc)
    exact ⟨.skip, undef, w', C, by simp only [Sem.run_bind, h1, Result.andThen_ok, Sem.run_pure], .inr ⟨rfl, rfl⟩, h2, h3, undef_VR⟩
  case makeSlice t l c =>
    simp only [Option.bind_eq_some_iff] at h
    obtain ⟨a, ha, b, hb, h⟩ := h
    exact (aMakeSlice_sound hR h (hev l a ha) (hev c b hb)).toN
  case slice t x lo hi mx =>
    simp only [Option.bind_eq_some_iff, Option.map_eq_some_iff, Prod.mk.injEq] at h
    obtain ⟨p, hp, a, ha, b, hb, c, hc, v, hv, rfl, rfl⟩ := h
    exact (aSlice_sound hR hv (hev x p hp) (evOpt_sound hev ha) (evOpt_sound hev hb) (evOpt_sound hev hc)).toN
  case fieldAddr s x f =>
    simp only [Option.bind_eq_some_iff, Option.map_eq_some_iff, Prod.mk.injEq] at h
    obtain ⟨p, hp, v, hv, rfl, rfl⟩ := h
    exact (aFieldAddr_sound hR hv (hev x p hp)).toN
  case field t x f =>
    simp only [Option.bind_eq_some_iff, Option.map_eq_some_iff, Prod.mk.injEq] at h
    obtain ⟨p, hp, v, hv, rfl, rfl⟩ := h
    exact (aField_sound hR hv (hev x p hp)).toN
  case indexAddr t x i =>
    simp only [Option.bind_eq_some_iff, Option.map_eq_some_iff, Prod.mk.injEq] at h
    obtain ⟨p, hp, q, hq, v, hv, rfl, rfl⟩ := h
    exact (aIndexAddr_sound hR hv (hev x p hp) (hev i q hq)).toN
  case index t x i =>
    simp only [Option.bind_eq_some_iff, Option.map_eq_some_iff, Prod.mk.injEq] at h
    obtain ⟨p, hp, q, hq, v, hv, rfl, rfl⟩ := h
    exact (aIndex_sound hR hv (hev x p hp) (hev i q hq)).toN
  case extract x i =>
    simp only [Option.bind_eq_some_iff, Option.map_eq_some_iff, Prod.mk.injEq] at h
    obtain ⟨p, hp, v, hv, rfl, rfl⟩ := h
    exact (aExtract_sound hR hv (hev x p hp)).toN
  case call c =>
    cases hc : c.callee <;> simp only [hc] at h <;> try (cases h; done)
    rename_i b
    simp only [Option.bind_eq_some_iff] at h
    obtain ⟨l, hl, h⟩ := h
    have ha := evAll_sound hev _ _ hl
    have := aBuiltin_sound (P := P) (ty := o.type) (consts := c.args.map fun | .const _ => true | _ => false) hR h ha
    simp only [resolve, hc, Sem.run_bind, Sem.run_pure, Result.andThen_ok, invoke]
    have e : (c.args.toList.map ρ).toArray = c.args.map ρ := by apply Array.ext'; simp
    rw [e] at this
    exact this
end
end Go.Am
namespace Go.Am
open Go.RowKit
def plainC : Value → Bool
  | .agg cs => cs.toList.all plain1
  | v => plain1 v
theorem plainC_of {v : Value} (h : plain1 v = true) : plainC v = true := by
  unfold plainC
  split
  · simp [plain1] at h
  · exact h
theorem plainC_VR {nx : Nat} {H : Heap} {C : Corr} {v : Value} (h : plainC v = true) : VR nx H C v v := by
  unfold plainC at h
  split at h
  · rename_i cs
    have := (plain_VRs (nx := nx) (H := H) (C := C) h).agg
    simpa using this
  · exact plain1_VR h
structure ASt where
  tm : Nat → Value
  n : Nat
  H : Heap
  nx : Nat
structure SRel (W0 : World) (C : Corr) (st : ASt) (a : Act) (w : World) : Prop where
  tm : ∀ t, VR st.nx st.H C (st.tm t) (a.tmps.getD t undef)
  sz : a.tmps.size = st.n
  rel : Rel W0 C st.nx st.H w
def ASt.ev (st : ASt) : Operand → Option Value
  | .tmp t => some (st.tm t)
  | .const v => if plainC v then some v else none
  | .func f => some (.func (.func f) #[] #[])
  | .global g => cond (Nat.blt g NG) (some (.pointer (some ⟨g, 0, none⟩))) none
def tmPut (tm : Nat → Value) (dst : Option Tmp) (v : Value) : Nat → Value :=
  match dst with
  | some d => fun t => if t = d then v else tm t
  | none => tm
def ASt.put (st : ASt) (dst : Option Tmp) (v : Value) (e : Eff) : ASt := ⟨tmPut st.tm dst v, st.n, e.H st.nx st.H, e.nx st.nx⟩
section
variable {P : Program} {W0 : World} {C : Corr} {st : ASt} {a : Act} {w : World}
theorem SRel.ev (h : SRel W0 C st a w) : ∀ x v, st.ev x = some v → VR st.nx st.H C v (a.eval x) := by
  intro x v hv
  cases x with
  | tmp t => simp only [ASt.ev, Option.some.injEq] at hv; subst hv; exact h.tm t
  | const u =>
    simp only [ASt.ev] at hv
    split at hv
    · rename_i hp; simp only [Option.some.injEq] at hv; subst hv; exact plainC_VR hp
    · cases hv
  | func f =>
    simp only [ASt.ev, Option.some.injEq] at hv
    subst hv
    exact .func _ _ _ _ _ rfl rfl (fun i h => absurd h (by simp)) (fun i h => absurd h (by simp))
  | global g =>
    simp only [ASt.ev] at hv
    cases hb : Nat.blt g NG with
    | false => rw [hb] at hv; cases hv
    | true =>
      rw [hb] at hv
      simp only [cond_true, Option.some.injEq] at hv
      subst hv
      exact h.rel.globPtr (by rw [Nat.blt_eq] at hb; exact hb)
theorem SRel.put (h : SRel W0 C st a w) {dst : Option Tmp} {v v' : Value} {nx' : Nat} {H' : Heap} {C' : Corr} {w' : World} (hd : ∀ d, dst = some d → d < st.n) (hR : Rel W0 C' nx' H' w') (hS : Stp st.nx st.H C nx' H' C') (hv : VR nx' H' C' v v') :
    SRel W0 C' ⟨tmPut st.tm dst v, st.n, H', nx'⟩ (a.put dst v') w' := by
  refine ⟨fun t => ?_, ?_, hR⟩
  · cases dst with
    | none => exact (h.tm t).mono hS
    | some d =>
      have hd' := hd d rfl
      simp only [Act.put, tmPut]
      by_cases e : t = d
      · subst e
        simp only [if_true]
        have : (a.tmps.setIfInBounds t v').getD t undef = v' := by
          rw [Array.getD_eq_getD_getElem?, Array.getElem?_setIfInBounds_self_of_lt (by rw [h.sz]; exact hd')]
          rfl
        rw [this]
        exact hv
      · simp only [e, if_false]
        have : (a.tmps.setIfInBounds d v').getD t undef = a.tmps.getD t undef := by
          rw [Array.getD_eq_getD_getElem?, Array.getD_eq_getD_getElem?, Array.getElem?_setIfInBounds_ne (Ne.symm e)]
        rw [this]
        exact (h.tm t).mono hS
  · cases dst <;> simp [Act.put, h.sz]
end
inductive AExit where
  | normal
  | exit (id : Nat)
  | goto (l : Nat)
  | ret
def AExit.to : AExit → Exit
  | .normal => .normal
  | .exit id => .exit id
  | .goto l => .goto l
  | .ret => .ret
def rf (ρ : Option Nat) : Fence := { Fence.wide with round := ρ }
def RndOk (ρ : Option Nat) (C : Corr) (nx : Nat) (H : Heap) : Prop := ∀ c, ρ = some c → ∃ l, l < nx ∧ isLoop (H l) = true ∧ (C.loc l).1 = c
theorem RndOk.next {ρ : Option Nat} {C C' : Corr} {nx nx' : Nat} {H H' : Heap} (h : RndOk ρ C nx H) (k : Stp nx H C nx' H' C') : RndOk ρ C' nx' H' := fun c hc => by
  obtain ⟨l, h1, h2, h3⟩ := h c hc
  obtain ⟨k1, k2⟩ := k.fix l h1 h2
  exact ⟨l, Nat.lt_of_lt_of_le h1 k.le, k1, by rw [k2]; exact h3⟩
def mark (D : Nat) : Deferred := { target := .collected D, args := #[] }
def Mks (C C' : Corr) (df df' : List Deferred) : Prop := ∃ ds : List Nat, df' = ds.map mark ++ df ∧ ds.Nodup ∧ ∀ D ∈ ds, C.pin D = none ∧ C'.pin D = some (.deferred (some []))
theorem Mks.same {C C' : Corr} {df : List Deferred} : Mks C C' df df := ⟨[], rfl, List.nodup_nil, fun _ h => by cases h⟩
theorem Mks.of_eq {C C' : Corr} {df df' : List Deferred} (h : df' = df) : Mks C C' df df' := by subst h; exact .same
theorem Mks.trans {C C1 C2 : Corr} {df df1 df2 : List Deferred} (h : Mks C C1 df df1) (k : Mks C1 C2 df1 df2) (p1 : ∀ k o, C.pin k = some o → C1.pin k = some o) (p2 : ∀ k o, C1.pin k = some o → C2.pin k = some o) : Mks C C2 df df2 := by
  obtain ⟨d1, rfl, n1, h1⟩ := h
  obtain ⟨d2, rfl, n2, h2⟩ := k
  refine ⟨d2 ++ d1, by simp, ?_, fun D hD => ?_⟩
  · rw [List.nodup_append]
    refine ⟨n2, n1, fun x hx y hy e => ?_⟩
    subst e
    have := (h1 x hy).2
    rw [(h2 x hx).1] at this
    cases this
  · rcases List.mem_append.1 hD with hD | hD
    · refine ⟨?_, (h2 D hD).2⟩
      cases hq : C.pin D with
      | none => rfl
      | some o => have := p1 _ _ hq; rw [(h2 D hD).1] at this; cases this
    · exact ⟨(h1 D hD).1, p2 _ _ (h1 D hD).2⟩
def Post (W0 : World) (C : Corr) (st : ASt) (df : List Deferred) (Q : AExit → ASt → Prop) : Exit → Act → World → Prop := fun e a w =>
  ∃ x st' C', e = x.to ∧ Q x st' ∧ SRel W0 C' st' a w ∧ Stp st.nx st.H C st'.nx st'.H C' ∧ st'.n = st.n ∧ Mks C C' df a.defers
def Trip (P : Program) (W0 : World) (c : Code) (st : ASt) (Q : AExit → ASt → Prop) : Prop :=
  ∀ ρ C a w, RndOk ρ C st.nx st.H → SRel W0 C st a w → c.wpIn (rf ρ) 0 P (Post W0 C st a.defers Q) a w
def ACalls (P : Program) (W0 : World) (f : FuncId) (args : List Value) (nx : Nat) (H : Heap) (Q : Value → Nat → Heap → Prop) : Prop :=
  ∀ C w args', Rel W0 C nx H w → VRs nx H C args args' → Calls P f args'.toArray w fun e w' =>
    ∃ v v' C' nx' H', e = .returned v' ∧ Q v nx' H' ∧ Rel W0 C' nx' H' w' ∧ VR nx' H' C' v v' ∧ Stp nx H C nx' H' C'
theorem callsIn_rf {P : Program} {ρ : Option Nat} {n : Nat} {f : FuncId} {args : Array Value} {w : World} {R : Ending → World → Prop} (h : Calls P f args w R) : CallsIn (rf ρ) n P f args w R := by
  have : CallsIn Fence.wide n P f args w R := callsIn_wide.2 h
  cases ρ with
  | none => exact this
  | some l => exact this
section
variable {P : Program} {W0 : World} {st : ASt} {Q : AExit → ASt → Prop}
theorem Trip.mono {c : Code} {Q' : AExit → ASt → Prop} (h : Trip P W0 c st Q) (hq : ∀ x s, Q x s → Q' x s) : Trip P W0 c st Q' := fun ρ C a w hr hs =>
  wpIn_mono (h ρ C a w hr hs) fun e a w ⟨x, s, C', h1, h2, h3⟩ => ⟨x, s, C', h1, hq _ _ h2, h3⟩
theorem Post.trans {C C1 : Corr} {st1 : ASt} {df df1 : List Deferred} {Q : AExit → ASt → Prop} {e : Exit} {a : Act} {w : World} (h : Post W0 C1 st1 df1 Q e a w) (hS : Stp st.nx st.H C st1.nx st1.H C1) (hn : st1.n = st.n)
    (hm : Mks C C1 df df1) : Post W0 C st df Q e a w := by
  obtain ⟨x, s, C', h1, h2, h3, h4, h5, h6⟩ := h
  exact ⟨x, s, C', h1, h2, h3, hS.trans h4, h5.trans hn, hm.trans h6 hS.pin h4.pin⟩
theorem Trip.skip (h : Q .normal st) : Trip P W0 .skip st Q := fun ρ C _ _ _ hs => wpIn_skip ⟨.normal, st, C, rfl, h, hs, Stp.refl _ _ _, rfl, .same⟩
theorem Trip.label {l : Nat} (h : Q .normal st) : Trip P W0 (.label l) st Q := fun ρ C _ _ _ hs => wpIn_label ⟨.normal, st, C, rfl, h, hs, Stp.refl _ _ _, rfl, .same⟩
theorem Trip.exit {id : Nat} (h : Q (.exit id) st) : Trip P W0 (.exit id) st Q := fun ρ C _ _ _ hs => wpIn_exit ⟨.exit id, st, C, rfl, h, hs, Stp.refl _ _ _, rfl, .same⟩
theorem Trip.goto {l : Nat} (h : Q (.goto l) st) : Trip P W0 (.goto l) st Q := fun ρ C _ _ _ hs => wpIn_goto ⟨.goto l, st, C, rfl, h, hs, Stp.refl _ _ _, rfl, .same⟩
theorem Trip.ret (h : Q .ret st) : Trip P W0 .ret st Q := fun ρ C _ _ _ hs => wpIn_ret ⟨.ret, st, C, rfl, h, hs, Stp.refl _ _ _, rfl, .same⟩
theorem Trip.seq {x y : Code} (h : Trip P W0 x st fun e s => match e with | .normal => Trip P W0 y s Q | e => Q e s) : Trip P W0 (.seq x y) st Q := by
  intro ρ C a w hr hs
  refine wpIn_seq (wpIn_mono (h ρ C a w hr hs) ?_)
  rintro e a1 w1 ⟨x1, s1, C1, rfl, hq, hs1, hS, hn, hm⟩
  cases x1 with
  | normal => exact wpIn_mono (hq ρ C1 a1 w1 (hr.next hS) hs1) fun e a w hp => Post.trans hp hS hn hm
  | exit id => exact ⟨.exit id, s1, C1, rfl, hq, hs1, hS, hn, hm⟩
  | goto l => exact ⟨.goto l, s1, C1, rfl, hq, hs1, hS, hn, hm⟩
  | ret => exact ⟨.ret, s1, C1, rfl, hq, hs1, hS, hn, hm⟩
theorem Trip.cond {c : Operand} {x y : Code} {b : Bool} (hc : st.ev c = some (.bool b)) (h : Trip P W0 (if b then x else y) st Q) : Trip P W0 (.cond c x y) st Q := by
  intro ρ C a w hr hs
  have := hs.ev c _ hc
  have he : a.eval c = .bool b := by
    generalize a.eval c = u at this
    cases this; rfl
  exact wpIn_cond he (h ρ C a w hr hs)
def blockExit (id : Nat) (Q : AExit → ASt → Prop) : AExit → ASt → Prop
  | .exit id', s => if id' = id then Q .normal s else Q (.exit id') s
  | e, s => Q e s
theorem Trip.block {id : Nat} {c : Code} (h : Trip P W0 c st (blockExit id Q)) : Trip P W0 (.block id c) st Q := by
  intro ρ C a w hr hs
  refine wpIn_block (wpIn_mono (h ρ C a w hr hs) ?_)
  rintro e a1 w1 ⟨x1, s1, C1, rfl, hq, hs1, hS, hn, hm⟩
  cases x1 with
  | normal => exact ⟨.normal, s1, C1, rfl, hq, hs1, hS, hn, hm⟩
  | exit id' =>
    simp only [AExit.to, Exit.inBlock]
    simp only [blockExit] at hq
    split
    · rename_i hid; rw [if_pos hid] at hq; exact ⟨.normal, s1, C1, rfl, hq, hs1, hS, hn, hm⟩
    · rename_i hid; rw [if_neg hid] at hq; exact ⟨.exit id', s1, C1, rfl, hq, hs1, hS, hn, hm⟩
  | goto l => exact ⟨.goto l, s1, C1, rfl, hq, hs1, hS, hn, hm⟩
  | ret => exact ⟨.ret, s1, C1, rfl, hq, hs1, hS, hn, hm⟩
def Rnd (P : Program) (W0 : World) (c : Code) (Q : AExit → ASt → Prop) : Nat → ASt → Prop
  | 0, _ => False
  | n + 1, st => Trip P W0 c st fun e s => match e with | .normal => Rnd P W0 c Q n s | e => Q e s
theorem Rnd.rounds {c : Code} : ∀ (n : Nat) (st0 st : ASt) (ρ : Option Nat) (C0 C : Corr) (df : List Deferred) (a : Act) (w : World), Rnd P W0 c Q n st → RndOk ρ C st.nx st.H → SRel W0 C st a w → Stp st0.nx st0.H C0 st.nx st.H C → st.n = st0.n → Mks C0 C df a.defers →
    Code.roundsIn (rf ρ) 0 P c (Post W0 C0 st0 df Q) n a w := by
  intro n
  induction n with
  | zero => intro _ _ _ _ _ _ _ _ h; exact h.elim
  | succ n ih =>
    intro st0 st ρ C0 C df a w h hr hs hS hn hm
    rw [roundsIn_succ]
    refine wpIn_mono (h ρ C a w hr hs) ?_
    rintro e a1 w1 ⟨x1, s1, C1, rfl, hq, hs1, hS1, hn1, hm1⟩
    have hm2 := hm.trans hm1 hS.pin hS1.pin
    cases x1 with
    | normal => exact ih st0 s1 ρ C0 C1 df a1 w1 hq (hr.next hS1) hs1 (hS.trans hS1) (hn1.trans hn) hm2
    | exit id => exact ⟨.exit id, s1, C1, rfl, hq, hs1, hS.trans hS1, hn1.trans hn, hm2⟩
    | goto l => exact ⟨.goto l, s1, C1, rfl, hq, hs1, hS.trans hS1, hn1.trans hn, hm2⟩
    | ret => exact ⟨.ret, s1, C1, rfl, hq, hs1, hS.trans hS1, hn1.trans hn, hm2⟩
theorem Trip.loop {c : Code} (n : Nat) (h : Rnd P W0 c Q n st) : Trip P W0 (.loop c) st Q := fun ρ C a w hr hs =>
  wpIn_loop_rounds n (h.rounds n st st ρ C C a.defers a w hr hs (Stp.refl _ _ _) rfl .same)
theorem stepR_scope {P : Program} {b : Frame} {a : Act} {k : List Item} {cs : List Frame} {w : World} {c : Code} : step P (lone (b.atR a (.code (.scope c) :: k)) cs w) = .next (lone (b.atR a (.code c :: .inScope c :: k)) cs w) :=
  step_lone_go (by simp [stepG, stepG.exec, Frame.atR])
theorem stepR_inScope {P : Program} {b : Frame} {a : Act} {k : List Item} {cs : List Frame} {w : World} {c : Code} : step P (lone (b.atR a (.inScope c :: k)) cs w) = .next (lone (b.atR a k) cs w) :=
  step_lone_go (by simp [stepG, stepG.exec, Frame.atR])
def scopeRounds (F : Fence) (P : Program) (b : Code) (Q : Exit → Act → World → Prop) : Nat → Code → Act → World → Prop
  | 0, _, _, _ => False
  | n + 1, c, a, w => c.wpIn F 0 P (fun e a w => match e with
    | .goto l => (match findLabel b l with
      | some rest => scopeRounds F P b Q n rest a w
      | none => Q (.goto l) a w)
    | e => Q e a w) a w
theorem wpIn_scope_rounds {F : Fence} {P : Program} {Q : Exit → Act → World → Prop} {a : Act} {w : World} {b : Code} (n : Nat) (h : scopeRounds F P b Q n b a w) : (Code.scope b).wpIn F 0 P Q a w := by
  intro fr k cs hro hb hr
  have key : ∀ n c a w, scopeRounds F P b Q n c a w → ∃ e a' w', Q e a' w' ∧ ArrivesIn (Machine.fenced P F) P (lone (fr.atR a (.code c :: .inScope b :: k)) cs w) fr k cs e a' w' := by
    intro n
    induction n with
    | zero => intro c a w h; exact h.elim
    | succ n ih =>
      intro c a w h
      obtain ⟨e, a₁, w₁, hq, harr⟩ := h fr (.inScope b :: k) cs hro hb hr
      cases e with
      | normal => exact ⟨.normal, a₁, w₁, hq, StepsIn.trans harr (.one (fenced_calm hb hr rfl) stepR_inScope)⟩
      | exit id =>
        have hx : exitTo id (.inScope b :: k) = exitTo id k := by simp [exitTo]
        exact ⟨.exit id, a₁, w₁, hq, fun k' hk => harr.1 k' (by rw [hx]; exact hk), fun h1 hk => harr.2 h1 (by rw [hx]; exact hk)⟩
      | goto l =>
        simp only at hq
        split at hq
        · rename_i rest hf
          obtain ⟨e₂, a₂, w₂, hq₂, harr₂⟩ := ih rest a₁ w₁ hq
          exact ⟨e₂, a₂, w₂, hq₂, .of_steps (harr.1 _ (by simp [gotoIn, hf])) harr₂⟩
        · rename_i hf
          have hx : gotoIn l (.inScope b :: k) = gotoIn l k := by simp [gotoIn, hf]
          exact ⟨.goto l, a₁, w₁, hq, fun k' hk => harr.1 k' (by rw [hx]; exact hk), fun h1 hk => harr.2 h1 (by rw [hx]; exact hk)⟩
      | ret => exact ⟨_, a₁, w₁, hq, harr⟩
      | panic ch => exact ⟨_, a₁, w₁, hq, harr⟩
      | outgrown => exact ⟨_, a₁, w₁, hq, harr⟩
  obtain ⟨e, a', w', hq, harr⟩ := key n b a w h
  exact ⟨e, a', w', hq, .of_steps (.one (fenced_calm hb hr rfl) stepR_scope) harr⟩
def Scp (P : Program) (W0 : World) (b : Code) (Q : AExit → ASt → Prop) : Nat → Code → ASt → Prop
  | 0, _, _ => False
  | n + 1, c, st => Trip P W0 c st fun e s => match e with
    | .goto l => (match findLabel b l with
      | some rest => Scp P W0 b Q n rest s
      | none => Q (.goto l) s)
    | e => Q e s
theorem Scp.rounds {b : Code} : ∀ (n : Nat) (c : Code) (st0 st : ASt) (ρ : Option Nat) (C0 C : Corr) (df : List Deferred) (a : Act) (w : World), Scp P W0 b Q n c st → RndOk ρ C st.nx st.H → SRel W0 C st a w → Stp st0.nx st0.H C0 st.nx st.H C → st.n = st0.n → Mks C0 C df a.defers →
    scopeRounds (rf ρ) P b (Post W0 C0 st0 df Q) n c a w := by
  intro n
  induction n with
  | zero => intro _ _ _ _ _ _ _ _ _ h; exact h.elim
  | succ n ih =>
    intro c st0 st ρ C0 C df a w h hr hs hS hn hm
    refine wpIn_mono (h ρ C a w hr hs) ?_
    rintro e a1 w1 ⟨x1, s1, C1, rfl, hq, hs1, hS1, hn1, hm1⟩
    have hm2 := hm.trans hm1 hS.pin hS1.pin
    cases x1 with
    | normal => exact ⟨.normal, s1, C1, rfl, hq, hs1, hS.trans hS1, hn1.trans hn, hm2⟩
    | exit id => exact ⟨.exit id, s1, C1, rfl, hq, hs1, hS.trans hS1, hn1.trans hn, hm2⟩
    | goto l =>
      simp only [AExit.to] at hq ⊢
      split at hq
      · exact ih _ st0 s1 ρ C0 C1 df a1 w1 hq (hr.next hS1) hs1 (hS.trans hS1) (hn1.trans hn) hm2
      · exact ⟨.goto l, s1, C1, rfl, hq, hs1, hS.trans hS1, hn1.trans hn, hm2⟩
    | ret => exact ⟨.ret, s1, C1, rfl, hq, hs1, hS.trans hS1, hn1.trans hn, hm2⟩
theorem Trip.scope {b : Code} (n : Nat) (h : Scp P W0 b Q n b st) : Trip P W0 (.scope b) st Q := fun ρ C a w hr hs =>
  wpIn_scope_rounds n (h.rounds n b st st ρ C C a.defers a w hr hs (Stp.refl _ _ _) rfl .same)
def wants (ops : Array Oper) (st : ASt) (o : Oper) : Bool :=
  match o.guard with
  | none => true
  | some (j, want) =>
    match (ops[j]?).bind (·.dst) with
    | some d => match st.tm d with
      | .bool b => b == want
      | _ => false
    | none => false
theorem wants_sound {C : Corr} {a : Act} {w : World} (hs : SRel W0 C st a w) (ops : Array Oper) (o : Oper) : Region.wanted o (yielded ops a.tmps) = wants ops st o := by
  unfold Region.wanted wants
  cases o.guard with
  | none => rfl
  | some g =>
    obtain ⟨j, want⟩ := g
    simp only [yielded]
    cases hd : (ops[j]?).bind (·.dst) with
    | none => simp
    | some d =>
      have := hs.tm d
      rw [Array.getD_eq_getD_getElem?] at this
      simp only [Option.bind_some]
      cases hg : a.tmps[d]? with
      | none =>
        rw [hg] at this
        simp only [Option.getD_none] at this
        generalize st.tm d = u at this
        cases u <;> first | rfl | (cases this; done)
      | some x =>
        rw [hg] at this
        simp only [Option.getD_some] at this
        generalize st.tm d = u at this ⊢
        cases this <;> rfl
def dstOk (st : ASt) (o : Oper) : Bool :=
  match o.dst with
  | some d => decide (d < st.n)
  | none => true
theorem dstOk_spec {o : Oper} (h : dstOk st o = true) : ∀ d, o.dst = some d → d < st.n := by
  intro d hd
  simpa [dstOk, hd] using h
def Ops (P : Program) (W0 : World) (ops : Array Oper) (l : List Nat) (st : ASt) (Q : ASt → Prop) : Prop :=
  ∀ ρ C a w, RndOk ρ C st.nx st.H → SRel W0 C st a w → wpOpsIn (rf ρ) 0 P ops (Post W0 C st a.defers fun e s => e = .normal ∧ Q s) l a w
theorem wpOpsIn_mono' {F : Fence} {Q Q' : Exit → Act → World → Prop} (hm : ∀ e a w, Q e a w → Q' e a w) : ∀ (l : List Nat) (ops : Array Oper) (a : Act) (w : World), wpOpsIn F 0 P ops Q l a w → wpOpsIn F 0 P ops Q' l a w := by
  intro l
  induction l with
  | nil => intro ops a w h; exact hm _ _ _ h
  | cons i l ih =>
    intro ops a w h
    simp only [wpOpsIn] at h ⊢
    split
    · rename_i he; simp only [he] at h; exact ih ops a w h
    · rename_i o he
      simp only [he] at h
      split
      · rename_i hw
        rw [if_pos hw] at h
        refine ⟨h.1, ?_⟩
        have h := h.2
        generalize (o.semAt F.round a.eval).run P w = r at *
        cases r with
        | ok n w' =>
          cases n <;> simp only [Oper.uponIn] at h ⊢ <;> first
            | exact ih ops _ _ h
            | exact ⟨h.1, CallsIn.mono h.2 (fun e w'' he => by cases e <;> first | exact ih ops _ _ he | exact hm _ _ _ he | (obtain ⟨a0, w0, h2⟩ := he; exact ⟨a0, w0, hm _ _ _ h2⟩))⟩
            | exact ⟨h.1, RowsIn.mono h.2 (fun _ _ he => ih ops _ _ he)⟩
            | exact ⟨h.1, RoundIn.mono h.2 (fun e w'' he => by cases e <;> first | exact ih ops _ _ he | exact hm _ _ _ he | (obtain ⟨a0, w0, h2⟩ := he; exact ⟨a0, w0, hm _ _ _ h2⟩))⟩
        | halt x w' => cases x <;> simp only [Oper.uponIn] at h ⊢ <;> first | exact hm _ _ _ h | exact h
      · rename_i hw
        rw [if_neg hw] at h
        exact ⟨h.1, ih ops _ _ h.2⟩
theorem Post.ops {F : Fence} {C C1 : Corr} {st1 : ASt} {df df1 : List Deferred} {Q : AExit → ASt → Prop} (hS : Stp st.nx st.H C st1.nx st1.H C1) (hn : st1.n = st.n) (hm : Mks C C1 df df1) (l : List Nat) (ops : Array Oper) (a : Act) (w : World)
    (h : wpOpsIn F 0 P ops (Post W0 C1 st1 df1 Q) l a w) : wpOpsIn F 0 P ops (Post W0 C st df Q) l a w :=
  wpOpsIn_mono' (fun _ _ _ hp => Post.trans hp hS hn hm) l ops a w h
theorem put_defers (a : Act) (dst : Option Tmp) (v : Value) : (a.put dst v).defers = a.defers := by cases dst <;> rfl
theorem Ops.nil {ops : Array Oper} {Q : ASt → Prop} (h : Q st) : Ops P W0 ops [] st Q := fun ρ C a w _ hs => ⟨.normal, st, C, rfl, ⟨rfl, h⟩, hs, Stp.refl _ _ _, rfl, .same⟩
theorem Ops.skip {ops : Array Oper} {i : Nat} {l : List Nat} {o : Oper} {Q : ASt → Prop} (ho : ops[i]? = some o) (hw : wants ops st o = false) (hd : dstOk st o = true) (h : Ops P W0 ops l (st.put o.dst undef .none) Q) : Ops P W0 ops (i :: l) st Q := by
  intro ρ C a w hr hs
  simp only [wpOpsIn, ho, wants_sound hs ops o, hw, Bool.false_eq_true, if_false]
  refine ⟨fun _ _ => trivial, ?_⟩
  have hs' := hs.put (dst := o.dst) (v := undef) (v' := undef) (dstOk_spec hd) hs.rel (Stp.refl _ _ _) undef_VR
  have := h ρ C _ w hr hs'
  rw [put_defers] at this
  exact this
theorem aop_semAt {nx : Nat} {H : Heap} {ev : Operand → Option Value} {o : Oper} {r : Value × Eff} (h : aop P H nx ev o = some r) (ρ : Option Nat) (e : Operand → Value) : o.semAt ρ e = execOp e o := by
  refine Oper.semAt_eq ρ e o fun c hc => ?_
  unfold aop at h
  rw [hc] at h
  cases h
theorem Ops.step {ops : Array Oper} {i : Nat} {l : List Nat} {o : Oper} {v : Value} {e : Eff} {Q : ASt → Prop} (ho : ops[i]? = some o) (hw : wants ops st o = true) (hd : dstOk st o = true) (hop : aop P st.H st.nx st.ev o = some (v, e))
    (h : Ops P W0 ops l (st.put o.dst v e) Q) : Ops P W0 ops (i :: l) st Q := by
  intro ρ C a w hr hs
  simp only [wpOpsIn, ho, wants_sound hs ops o, hw, if_true]
  refine ⟨fun _ _ => trivial, ?_⟩
  obtain ⟨n, v', w', C', hrun, hn, hR, hS, hv⟩ := aop_sound hs.rel hs.ev hop
  have hs' := hs.put (dst := o.dst) (dstOk_spec hd) hR hS hv
  have hnext : wpOpsIn (rf ρ) 0 P ops (Post W0 C st a.defers fun e s => e = .normal ∧ Q s) l (a.put o.dst v') w' := by
    have := Post.ops (st1 := st.put o.dst v e) (df := a.defers) hS rfl (.of_eq (put_defers a o.dst v')) l ops _ w' (h ρ C' _ w' (hr.next hS) hs')
    exact this
  rw [aop_semAt hop, hrun]
  rcases hn with rfl | ⟨rfl, rfl⟩
  · exact hnext
  · exact hnext
def callee (st : ASt) (o : Oper) : Option (FuncId × List Value) :=
  match o.op with
  | .call c =>
    match c.callee with
    | .value x =>
      match st.ev x, evAll st.ev c.args.toList with
      | some (.func (.func f) first captured), some l => some (f, (first.toList ++ l) ++ captured.toList)
      | _, _ => none
    | _ => none
  | _ => none
theorem callee_semAt {o : Oper} {f : FuncId} {args : List Value} (h : callee st o = some (f, args)) (ρ : Option Nat) (e : Operand → Value) : o.semAt ρ e = execOp e o := by
  refine Oper.semAt_eq ρ e o fun c hc => ?_
  unfold callee at h
  rw [hc] at h
  cases h
def Enters (P : Program) (f : FuncId) : Prop := ∃ fn, P.funcs[f]? = some fn ∧ (fn.name == "runtime.NumGoroutine") = false ∧ fn.body.isNone = false
theorem callee_sound {C : Corr} {a : Act} {w : World} (hs : SRel W0 C st a w) {o : Oper} {f : FuncId} {args : List Value} (h : callee st o = some (f, args)) (hf : Enters P f) :
    ∃ args' : List Value, (execOp a.eval o).run P w = .ok (.enter f args'.toArray) w ∧ VRs st.nx st.H C args args' := by
  unfold callee at h
  split at h
  · rename_i c ho
    split at h
    · rename_i x hc
      split at h
      · rename_i f' first captured l hx hl
        simp only [Option.some.injEq, Prod.mk.injEq] at h
        obtain ⟨rfl, rfl⟩ := h
        have hv := hs.ev x _ hx
        have ha := evAll_sound hs.ev _ _ hl
        obtain ⟨fn, h1, h2, h3⟩ := hf
        generalize hu : a.eval x = u at hv
        cases hv with
        | func _ _ a' _ b' q1 q2 q3 q4 =>
        refine ⟨(a'.toList ++ c.args.toList.map a.eval) ++ b'.toList, ?_, ((agg_VRs q1 q3).append ha).append (agg_VRs q2 q4)⟩
        have e : ((a'.toList ++ c.args.toList.map a.eval) ++ b'.toList).toArray = (a' ++ c.args.map a.eval) ++ b' := by apply Array.ext'; simp
        rw [e]
        simp only [execOp, ho, resolve, hc, Deferred.ofValue, hu, Sem.run_bind, Sem.run_pure, Result.andThen_ok, invoke, callFunc, run_program, h1, h2, h3, Bool.false_eq_true, if_false]
      · cases h
    · cases h
  · cases h
theorem Ops.call {ops : Array Oper} {i : Nat} {l : List Nat} {o : Oper} {f : FuncId} {args : List Value} {R : Value → Nat → Heap → Prop} {Q : ASt → Prop} (ho : ops[i]? = some o) (hw : wants ops st o = true) (hd : dstOk st o = true)
    (hc : callee st o = some (f, args)) (hf : Enters P f) (hcall : ACalls P W0 f args st.nx st.H R)
    (h : ∀ v nx' H', R v nx' H' → Ops P W0 ops l ⟨tmPut st.tm o.dst v, st.n, H', nx'⟩ Q) : Ops P W0 ops (i :: l) st Q := by
  intro ρ C a w hr hs
  simp only [wpOpsIn, ho, wants_sound hs ops o, hw, if_true]
  refine ⟨fun _ _ => trivial, ?_⟩
  obtain ⟨args', hrun, hargs⟩ := callee_sound hs hc hf
  rw [callee_semAt hc, hrun]
  refine ⟨fun h => (by cases h), callsIn_rf ((hcall C w args' hs.rel hargs).mono ?_)⟩
  rintro e w'' ⟨v, v', C', nx', H', rfl, hq, hR, hv, hS⟩
  have hs' := hs.put (dst := o.dst) (dstOk_spec hd) hR hS hv
  exact Post.ops (st1 := ⟨tmPut st.tm o.dst v, st.n, H', nx'⟩) hS rfl (.of_eq (put_defers a o.dst v')) l ops _ w'' (h v nx' H' hq ρ C' _ w'' (hr.next hS) hs')
theorem Trip.region {id : Nat} {ops : Array Oper} (h : Ops P W0 ops (List.range ops.size) st (Q .normal)) : Trip P W0 (.region id ops false) st Q := fun ρ C a w hr hs =>
  wpIn_region (wpOpsIn_mono' (fun e a w ⟨x, s, C', h1, ⟨hx, h2⟩, h3⟩ => by subst hx; exact ⟨.normal, s, C', h1, h2, h3⟩) _ _ _ _ (h ρ C a w hr hs))
end
end Go.Am
