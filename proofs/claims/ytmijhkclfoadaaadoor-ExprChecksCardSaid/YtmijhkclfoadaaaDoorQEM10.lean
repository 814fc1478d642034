import Derived.Test.YtmijhkclfoadaaaDoorQEM6
import Derived.Lib.Builder
namespace Go.Am
set_option linter.unusedSimpArgs false
set_option linter.unusedVariables false
open Go.RowKit
section
variable {P : Program} {W0 : World} {C : Corr} {nx : Nat} {H : Heap} {w : World}
def aConvPtr (P : Program) (H : Heap) (src dst : TypeId) (x : Value) : Option Value :=
  match P.underlying src, P.underlying dst, x with
  | some (.pointer t), some .unsafePointer, .pointer (some a) =>
    match szOf P t, H a.block with
    | some n, some (.cells c _ tag _ _) => if n ≠ 0 ∧ tag = a.spot ∧ a.off < c.length then some (.pointer (some a)) else none
    | _, _ => none
  | some .unsafePointer, some (.pointer u), .pointer (some a) =>
    match szOf P u, H a.block with
    | some _, some (.cells c _ none false (some e)) => if a.spot = none ∧ liesAt P P.depth e (c.length / P.cellsOf e) a.off u 1 = true then some (.pointer (some a)) else none
    | _, _ => none
  | _, _, _ => none
theorem aConvPtr_sound (hR : Rel W0 C nx H w) {src dst : TypeId} {x x' v : Value} (h : aConvPtr P H src dst x = some v) (hx : VR nx H C x x') : Snd W0 C nx H ((convert src dst x').run P w) v .none := by
  unfold aConvPtr at h
  split at h
  · rename_i t a hs hd
    split at h
    · rename_i n c e tag ro q hn ho
      split at h
      · rename_i hc
        cases h
        cases hx with
        | ptr _ b k1 k2 =>
        obtain rfl := k2 ⟨_, ho, hc.2.1⟩
        obtain ⟨Cc, el, fr, r1, r2, r3, r4, r5⟩ := hR.obj _ _ ho
        unfold szOf at hn
        cases hi : P.info? t with
        | none => simp [hi] at hn
        | some j =>
          have hj : j.size ≠ 0 := by simp [hi] at hn; omega
          have hsh : w.shape? (C.at a).block = some (el, Cc.size) := by simp [World.shape?, Corr.at, r1]
          have := Lib.run_to_unsafe (P := P) w (C.at a) hs hd hi hj hsh (by simp only [Corr.at]; omega)
          exact Snd.same hR this (.ptr _ _ k1 (fun _ => rfl))
      · cases h
    · cases h
  · rename_i u a hs hd
    split at h
    · rename_i n c e el hn ho
      split at h
      · rename_i hc
        cases h
        cases hx with
        | ptr _ b k1 k2 =>
        obtain rfl := k2 ⟨_, ho, hc.1.symm⟩
        obtain ⟨Cc, el', fr, r1, r2, r3, r4, r5, r6, r7⟩ := hR.obj _ _ ho
        obtain rfl := r6 _ rfl
        obtain ⟨q1, q2⟩ := r7.1 rfl rfl
        unfold szOf at hn
        cases hi : P.info? u with
        | none => simp [hi] at hn
        | some j =>
          have hsh : w.shape? (C.at a).block = some (el', Cc.size) := by simp [World.shape?, Corr.at, r1]
          have := Lib.run_from_unsafe (P := P) w (C.at a) hs hd hi hsh (by simp only [Corr.at, q1, q2, Nat.zero_add]; exact hc.2)
          exact Snd.same hR this (.ptr _ _ k1 (fun _ => rfl))
      · cases h
    · cases h
  · cases h
def aSliceData (H : Heap) (x : Value) : Option Value :=
  match x with
  | .slice none _ _ => some (.pointer none)
  | .slice (some a) len _ =>
    match H a.block with
    | some (.cells _ _ tag _ _) => if tag = a.spot ∧ tag ≠ none ∧ 0 < len then some (.pointer (some a)) else none
    | _ => none
  | _ => none
theorem aSliceData_sound (hR : Rel W0 C nx H w) {ats : Array TypeId} {ty : TypeId} {x x' v : Value} (h : aSliceData H x = some v) (hx : VR nx H C x x') : Snd W0 C nx H ((Builtin.unsafeSliceData_ ats ty #[x']).run P w) v .none := by
  unfold aSliceData at h
  split at h
  · cases h; cases hx; exact Snd.same hR (v' := .pointer none) rfl .nilp
  · rename_i a len cap
    split at h
    · rename_i c e tag ro q ho
      split at h
      · rename_i hc
        cases h
        cases hx with
        | slc _ _ _ b cap' k1 k2 =>
        obtain ⟨rfl, k3⟩ := k2 _ ho hc.1
        cases hsp : a.spot with
        | none => exact absurd (hc.1.trans hsp) hc.2.1
        | some t =>
          simp only [capOk, hsp] at k3
          have hne : cap' ≠ 0 := by omega
          refine Snd.same hR (v' := .pointer (some (C.at a))) ?_ (.ptr _ _ k1 (fun _ => rfl))
          show (if cap' ≠ 0 then (pure (.pointer (some (C.at a))) : Sem Value) else _).run P w = _
          rw [if_pos hne]
          rfl
      · cases h
    · cases h
  · cases h
theorem heap_freeze (w : World) (a : Addr) (n : Nat) (c : Array Value) (el : TypeId) (fr : Nat × Nat) (h : w.heap[a.block]? = some (.cells c el fr)) :
    (∃ fr', (w.freeze a n).heap[a.block]? = some (.cells c el fr')) ∧ (∀ k, k ≠ a.block → (w.freeze a n).heap[k]? = w.heap[k]?) ∧ (w.freeze a n).heap.size = w.heap.size ∧ (w.freeze a n).os = w.os ∧ (w.freeze a n).tape = w.tape ∧ (w.freeze a n).output = w.output := by
  unfold World.freeze
  by_cases hn : n = 0
  · rw [if_pos hn]
    exact ⟨⟨fr, h⟩, fun _ _ => rfl, rfl, rfl, rfl, rfl⟩
  · rw [if_neg hn]
    obtain ⟨lo, hi⟩ := fr
    refine ⟨⟨if lo == hi then (a.off, a.off + n) else (min lo a.off, max hi (a.off + n)), ?_⟩, ?_, by simp, rfl, rfl, rfl⟩
    · simp [Array.getElem?_modify, h]
    · intro k hk
      rw [Array.getElem?_modify, if_neg (Ne.symm hk)]
theorem run_loadBytes (b : Nat) : ∀ (n o : Nat) (acc : ByteArray) (cs : List Value), cs.length = n → (∀ i, i < n → w.cell? ⟨b, o + i, none⟩ = cs[i]?) → cs.all u8cell = true →
    (loadBytes ⟨b, o, none⟩ acc n).run P w = .ok ⟨acc.data ++ (cs.map u8of).toArray⟩ w := by
  intro n
  induction n with
  | zero =>
    intro o acc cs hl _ _
    have : cs = [] := List.length_eq_zero_iff.1 hl
    subst this
    simp [loadBytes]
  | succ n ih =>
    intro o acc cs hl hc hall
    cases cs with
    | nil => simp at hl
    | cons c r =>
      simp only [List.all_cons, Bool.and_eq_true] at hall
      have h0 := hc 0 (by omega)
      simp only [Nat.add_zero, List.getElem?_cons_zero] at h0
      cases c with
      | int k v =>
        cases k <;> first | (simp [u8cell] at hall; done) | skip
        have hadd : (⟨b, o, none⟩ : Addr).add 1 = ⟨b, o + 1, none⟩ := add_none b o 1
        simp only [loadBytes, Sem.run_bind, run_load, h0, Result.andThen_ok, hadd]
        rw [ih (o + 1) _ r (by simpa using hl) (fun i hi => by have := hc (i + 1) (by omega); simpa [Nat.add_assoc, Nat.add_comm 1 i] using this) hall.2]
        congr 2
        simp [ByteArray.push, u8of]
      | _ => simp [u8cell] at hall
def aUnsafeString (P : Program) (H : Heap) (ats : Array TypeId) (p l : Value) : Option (Value × Eff) :=
  match p, l with
  | .pointer none, .int _ n => if n = 0 ∧ ats[0]?.isSome then some (.string .empty, .none) else none
  | .pointer (some a), .int _ n =>
    match ats[0]?, H a.block with
    | some pt, some (.cells c esz t false (some e)) =>
      match P.underlying pt with
      | some (.pointer u) =>
        if 0 < n ∧ n ≤ 1099511627776 ∧ a.spot = t ∧ P.cellsOf e = 1 ∧ sameLayout P P.depth e u = true then
          match getc H a n.toNat with
          | some cs => if cs.all u8cell then some (.string ⟨(cs.map u8of).toArray⟩, .upd a.block (.cells c esz t true (some e))) else none
          | none => none
        else none
      | _ => none
    | _, _ => none
  | _, _ => none
theorem depth_pos (P : Program) : ∃ d, P.depth = d + 1 := ⟨2 * (P.types.size + Made.depth) + 1, rfl⟩
theorem aUnsafeString_sound (hR : Rel W0 C nx H w) {ats : Array TypeId} {ty : TypeId} {p p' l l' v : Value} {e : Eff} (h : aUnsafeString P H ats p l = some (v, e)) (hp : VR nx H C p p') (hl : VR nx H C l l') : Snd W0 C nx H ((Builtin.unsafeString_ ats ty #[p', l']).run P w) v e := by
  unfold aUnsafeString at h
  split at h
  · rename_i k n
    split at h
    · rename_i hc
      obtain ⟨rfl, hats⟩ := hc
      cases h
      cases hp; cases hl
      obtain ⟨pt, hpt⟩ := Option.isSome_iff_exists.1 hats
      refine Snd.same hR (v' := .string .empty) ?_ (.string _)
      show ((do
        let some pt := ats[0]? | stuck _
        if (0 : Int) < 0 then runtimePanic _
        if (0 : Int) > IntKind.i64.max then unsupported _
        if (0 : Int) = 0 then pure (.string .empty) else runtimePanic _ : Sem Value)).run P w = _
      rw [hpt]
      rfl
    · cases h
  · rename_i a k n
    split at h
    case h_2 => cases h
    rename_i pt c esz t el hpt ho
    split at h
    case h_2 => cases h
    rename_i u hu
    split at h
    case isFalse => cases h
    rename_i hc
    obtain ⟨hn0, hn1, hsp, hcell, hsame⟩ := hc
    split at h
    case h_2 => cases h
    rename_i cs hg
    split at h
    case isFalse => cases h
    rename_i hall
    cases h
    cases hl
    cases hp with
    | ptr _ b k1 k2 =>
    obtain rfl := k2 ⟨_, ho, hsp.symm⟩
    obtain ⟨vs', hv, hvl, hvc⟩ := getc_sound hR hg
    have hsamecs : vs' = cs := by
      apply List.ext_getElem hv.1.symm
      intro i p q
      have := hv.2 i q p
      have hi := List.all_eq_true.1 hall cs[i] (List.getElem_mem q)
      generalize cs[i] = x at this hi
      generalize vs'[i] = y at this
      cases this <;> first | rfl | (simp [u8cell] at hi)
    subst hsamecs
    obtain ⟨Cc, el', fr, r1, r2, r3, r4, r5, r6, r7⟩ := hR.obj _ _ ho
    obtain rfl := r6 _ rfl
    have hgl : a.off + n.toNat ≤ c.length := by
      unfold getc at hg
      rw [ho] at hg
      simp only at hg
      split at hg
      · rename_i q; exact q.2
      · cases hg
    have hsh : w.shape? (C.at a).block = some (el', Cc.size) := by simp [World.shape?, Corr.at, r1]
    have hlies : liesAt P P.depth el' (Cc.size / P.cellsOf el') (C.at a).off u n.toNat = true := by
      obtain ⟨d, hd⟩ := depth_pos P
      have hs2 : sameLayout P P.depth el' u = true := hsame
      rw [hd]
      simp only [liesAt, Bool.or_eq_true]
      left
      rw [hd]
      simp only [rowAt, hcell, Nat.div_one, Nat.mod_one]
      rw [if_neg (by omega)]
      rw [Bool.or_eq_true]
      left
      rw [hd] at hs2
      have : (C.at a).off + n.toNat ≤ Cc.size := by simp only [Corr.at]; omega
      simp [this, hs2]
    obtain ⟨⟨fr', f1⟩, f2, f3, f4, f5, f6⟩ := heap_freeze w (C.at a) n.toNat Cc el' fr (by simpa [Corr.at] using r1)
    have hloads := run_loadBytes (P := P) (w := w) (C.at a).block n.toNat (C.at a).off .empty vs' hvl (fun i hi => by have := hvc i hi; rw [← this]; simp [Corr.at, add_none]) hall
    have hlow : ¬ (n < 0) := by omega
    have hhigh : ¬ (n > IntKind.i64.max) := by have : IntKind.i64.max = 9223372036854775807 := rfl; omega
    have hne : ¬ (n = 0) := by omega
    have hrun : (Builtin.unsafeString_ ats ty #[.pointer (some (C.at a)), .int k n]).run P w = .ok (.string ⟨(vs'.map u8of).toArray⟩) (w.freeze (C.at a) n.toNat) := by
      show ((do
        let some pt := ats[0]? | stuck _
        if n < 0 then runtimePanic _
        if n > IntKind.i64.max then unsupported _
        if n = 0 then pure (.string .empty)
        else if ← variablesAt (C.at a) (← elemOf pt) n.toNat then do
          let s ← loadBytes (C.at a) .empty n.toNat
          freeze (C.at a) n.toNat
          pure (.string s)
        else unsupported _ : Sem Value)).run P w = _
      rw [hpt]
      have hat : C.at a = ⟨(C.at a).block, (C.at a).off, none⟩ := rfl
      simp only [hlow, hhigh, hne, if_false, elemOf, Sem.run_bind, run_underlying hu, Result.andThen_ok, Sem.run_pure, variablesAt, run_program, run_shape, hsh, hlies, if_true]
      rw [← hat] at hloads
      simp only [hloads, Result.andThen_ok, run_freeze]
      congr 3
      simp [ByteArray.empty, ByteArray.emptyWithCapacity]
      rfl
    have hown := hR.own _ _ ho rfl
    have hbel : BelD W0.heap.size W0 (w.freeze (C.at a) n.toNat) := hR.below.trans ⟨f4, f5, f6, by omega, fun k hk => f2 k (by simp only [Corr.at]; omega), Nat.le_of_eq (by unfold World.freeze; split <;> rfl)⟩
    have key := hR.set (w' := w.freeze (C.at a) n.toNat) a.block _ (.cells c esz t true (some el')) (C.loc a.block) (C.siz a.block) ho rfl (Nat.le_refl _) (.inl ⟨rfl, rfl, rfl, rfl⟩) (.inl rfl) (fun _ => rfl) hbel (fun k _ hk => f2 k hk) ?_
    · exact ⟨_, _, _, hrun, key.1, key.2, .string _⟩
    · rintro C' rfl hst
      refine ⟨Cc, el', fr', by simpa [Corr.put, Corr.at] using f1, by simpa [Corr.put] using r2, by simpa [Corr.put] using r3, ?_, fun h => (by cases h), fun t ht => Option.some.inj ht, fun h => (by cases h), fun h => (by cases h)⟩
      intro i hi hi'
      simp only [Corr.put, if_true] at hi' ⊢
      exact (r4 i hi hi').mono hst
  · cases h
end
end Go.Am
