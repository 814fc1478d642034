/-
  The abstract machine's operations on slices: parts of them, make, append, copy, length.
-/
import Derived.Test.YtdeiphgjcmmeoaaAmD
import Derived.Lib.Strings
namespace Go.Am
set_option linter.unusedSimpArgs false
set_option linter.unusedVariables false
open Go.RowKit

section
variable {P : Program} {W0 : World} {C : Corr} {nx : Nat} {H : Heap} {w : World}

def bound (v : Option Value) (dflt : Nat) : Option Nat :=
  match v with
  | none => some dflt
  | some (.int _ i) => if 0 ≤ i then some i.toNat else none
  | some _ => none

def OVR (nx : Nat) (H : Heap) (C : Corr) : Option Value → Option Value → Prop
  | none, none => True
  | some v, some v' => VR nx H C v v'
  | _, _ => False

theorem run_sliceBound {v v' : Value} {y n : Nat} (code : BoundsCode) (h : bound (some v) n = some n) (hd : ∃ k i, v = .int k i) (hv : VR nx H C v v') (hy : n ≤ y) : (Instr.sliceBound v' y code).run P w = .ok n w := by
  obtain ⟨k, i, rfl⟩ := hd
  cases hv
  simp only [bound] at h
  split at h
  · rename_i h0
    simp only [Option.some.injEq] at h
    simp only [Instr.sliceBound, asIntOf, Sem.run_bind, Sem.run_pure, Result.andThen_ok]
    rw [if_pos (by omega)]
    simp [h]
  · cases h

theorem bound_int {v : Value} {d n : Nat} (h : bound (some v) d = some n) : (∃ k i, v = .int k i) ∧ bound (some v) n = some n := by
  unfold bound at *
  split at h
  · rename_i h0; cases h0
  · rename_i k i h0
    simp only [Option.some.injEq] at h0
    subst h0
    exact ⟨⟨_, _, rfl⟩, by simpa using h⟩
  · cases h

/-- The bounds of a part, of a slice of 'len', with room for 'cap'. -/
def bounds (len cap : Nat) (lo hi mx : Option Value) : Option (Nat × Nat × Nat) :=
  match bound mx cap, bound hi len, bound lo 0 with
  | some m, some h, some l => if m ≤ cap ∧ h ≤ m ∧ l ≤ h ∧ (mx.isNone ∨ hi.isSome) then some (l, h, m) else none
  | _, _, _ => none

theorem run_bounds {isSlice : Bool} {len cap : Nat} {lo hi mx lo' hi' mx' : Option Value} {r : Nat × Nat × Nat} (h : bounds len cap lo hi mx = some r)
    (h1 : OVR nx H C lo lo') (h2 : OVR nx H C hi hi') (h3 : OVR nx H C mx mx') : (Instr.sliceBounds isSlice len cap lo' hi' mx').run P w = .ok r w := by
  unfold bounds at h
  split at h
  · rename_i m hh l hm hhh hl
    split at h
    · rename_i hc
      simp only [Option.some.injEq] at h
      subst h
      obtain ⟨c1, c2, c3, c4⟩ := hc
      have hlow : ∀ code, (match lo' with
          | some v => do
            let l ← Instr.sliceBound v hh code
            pure (l, hh, m)
          | none => do
            let l ← pure 0
            pure (l, hh, m) : Sem (Nat × Nat × Nat)).run P w = .ok (l, hh, m) w := by
        intro code
        cases lo with
        | none => cases lo' with
          | none => simp only [bound, Option.some.injEq] at hl; simp [hl]
          | some v => exact h1.elim
        | some v => cases lo' with
          | none => exact h1.elim
          | some v' =>
            simp only [Sem.run_bind]
            rw [run_sliceBound code (bound_int hl).2 (bound_int hl).1 h1 c3]
            rfl
      cases mx with
      | none =>
        cases mx' with
        | some v => exact h3.elim
        | none =>
          simp only [bound, Option.some.injEq] at hm
          subst hm
          cases hi with
          | none =>
            cases hi' with
            | some v => exact h2.elim
            | none =>
              simp only [bound, Option.some.injEq] at hhh
              subst hhh
              simp only [Instr.sliceBounds, Sem.run_bind, Sem.run_pure, Result.andThen_ok]
              exact hlow _
          | some v =>
            cases hi' with
            | none => exact h2.elim
            | some v' =>
              simp only [Instr.sliceBounds, Sem.run_bind, Sem.run_pure, Result.andThen_ok]
              rw [run_sliceBound _ (bound_int hhh).2 (bound_int hhh).1 h2 c2]
              simp only [Result.andThen_ok]
              exact hlow _
      | some u =>
        cases mx' with
        | none => exact h3.elim
        | some u' =>
          cases hi with
          | none => simp at c4
          | some v =>
            cases hi' with
            | none => exact h2.elim
            | some v' =>
              simp only [Instr.sliceBounds, Sem.run_bind]
              rw [run_sliceBound _ (bound_int hm).2 (bound_int hm).1 h3 c1]
              simp only [Result.andThen_ok]
              rw [run_sliceBound _ (bound_int hhh).2 (bound_int hhh).1 h2 c2]
              simp only [Result.andThen_ok]
              exact hlow _
    · cases h
  · cases h

def esubstr (s : ByteArray) (l h : Nat) : ByteArray := ⟨((s.data.toList.drop l).take (h - l)).toArray⟩

theorem extract_eq (s : ByteArray) (l h : Nat) : s.extract l h = esubstr s l h := by
  have := Lib.extract_data s l h
  unfold esubstr
  rw [← this]

def aSlice (P : Program) (H : Heap) (t : TypeId) (x : Value) (lo hi mx : Option Value) : Option Value :=
  match P.underlying t, x with
  | some .string, .string s =>
    if mx.isSome then none else (bounds s.size s.size lo hi none).map fun (l, h, _) => .string (esubstr s l h)
  | some (.slice elem), .slice none len cap => if (szOf P elem).isSome then (bounds len cap lo hi mx).map fun (l, h, m) => .slice none (h - l) (m - l) else none
  | some (.slice elem), .slice (some a) len cap =>
    match szOf P elem, H a.block with
    | some size, some o =>
      if o.tag = a.spot then
        match a.spot with
        | none => (bounds len cap lo hi mx).map fun (l, h, m) => .slice (some (if m = l then a else ⟨a.block, a.off + l * size, none⟩)) (h - l) (m - l)
        | some t =>
          if mx.isSome ∨ o.esz ≠ size then none else (bounds len len lo hi none).map fun (l, h, _) => .slice (some ⟨a.block, a.off + l * size, if l = len ∧ 0 < l then none else some t⟩) (h - l) (h - l)
      else none
    | _, _ => none
  | some (.array n elem), .pointer (some a) =>
    match szOf P elem with
    | some size =>
      if a.spot = none then (bounds n n lo hi mx).map fun (l, h, m) => .slice (some (if m = l then a else ⟨a.block, a.off + l * size, none⟩)) (h - l) (m - l) else none
    | none => none
  | _, _ => none

theorem aSlice_sound (hR : Rel W0 C nx H w) {t : TypeId} {x x' v : Value} {lo hi mx lo' hi' mx' : Option Value} (h : aSlice P H t x lo hi mx = some v) (hx : VR nx H C x x')
    (h1 : OVR nx H C lo lo') (h2 : OVR nx H C hi hi') (h3 : OVR nx H C mx mx') : Snd W0 C nx H ((Instr.sliceAt t x' lo' hi' mx').run P w) v .none := by
  unfold aSlice at h
  split at h
  · rename_i s hu
    split at h
    · cases h
    · rename_i hmx
      simp only [Option.map_eq_some_iff] at h
      obtain ⟨⟨l, hh, m⟩, hb, rfl⟩ := h
      cases hx
      have hb' := run_bounds (P := P) (w := w) (isSlice := false) (mx' := none) hb h1 h2 trivial
      refine Snd.same hR (v' := .string (esubstr s l hh)) ?_ (.string _)
      have hm' : mx' = none := by
        cases mx with
        | none => cases mx' with
          | none => rfl
          | some v => exact h3.elim
        | some v => simp at hmx
      subst hm'
      simp only [Instr.sliceAt, Sem.run_bind, run_underlying hu, Result.andThen_ok, Instr.slice, Option.isSome_none, Bool.false_eq_true, if_false, Sem.run_pure, hb', extract_eq]
  · rename_i elem len cap hu
    split at h
    case isFalse => cases h
    rename_i hsz
    obtain ⟨n, hn⟩ := Option.isSome_iff_exists.1 hsz
    simp only [Option.map_eq_some_iff] at h
    obtain ⟨⟨l, hh, m⟩, hb, rfl⟩ := h
    cases hx
    have hb' := run_bounds (P := P) (w := w) (isSlice := true) hb h1 h2 h3
    refine Snd.same hR (v' := .slice none (hh - l) (m - l)) ?_ (.nils _ _)
    simp only [Instr.sliceAt, Sem.run_bind, run_underlying hu, Result.andThen_ok, Instr.slice, hb', run_sizeOf' hn, Sem.run_pure]
    simp
  · rename_i elem a len cap hu
    split at h
    · rename_i size o hs ho
      split at h
      · rename_i htag
        split at h
        · rename_i hsp
          simp only [Option.map_eq_some_iff] at h
          obtain ⟨⟨l, hh, m⟩, hb, rfl⟩ := h
          cases hx with
          | slc _ _ _ b cap' k1 k2 =>
          obtain ⟨rfl, k4⟩ := k2 o ho htag
          simp only [capOk, hsp] at k4
          subst k4
          have hb' := run_bounds (P := P) (w := w) (isSlice := true) hb h1 h2 h3
          refine Snd.same hR (v' := .slice (some (if m = l then C.at a else (C.at a).add (l * size))) (hh - l) (m - l)) ?_ ?_
          · simp only [Instr.sliceAt, Sem.run_bind, run_underlying hu, Result.andThen_ok, Instr.slice, hb', run_sizeOf' hs, Sem.run_pure]
            split <;> simp
          · have hd : (if m = l then a else ⟨a.block, a.off + l * size, none⟩ : Addr).block = a.block := by split <;> rfl
            have hsp2 : (if m = l then a else ⟨a.block, a.off + l * size, none⟩ : Addr).spot = none := by split <;> first | exact hsp | rfl
            refine .slc _ _ _ _ _ ⟨by rw [hd]; exact k1.1, by rw [hsp2]; simp⟩ (fun o' ho' ht' => ⟨?_, by simp only [capOk, hsp2]⟩)
            split
            · rfl
            · simp [Corr.at, add_none, Nat.add_assoc]
        · rename_i tg hsp
          split at h
          · cases h
          · rename_i hcond
            simp only [Option.map_eq_some_iff] at h
            obtain ⟨⟨l, hh, m⟩, hb, rfl⟩ := h
            cases hx with
            | slc _ _ _ b cap' k1 k2 =>
            obtain ⟨rfl, k4⟩ := k2 o ho htag
            simp only [capOk, hsp] at k4
            obtain ⟨k5, k6⟩ := k4
            have hmx' : mx = none ∧ mx' = none := by
              cases mx with
              | none => cases mx' with
                | none => exact ⟨rfl, rfl⟩
                | some v => exact h3.elim
              | some v => simp at hcond
            obtain ⟨rfl, rfl⟩ := hmx'
            have hesz : o.esz = size := by simpa using hcond
            have hbb : bounds len cap' lo hi none = some (l, hh, cap') ∧ hh ≤ len ∧ l ≤ hh := by
              unfold bounds at hb ⊢
              simp only [bound] at hb ⊢
              split at hb
              · rename_i m0 h0 l0 e1 e2 e3
                simp only [Option.some.injEq] at e1
                subst e1
                split at hb
                · rename_i cc
                  simp only [Option.some.injEq, Prod.mk.injEq] at hb
                  obtain ⟨rfl, rfl, rfl⟩ := hb
                  simp only [e2, e3]
                  obtain ⟨c1, c2, c3, c4⟩ := cc
                  rw [if_pos ⟨Nat.le_refl _, by omega, c3, .inl rfl⟩]
                  exact ⟨rfl, c2, c3⟩
                · cases hb
              · cases hb
            obtain ⟨hbb, hle, hle2⟩ := hbb
            have hb' := run_bounds (P := P) (w := w) (isSlice := true) hbb h1 h2 h3
            refine Snd.same hR (v' := .slice (some (if cap' = l then C.at a else (C.at a).add (l * size))) (hh - l) (cap' - l)) ?_ ?_
            · simp only [Instr.sliceAt, Sem.run_bind, run_underlying hu, Result.andThen_ok, Instr.slice, hb', run_sizeOf' hs, Sem.run_pure]
              split <;> simp
            · refine .slc _ _ _ _ _ ⟨k1.1, fun t ht => ?_⟩ (fun o' ho' ht' => ?_)
              · split at ht
                · cases ht
                · cases ht; exact k1.2 _ hsp
              · simp only at ho' ht'
                rw [ho] at ho'
                cases ho'
                rw [htag, hsp] at ht'
                split at ht'
                · cases ht'
                · rename_i hne
                  refine ⟨?_, ?_⟩
                  · by_cases hl0 : l = 0
                    · subst hl0
                      simp only [Nat.zero_mul, Nat.add_zero]
                      have : (C.at a).add 0 = C.at a := by simp [Corr.at, add_none]
                      rw [this]
                      split <;> rfl
                    · rw [if_neg (by omega)]
                      simp [Corr.at, add_none, Nat.add_assoc]
                  · simp only [capOk]
                    rw [if_neg hne]
                    simp only [hesz] at k6 ⊢
                    refine ⟨by omega, ?_⟩
                    have : l * size + (cap' - l) * size = cap' * size := by rw [← Nat.add_mul]; congr 1; omega
                    omega
      · cases h
    · cases h
  · rename_i n elem a hu
    split at h
    · rename_i size hs
      split at h
      · rename_i hsp
        simp only [Option.map_eq_some_iff] at h
        obtain ⟨⟨l, hh, m⟩, hb, rfl⟩ := h
        cases hx with
        | ptr _ b k1 k2 =>
        have hb' := run_bounds (P := P) (w := w) (isSlice := false) hb h1 h2 h3
        refine Snd.same hR (v' := .slice (some (if m = l then b else b.add (l * size))) (hh - l) (m - l)) ?_ ?_
        · simp only [Instr.sliceAt, Instr.sureAddr, Sem.run_bind, run_underlying hu, Result.andThen_ok, hb', run_sizeOf' hs, Sem.run_pure]
        · have hd : (if m = l then a else ⟨a.block, a.off + l * size, none⟩ : Addr).block = a.block := by split <;> rfl
          have hsp2 : (if m = l then a else ⟨a.block, a.off + l * size, none⟩ : Addr).spot = none := by split <;> first | exact hsp | rfl
          refine .slc _ _ _ _ _ ⟨by rw [hd]; exact k1.1, by rw [hsp2]; simp⟩ (fun o' ho' ht' => ⟨?_, by simp only [capOk, hsp2]⟩)
          rw [hd] at ho'
          rw [k2 ⟨o', ho', by rw [ht', hsp2, hsp]⟩]
          split
          · rfl
          · simp [Corr.at, add_none, Nat.add_assoc]
      · cases h
    · cases h
  · cases h

end
end Go.Am
