import Derived.Test.YtmijhkclfoadaaaDoorQEM11
namespace Go.Am
set_option linter.unusedSimpArgs false
set_option linter.unusedVariables false
open Go.RowKit
def layOp : Op → Bool
  | .alloc _ => true
  | .box _ _ => true
  | .buildSlice _ _ _ => true
  | .makeSlice _ _ _ => true
  | _ => false
def shV (sh : Option (Nat × Nat)) (b : Nat) : Value :=
  match sh with
  | none => .pointer (some ⟨b, 0, none⟩)
  | some (l, c) => .slice (some ⟨b, 0, none⟩) l c
section
variable {P : Program} {W0 : World} {C : Corr} {nx : Nat} {H : Heap} {w : World}
theorem lay_same {ev : Operand → Option Value} {o : Oper} {v : Value} {e : Eff} (hf : layOp o.op = true) (h : aop P H nx ev o = some (v, e)) :
    ∃ sh obj, v = shV sh nx ∧ e = .new obj ∧ ∀ H' nx', aop P H' nx' ev o = some (shV sh nx', .new obj) := by
  unfold aop at h
  cases ho : o.op <;> simp only [ho] at h hf <;> try (cases hf; done)
  case alloc t =>
    simp only [aAlloc, Option.map_eq_some_iff, Prod.mk.injEq] at h
    obtain ⟨l, hl, rfl, rfl⟩ := h
    exact ⟨none, _, rfl, rfl, fun H' nx' => by unfold aop; simp only [ho, aAlloc, hl, Option.map_some]; rfl⟩
  case box t x =>
    simp only [Option.map_eq_some_iff, Prod.mk.injEq] at h
    obtain ⟨u, hu, rfl, rfl⟩ := h
    exact ⟨none, _, rfl, rfl, fun H' nx' => by unfold aop; simp only [ho, hu, Option.map_some]; rfl⟩
  case buildSlice t len parts =>
    simp only [Option.bind_eq_some_iff] at h
    obtain ⟨l, hl, h⟩ := h
    unfold aBuildSlice at h
    split at h
    · rename_i elem hu
      split at h
      · rename_i size z hs hz
        split at h
        · rename_i hc
          simp only [Option.map_eq_some_iff, Prod.mk.injEq] at h
          obtain ⟨r, hr, rfl, rfl⟩ := h
          exact ⟨some (len, len), _, rfl, rfl, fun H' nx' => by unfold aop; simp only [ho, hl, Option.bind_some, aBuildSlice, hu, hs, hz, if_pos hc, hr, Option.map_some]; rfl⟩
        · cases h
      · cases h
    · cases h
  case makeSlice t l c =>
    simp only [Option.bind_eq_some_iff] at h
    obtain ⟨a, ha, b, hb, h⟩ := h
    unfold aMakeSlice at h
    split at h
    case h_2 => cases h
    rename_i elem kl l' kc c' hu
    split at h
    case h_2 => cases h
    rename_i size bytes z hs hb' hz
    split at h
    case isFalse => cases h
    rename_i hcond
    simp only [Option.some.injEq, Prod.mk.injEq] at h
    obtain ⟨rfl, rfl⟩ := h
    exact ⟨some (l'.toNat, c'.toNat), _, rfl, rfl, fun H' nx' => by unfold aop; simp only [ho, ha, hb, Option.bind_some, aMakeSlice, hu, hs, hb', hz, if_pos hcond]; rfl⟩
def Laid (C : Corr) (nx : Nat) (H : Heap) (w : World) (r : Result Value) (v : Value) (e : Eff) : Prop :=
  ∃ (cs cs' : List Value) (el : TypeId) (esz : Nat) (sh : Option (Nat × Nat)), e = .new (.cells cs esz none false (some el)) ∧ VRs nx H C cs cs' ∧ v = shV sh nx ∧ r = .ok (shV sh w.heap.size) (w.alloc (.cells cs'.toArray el))
theorem aBuildSlice_laid {t : TypeId} {len : Nat} {parts : List (Nat × Value)} {parts' : Array (Nat × Value)} {v : Value} {e : Eff} (h : aBuildSlice P nx t len parts = some (v, e)) (hp : PRs nx H C parts parts'.toList) :
    Laid C nx H w ((Instr.buildSlice t len parts').run P w) v e := by
  unfold aBuildSlice at h
  split at h
  · rename_i elem hu
    split at h
    · rename_i size z hs hz
      split at h
      · rename_i hc
        simp only [Option.map_eq_some_iff, Prod.mk.injEq] at h
        obtain ⟨l, hl, rfl, rfl⟩ := h
        obtain ⟨zv, hzr, hzc, hzp⟩ := run_zeroOf hz
        have hrep : VRs nx H C (rep len z) (rep len z) := plain_VRs (by simp only [rep, List.all_flatten, List.all_eq_true, List.mem_replicate]; rintro x ⟨_, rfl⟩; exact List.all_eq_true.1 hzp)
        obtain ⟨r', e1, e2⟩ := aFill_sound hl hrep hp
        refine ⟨l, r', elem, size, some (len, len), rfl, e2, rfl, ?_⟩
        simp only [Instr.buildSlice, Sem.run_bind, run_underlying hu, Result.andThen_ok, run_sizeOf' hs]
        rw [if_neg (by simp; omega)]
        by_cases h0 : len * size = 0
        · have hr : rep len z = [] := by rw [← List.length_eq_zero_iff, length_rep, hc.2]; exact h0
          rw [hr] at e1
          have hr0 : ∀ zero : Array Value, (Array.range 0).map (fun i => zero[i % zero.size]!) = #[] := fun zero => by simp
          simp only [h0, if_true, Sem.run_bind, Sem.run_pure, Result.andThen_ok, hr0]
          rw [e1]
          simp [newRow, shV]
        · have hzc2 := zero_cells z.toArray len
          simp only [List.size_toArray, hc.2] at hzc2
          simp only [h0, if_false, Sem.run_bind, hzr, Result.andThen_ok, Sem.run_pure, hzc, List.size_toArray, hc.2, hzc2, List.toList_toArray]
          rw [e1]
          simp [newRow, shV]
      · cases h
    · cases h
  · cases h
theorem aMakeSlice_laid {t : TypeId} {l l' c c' v : Value} {e : Eff} (h : aMakeSlice P nx t l c = some (v, e)) (hl : VR nx H C l l') (hc : VR nx H C c c') :
    Laid C nx H w ((Instr.makeSlice t l' c').run P w) v e := by
  unfold aMakeSlice at h
  split at h
  case h_2 => cases h
  rename_i elem kl l kc c hu
  split at h
  case h_2 => cases h
  rename_i size bytes z hs hb hz
  split at h
  case isFalse => cases h
  rename_i hcond
  obtain ⟨h0, hlc, hcb, hbb, hzl⟩ := hcond
  simp only [Option.some.injEq, Prod.mk.injEq] at h
  obtain ⟨rfl, rfl⟩ := h
  cases hl; cases hc
  obtain ⟨i, hi, hib⟩ := run_typeInfo_bytes hb
  obtain ⟨zv, hzr, hzc, hzp⟩ := run_zeroOf hz
  have hrep : VRs nx H C (rep c.toNat z) (rep c.toNat z) := plain_VRs (by simp only [rep, List.all_flatten, List.all_eq_true, List.mem_replicate]; rintro x ⟨_, rfl⟩; exact List.all_eq_true.1 hzp)
  refine ⟨rep c.toNat z, rep c.toNat z, elem, size, some (l.toNat, c.toNat), rfl, hrep, rfl, ?_⟩
  have wl : IntKind.i64.wrap l = l := IntWalk.i64_in _ (by omega)
  have wc : IntKind.i64.wrap c = c := IntWalk.i64_in _ (by omega)
  have hbc : ((bytes : Int) * c) = ((bytes * c.toNat : Nat) : Int) := by
    rw [Int.natCast_mul]; congr 1; omega
  have h48 : ((2 : Int) ^ 48) = 281474976710656 := by decide
  simp only [Instr.makeSlice, asInt, asIntOf, Sem.run_bind, Sem.run_pure, run_underlying hu, Result.andThen_ok, hi, hib, wl, wc]
  have hn1 : ¬ (c < 0) := by omega
  have hn2 : ¬ (l < 0) := by omega
  have hn3 : ¬ (l > c) := by omega
  have hn4 : ¬ ((bytes : Int) * c > 2 ^ 48) := by rw [hbc, h48]; omega
  simp only [hn1, hn2, hn3, hn4, decide_false, Bool.or_false, Bool.false_eq_true, if_false, or_self, Sem.run_bind, run_askRoom, Result.andThen_ok, run_sizeOf' hs]
  by_cases hz0 : c.toNat * size = 0
  · have hr : rep c.toNat z = [] := by rw [← List.length_eq_zero_iff, length_rep, hzl]; exact hz0
    have hr0 : ∀ zero : Array Value, (Array.range 0).map (fun i => zero[i % zero.size]!) = #[] := fun zero => by simp
    simp only [hz0, if_true, Sem.run_pure, Result.andThen_ok, hr0, hr]
    simp [newRow, shV]
  · have hzc2 := zero_cells z.toArray c.toNat
    simp only [List.size_toArray, hzl] at hzc2
    simp only [hz0, if_false, Sem.run_bind, hzr, Result.andThen_ok, Sem.run_pure, hzc, List.size_toArray, hzl, hzc2]
    simp [newRow, shV]
theorem lay_run {ev : Operand → Option Value} {ρ : Operand → Value} (hev : ∀ x v, ev x = some v → VR nx H C v (ρ x)) {o : Oper} {v : Value} {e : Eff} (hf : layOp o.op = true) (h : aop P H nx ev o = some (v, e)) :
    ∃ (cs cs' : List Value) (el : TypeId) (esz : Nat) (sh : Option (Nat × Nat)), e = .new (.cells cs esz none false (some el)) ∧ VRs nx H C cs cs' ∧ v = shV sh nx ∧
      (execOp ρ o).run P w = .ok (.value (shV sh w.heap.size)) (w.alloc (.cells cs'.toArray el)) := by
  have done : ∀ {s : Sem Value}, Laid C nx H w (s.run P w) v e → ∃ (cs cs' : List Value) (el : TypeId) (esz : Nat) (sh : Option (Nat × Nat)), e = .new (.cells cs esz none false (some el)) ∧ VRs nx H C cs cs' ∧ v = shV sh nx ∧
      ((do pure (Next.value (← s)) : Sem Next).run P w) = .ok (.value (shV sh w.heap.size)) (w.alloc (.cells cs'.toArray el)) := by
    rintro s ⟨cs, cs', el, esz, sh, h1, h2, h3, h4⟩
    exact ⟨cs, cs', el, esz, sh, h1, h2, h3, by simp only [Sem.run_bind, h4, Result.andThen_ok, Sem.run_pure]⟩
  unfold aop at h
  unfold execOp
  cases ho : o.op <;> simp only [ho] at h hf ⊢ <;> try (cases hf; done)
  case alloc t =>
    refine done ?_
    simp only [aAlloc, Option.map_eq_some_iff, Prod.mk.injEq] at h
    obtain ⟨l, hl, rfl, rfl⟩ := h
    obtain ⟨z, hz, hzl, hp⟩ := run_zeroOf hl
    have hv : VRs nx H C l z.cells.toList := by rw [hzl]; exact plain_VRs hp
    exact ⟨l, z.cells.toList, t, 0, none, rfl, hv, rfl, by simp [Instr.alloc, hz, newVar, newRow, shV]⟩
  case box t x =>
    refine done ?_
    simp only [Option.map_eq_some_iff, Prod.mk.injEq] at h
    obtain ⟨v, hv, rfl, rfl⟩ := h
    exact ⟨v.cells.toList, (ρ x).cells.toList, t, 0, none, rfl, (hev x v hv).cells, rfl, by simp [Instr.box, newVar, newRow, shV]⟩
  case buildSlice t len parts =>
    simp only [Option.bind_eq_some_iff] at h
    obtain ⟨l, hl, h⟩ := h
    have hp := evParts_sound hev _ _ hl
    exact done (aBuildSlice_laid h (by simpa using hp))
  case makeSlice t l c =>
    simp only [Option.bind_eq_some_iff] at h
    obtain ⟨a, ha, b, hb, h⟩ := h
    exact done (aMakeSlice_laid h (hev l a ha) (hev c b hb))
theorem shV_new {o : AObj} (sh : Option (Nat × Nat)) (C' : Corr) (b s : Nat) : VR (nx + 1) (H.put nx o) (C'.put nx (b, 0) s) (shV sh nx) (shV sh b) := by
  unfold shV
  cases sh with
  | none => exact .ptr _ _ ⟨by simp, by simp⟩ (fun _ => by simp [Corr.at, Corr.put])
  | some q => exact .slc _ _ _ _ _ ⟨by simp, by simp⟩ (fun o _ _ => ⟨by simp [Corr.at, Corr.put], by simp [capOk]⟩)
theorem shV_dead (sh : Option (Nat × Nat)) {D : Nat} (b : Nat) (hD : D < nx) (hd : ∀ o, H D = some o → o.tag ≠ none) : VR nx H C (shV sh D) (shV sh b) := by
  unfold shV
  cases sh with
  | none => exact .ptr _ _ ⟨hD, by simp⟩ (fun ⟨o, h1, h2⟩ => absurd h2 (hd o h1))
  | some q => exact .slc _ _ _ _ _ ⟨hD, by simp⟩ (fun o h1 h2 => absurd h2 (hd o h1))
end
end Go.Am
