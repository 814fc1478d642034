/-
  The abstract machine's operations on memory, more: composite values, slices, append, copy, make.
-/
import Derived.Test.YtdeiphgjcmmeoaaAmC
namespace Go.Am
set_option linter.unusedSimpArgs false
set_option linter.unusedVariables false
open Go.RowKit

section
variable {P : Program} {W0 : World} {C : Corr} {nx : Nat} {H : Heap} {w : World}

/-! ### fill -/

def splice (cells : List Value) (off : Nat) (vs : List Value) : List Value := cells.take off ++ vs ++ cells.drop (off + vs.length)

theorem foldl_splice (off : Nat) : ∀ (l : List Value) (k : Nat) (cs : Array Value), off + k + l.length ≤ cs.size →
    (l.zipIdx k).foldl (fun cs (x : Value × Nat) => cs.setIfInBounds (off + x.2) x.1) cs = (splice cs.toList (off + k) l).toArray := by
  intro l
  induction l with
  | nil => intro k cs h; apply Array.ext'; simp [splice]
  | cons v r ih =>
    intro k cs h
    simp only [List.length_cons] at h
    simp only [List.zipIdx_cons, List.foldl_cons]
    rw [ih (k + 1) (cs.setIfInBounds (off + k) v) (by simp; omega)]
    apply Array.ext'
    simp only [splice, Array.toList_setIfInBounds]
    apply List.ext_getElem?
    intro i
    simp only [List.length_cons]
    have hcs : cs.toList.length = cs.size := by simp
    have e1 : ((cs.toList.set (off + k) v).take (off + (k + 1))).length = off + k + 1 := by simp; omega
    have e2 : (cs.toList.take (off + k)).length = off + k := by simp; omega
    by_cases c1 : i < off + k
    · rw [List.append_assoc, List.append_assoc, List.getElem?_append_left (by omega), List.getElem?_append_left (by omega), List.getElem?_take, List.getElem?_take, if_pos (by omega), if_pos c1, List.getElem?_set_ne (by omega)]
    · by_cases c2 : i = off + k
      · subst c2
        rw [List.append_assoc, List.append_assoc, List.getElem?_append_left (by omega), List.getElem?_take, if_pos (by omega), List.getElem?_append_right (by omega), e2]
        rw [List.getElem?_set_self (by omega)]
        simp
      · have L : (((cs.toList.set (off + k) v).take (off + (k + 1)) ++ r) ++ (cs.toList.set (off + k) v).drop (off + (k + 1) + r.length))[i]? = (r ++ (cs.toList.set (off + k) v).drop (off + (k + 1) + r.length))[i - (off + k + 1)]? := by
          rw [List.append_assoc, List.getElem?_append_right (by omega), e1]
        have R : ((cs.toList.take (off + k) ++ v :: r) ++ cs.toList.drop (off + k + (r.length + 1)))[i]? = (r ++ cs.toList.drop (off + k + (r.length + 1)))[i - (off + k + 1)]? := by
          rw [List.append_assoc, List.getElem?_append_right (by omega), e2]
          have : i - (off + k) = (i - (off + k + 1)) + 1 := by omega
          rw [this, List.cons_append, List.getElem?_cons_succ]
        rw [L, R]
        by_cases c3 : i - (off + k + 1) < r.length
        · rw [List.getElem?_append_left c3, List.getElem?_append_left c3]
        · rw [List.getElem?_append_right (by omega), List.getElem?_append_right (by omega), List.getElem?_drop, List.getElem?_drop, List.getElem?_set_ne (by omega)]
          congr 1; omega

def aFill (place : Nat → Option (Nat × Nat)) (cells : List Value) : List (Nat × Value) → Option (List Value)
  | [] => some cells
  | (i, v) :: rest =>
    match place i with
    | none => none
    | some (off, size) => if v.cells.toList.length = size ∧ off + size ≤ cells.length then aFill place (splice cells off v.cells.toList) rest else none

theorem VRs.splice {a b c d : List Value} (off : Nat) (h : VRs nx H C a b) (k : VRs nx H C c d) : VRs nx H C (splice a off c) (splice b off d) := by
  unfold Am.splice
  rw [← k.1]
  exact ((h.take off).append k).append (h.drop _)

theorem length_splice {a : List Value} {off : Nat} {c : List Value} (h : off + c.length ≤ a.length) : (splice a off c).length = a.length := by simp [splice]; omega

/-- Parts, each with its place. -/
def PRs (nx : Nat) (H : Heap) (C : Corr) : List (Nat × Value) → List (Nat × Value) → Prop
  | [], [] => True
  | (i, v) :: l, (j, v') :: l' => i = j ∧ VR nx H C v v' ∧ PRs nx H C l l'
  | _, _ => False

theorem aFill_sound {place : Nat → Option (Nat × Nat)} : ∀ {parts parts' : List (Nat × Value)} {cells cells' r : List Value}, aFill place cells parts = some r → VRs nx H C cells cells' → PRs nx H C parts parts' →
    ∃ r', Instr.fill place cells'.toArray parts' = some r'.toArray ∧ VRs nx H C r r' := by
  intro parts
  induction parts with
  | nil =>
    intro parts' cells cells' r h hc hp
    cases parts' with
    | nil => simp only [aFill, Option.some.injEq] at h; subst h; exact ⟨cells', by simp [Instr.fill], hc⟩
    | cons x y => exact hp.elim
  | cons x l ih =>
    obtain ⟨i, v⟩ := x
    intro parts' cells cells' r h hc hp
    cases parts' with
    | nil => exact hp.elim
    | cons y l' =>
      obtain ⟨j, v'⟩ := y
      obtain ⟨rfl, hv, hp⟩ := hp
      simp only [aFill] at h
      cases hpl : place i with
      | none => simp [hpl] at h
      | some os =>
        obtain ⟨off, size⟩ := os
        simp only [hpl] at h
        split at h
        · rename_i hcond
          have hvc := hv.cells
          obtain ⟨r', e1, e2⟩ := ih h (hc.splice off hvc) hp
          refine ⟨r', ?_, e2⟩
          simp only [Instr.fill, hpl]
          have hs' : v'.cells.size = size := by have := hvc.1; simp at this hcond; omega
          have hl' : cells'.length = cells.length := hc.1.symm
          rw [if_neg (by simp [hs', hl', hcond.2])]
          rw [← e1]
          congr 1
          have := foldl_splice off v'.cells.toList 0 cells'.toArray (by simp [hs', hl', hcond.2])
          simp only [Nat.add_zero] at this
          rw [← this, ← Array.foldl_toList]
          congr 1
          simp
        · cases h

theorem run_mapM {α β : Type} (f : α → Sem β) (g : α → β) (l : Array α) (h : ∀ x ∈ l.toList, ∀ w, (f x).run P w = .ok (g x) w) : (l.mapM f).run P w = .ok (l.map g) w := by
  have key : ∀ (l : List α), (∀ x ∈ l, ∀ w, (f x).run P w = .ok (g x) w) → ∀ w, (l.mapM f).run P w = .ok (l.map g) w := by
    intro l
    induction l with
    | nil => intro _ w; simp
    | cons x r ih =>
      intro hh w
      simp only [List.mapM_cons, Sem.run_bind, hh x (List.mem_cons_self ..), Result.andThen_ok, ih (fun y hy => hh y (List.mem_cons_of_mem _ hy)), Sem.run_pure, List.map_cons]
  rw [Array.mapM_eq_mapM_toList, Sem.run_map, key l.toList h w, Result.andThen_ok]
  congr 1
  apply Array.ext'
  simp

def fieldPlaces (P : Program) (fields : Array Field) (i : Nat) : Option (Nat × Nat) :=
  match fields[i]? with
  | some f => (szOf P f.type).map fun n => (f.offset, n)
  | none => none

def aBuild (P : Program) (t : TypeId) (parts : List (Nat × Value)) : Option Value :=
  match P.underlying t, zeroOf P t with
  | some (.struct fields), some z =>
    if fields.toList.all fun f => (szOf P f.type).isSome then (aFill (fieldPlaces P fields) z parts).map fun l => .agg l.toArray else none
  | some (.array _ elem), some z =>
    match szOf P elem with
    | some size => (aFill (fun i => some (i * size, size)) z parts).map fun l => .agg l.toArray
    | none => none
  | _, _ => none

theorem aBuild_sound (hR : Rel W0 C nx H w) {t : TypeId} {parts : List (Nat × Value)} {parts' : Array (Nat × Value)} {v : Value} (h : aBuild P t parts = some v) (hp : PRs nx H C parts parts'.toList) :
    Snd W0 C nx H ((Instr.build t parts').run P w) v .none := by
  unfold aBuild at h
  split at h
  · rename_i fields z hu hz
    split at h
    · rename_i hall
      simp only [Option.map_eq_some_iff] at h
      obtain ⟨l, hl, rfl⟩ := h
      obtain ⟨zv, hzr, hzc, hzp⟩ := run_zeroOf hz
      obtain ⟨r', e1, e2⟩ := aFill_sound hl (plain_VRs hzp) hp
      refine Snd.same hR (v' := .agg r'.toArray) ?_ e2.agg
      have hm : (fields.mapM fun f => (do pure (f.offset, ← sizeOf f.type) : Sem (Nat × Nat))).run P w = .ok (fields.map fun f => (f.offset, (szOf P f.type).getD 0)) w := by
        refine run_mapM _ _ _ (fun f hf w => ?_)
        have := List.all_eq_true.1 hall f hf
        obtain ⟨n, hn⟩ := Option.isSome_iff_exists.1 this
        simp only [Sem.run_bind, run_sizeOf' hn, Result.andThen_ok, Sem.run_pure, hn, Option.getD_some]
      have hpl : ((fields.map fun f => (f.offset, (szOf P f.type).getD 0))[·]?) = fieldPlaces P fields := by
        funext i
        simp only [fieldPlaces, Array.getElem?_map]
        cases hf : fields[i]? with
        | none => simp
        | some f =>
          have := List.all_eq_true.1 hall f (by simpa using Array.mem_of_getElem? hf)
          obtain ⟨n, hn⟩ := Option.isSome_iff_exists.1 this
          simp [hn]
      simp only [Instr.build, Sem.run_bind, hzr, Result.andThen_ok, run_underlying hu, hm, hzc]
      rw [hpl, e1]
      simp only [Sem.run_pure]
    · cases h
  · rename_i n elem z hu hz
    split at h
    · rename_i size hs
      simp only [Option.map_eq_some_iff] at h
      obtain ⟨l, hl, rfl⟩ := h
      obtain ⟨zv, hzr, hzc, hzp⟩ := run_zeroOf hz
      obtain ⟨r', e1, e2⟩ := aFill_sound hl (plain_VRs hzp) hp
      refine Snd.same hR (v' := .agg r'.toArray) ?_ e2.agg
      simp only [Instr.build, Sem.run_bind, hzr, Result.andThen_ok, run_underlying hu, run_sizeOf' hs, hzc]
      rw [e1]
      simp only [Sem.run_pure]
    · cases h
  · cases h

def rep (n : Nat) (l : List Value) : List Value := (List.replicate n l).flatten

theorem getElem?_rep (l : List Value) : ∀ (n i : Nat), i < n * l.length → (rep n l)[i]? = l[i % l.length]? := by
  intro n
  induction n with
  | zero => intro i h; omega
  | succ n ih =>
    intro i h
    have e : rep (n + 1) l = l ++ rep n l := by simp [rep, List.replicate_succ]
    rw [e]
    by_cases c : i < l.length
    · rw [List.getElem?_append_left c, Nat.mod_eq_of_lt c]
    · rw [List.getElem?_append_right (by omega), ih _ (by rw [Nat.add_mul] at h; omega)]
      congr 1
      rw [Nat.mod_eq_sub_mod (by omega : i ≥ l.length)]

theorem length_rep (l : List Value) (n : Nat) : (rep n l).length = n * l.length := by simp [rep]

theorem zero_cells (z : Array Value) (n : Nat) : (Array.range (n * z.size)).map (fun i => z[i % z.size]!) = (rep n z.toList).toArray := by
  apply Array.ext'
  apply List.ext_getElem?
  intro i
  by_cases hz : z.size = 0
  · have : z.toList = [] := by simpa using hz
    simp [hz, rep, this]
  · by_cases h : i < n * z.size
    · rw [List.toList_toArray, getElem?_rep _ n i (by simpa using h)]
      have hlt : i % z.size < z.size := Nat.mod_lt _ (by omega)
      simp [h, hlt, getElem!_pos]
    · rw [List.toList_toArray, List.getElem?_eq_none (by simp; omega), List.getElem?_eq_none (by rw [length_rep]; simp; omega)]

def aBuildSlice (P : Program) (nx : Nat) (t : TypeId) (len : Nat) (parts : List (Nat × Value)) : Option (Value × Eff) :=
  match P.underlying t with
  | some (.slice elem) =>
    match szOf P elem, zeroOf P elem with
    | some size, some z =>
      if len * size ≤ 16777216 ∧ z.length = size then
        (aFill (fun i => some (i * size, size)) (rep len z) parts).map fun l => (.slice (some ⟨nx, 0, none⟩) len len, .new (.cells l size none false (some elem)))
      else none
    | _, _ => none
  | _ => none

theorem aBuildSlice_sound (hR : Rel W0 C nx H w) {t : TypeId} {len : Nat} {parts : List (Nat × Value)} {parts' : Array (Nat × Value)} {v : Value} {e : Eff} (h : aBuildSlice P nx t len parts = some (v, e)) (hp : PRs nx H C parts parts'.toList) :
    Snd W0 C nx H ((Instr.buildSlice t len parts').run P w) v e := by
  unfold aBuildSlice at h
  split at h
  · rename_i elem hu
    split at h
    · rename_i size z hs hz
      split at h
      · rename_i hc
        simp only [Option.map_eq_some_iff, Prod.mk.injEq] at h
        obtain ⟨l, hl, rfl, rfl⟩ := h
        obtain ⟨zv, hzr, hzc, hzp⟩ := run_zeroOf hz
        have hzs : zv.cells.size = size := by rw [hzc]; simpa using hc.2
        have hrep : VRs nx H C (rep len z) (rep len z) := plain_VRs (by simp only [rep, List.all_flatten, List.all_eq_true, List.mem_replicate]; rintro x ⟨_, rfl⟩; exact List.all_eq_true.1 hzp)
        obtain ⟨r', e1, e2⟩ := aFill_sound hl hrep hp
        obtain ⟨C', hC, h1, h2⟩ := new_sound hR e2 elem size [] none (by simp) (fun _ => rfl)
        refine ⟨.slice (some ⟨w.heap.size, 0, none⟩) len len, w.alloc (.cells (r' ++ []).toArray elem), C', ?_, ?_, h2, ?_⟩
        rotate_left
        · simpa [Eff.H, Eff.nx] using h1
        · rw [hC]
          exact .slc _ _ _ _ _ ⟨by simp [Eff.nx], by simp⟩ (fun o _ _ => ⟨by simp [Corr.at, Corr.put], by simp [capOk]⟩)
        · simp only [Instr.buildSlice, Sem.run_bind, run_underlying hu, Result.andThen_ok, run_sizeOf' hs]
          rw [if_neg (by simp; omega)]
          by_cases h0 : len * size = 0
          · have hr : rep len z = [] := by rw [← List.length_eq_zero_iff, length_rep, hc.2]; exact h0
            rw [hr] at e1
            have hr0 : ∀ zero : Array Value, (Array.range 0).map (fun i => zero[i % zero.size]!) = #[] := fun zero => by simp
            simp only [h0, if_true, Sem.run_bind, Sem.run_pure, Result.andThen_ok, hr0]
            rw [e1]
            simp [newRow]
          · have hzc2 := zero_cells z.toArray len
            simp only [List.size_toArray, hc.2] at hzc2
            simp only [h0, if_false, Sem.run_bind, hzr, Result.andThen_ok, Sem.run_pure, hzc, List.size_toArray, hc.2, hzc2, List.toList_toArray]
            rw [e1]
            simp [newRow]
      · cases h
    · cases h
  · cases h

end
end Go.Am
