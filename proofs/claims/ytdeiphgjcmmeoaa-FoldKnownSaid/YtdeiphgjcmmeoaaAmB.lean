/-
  The abstract machine's cells: reading a row, writing it, making it, and what the model's run does.
-/
import Derived.Test.YtdeiphgjcmmeoaaAmA
namespace Go.Am
set_option linter.unusedSimpArgs false
set_option linter.unusedVariables false
open Go.RowKit

inductive Eff where
  | none
  | new (o : AObj)
  | upd (id : Nat) (o : AObj)
  | bump (id : Nat) (o : AObj)

def Eff.H (e : Eff) (nx : Nat) (H : Heap) : Heap :=
  match e with
  | .none => H
  | .new o => H.put nx o
  | .upd id o => H.put id o
  | .bump id o => H.put id o

def Eff.nx (e : Eff) (nx : Nat) : Nat :=
  match e with
  | .none | .upd _ _ => nx
  | .new _ | .bump _ _ => nx + 1

/-- A run that ends in a value, which the abstract one tells. -/
def Snd (W0 : World) (C : Corr) (nx : Nat) (H : Heap) (r : Result Value) (v : Value) (e : Eff) : Prop :=
  ∃ v' w' C', r = .ok v' w' ∧ Rel W0 C' (e.nx nx) (e.H nx H) w' ∧ Stp nx H C (e.nx nx) (e.H nx H) C' ∧ VR (e.nx nx) (e.H nx H) C' v v'

theorem Snd.same {W0 : World} {C : Corr} {nx : Nat} {H : Heap} {w : World} {r : Result Value} {v v' : Value} (hR : Rel W0 C nx H w) (hr : r = .ok v' w) (hv : VR nx H C v v') : Snd W0 C nx H r v .none :=
  ⟨v', w, C, hr, hR, Stp.refl _ _ _, hv⟩

section
variable {P : Program} {W0 : World} {C : Corr} {nx : Nat} {H : Heap} {w : World}

theorem VRs.nil : VRs nx H C [] [] := ⟨rfl, fun i h => absurd h (by simp)⟩

theorem VRs.cons {a b : Value} {l l' : List Value} (h : VR nx H C a b) (k : VRs nx H C l l') : VRs nx H C (a :: l) (b :: l') :=
  ⟨by simp [k.1], fun i h1 h2 => by
    cases i with
    | zero => exact h
    | succ i => exact k.2 i (by simpa using h1) (by simpa using h2)⟩

theorem VRs.append {a b c d : List Value} (h : VRs nx H C a b) (k : VRs nx H C c d) : VRs nx H C (a ++ c) (b ++ d) :=
  ⟨by simp [h.1, k.1], fun i h1 h2 => by
    by_cases e : i < a.length
    · rw [List.getElem_append_left e, List.getElem_append_left (by rw [← h.1]; exact e)]
      exact h.2 i e (by rw [← h.1]; exact e)
    · rw [List.getElem_append_right (by omega), List.getElem_append_right (by rw [← h.1]; omega)]
      have : i - b.length = i - a.length := by rw [h.1]
      simp only [this]
      simp only [List.length_append] at h1 h2
      exact k.2 _ (by omega) (by have := h.1; have := k.1; omega)⟩

theorem VRs.take {a b : List Value} (n : Nat) (h : VRs nx H C a b) : VRs nx H C (a.take n) (b.take n) :=
  ⟨by simp [h.1], fun i h1 h2 => by
    simp only [List.length_take] at h1 h2
    rw [List.getElem_take, List.getElem_take]
    exact h.2 i (by omega) (by omega)⟩

theorem VRs.drop {a b : List Value} (n : Nat) (h : VRs nx H C a b) : VRs nx H C (a.drop n) (b.drop n) :=
  ⟨by simp [h.1], fun i h1 h2 => by
    simp only [List.length_drop] at h1 h2
    rw [List.getElem_drop, List.getElem_drop]
    exact h.2 _ (by omega) (by omega)⟩

theorem VRs.get? {a b : List Value} (h : VRs nx H C a b) {i : Nat} {v : Value} (hv : a[i]? = some v) : ∃ v', b[i]? = some v' ∧ VR nx H C v v' := by
  obtain ⟨hi, rfl⟩ := List.getElem?_eq_some_iff.1 hv
  have hi' : i < b.length := by rw [← h.1]; exact hi
  exact ⟨b[i], by simp [hi'], h.2 i hi hi'⟩

theorem VR.cells {v v' : Value} (h : VR nx H C v v') : VRs nx H C v.cells.toList v'.cells.toList := by
  cases h with
  | agg a a' ha h1 => exact ⟨by simpa [Value.cells] using ha, fun i x y => h1 i (by simpa [Value.cells] using x) (by simpa [Value.cells] using y)⟩
  | bool b => exact VRs.cons (.bool b) VRs.nil
  | int k n => exact VRs.cons (.int k n) VRs.nil
  | string s => exact VRs.cons (.string s) VRs.nil
  | nilFunc => exact VRs.cons .nilFunc VRs.nil
  | nilIface => exact VRs.cons .nilIface VRs.nil
  | nilp => exact VRs.cons .nilp VRs.nil
  | ptr a b h1 h2 => exact VRs.cons (.ptr a b h1 h2) VRs.nil
  | nils l c => exact VRs.cons (.nils l c) VRs.nil
  | slc a l c b d h1 h2 => exact VRs.cons (.slc a l c b d h1 h2) VRs.nil
  | nilm => exact VRs.cons .nilm VRs.nil
  | map r r' h1 h2 => exact VRs.cons (.map r r' h1 h2) VRs.nil
  | func fn a a' b b' ha hb h1 h2 => exact VRs.cons (.func fn a a' b b' ha hb h1 h2) VRs.nil
  | yld r r' h1 h2 => exact VRs.cons (.yld r r' h1 h2) VRs.nil
  | iface t v v' h => exact VRs.cons (.iface t v v' h) VRs.nil
  | tuple a a' ha h1 => exact VRs.cons (.tuple a a' ha h1) VRs.nil

theorem VR.one {v v' : Value} (h : VR nx H C v v') : v'.oneCell' = v.oneCell' := by cases h <;> rfl

theorem VRs.agg {l l' : List Value} (h : VRs nx H C l l') : VR nx H C (.agg l.toArray) (.agg l'.toArray) := .agg _ _ (by simpa using h.1) (fun i a b => by simpa using h.2 i (by simpa using a) (by simpa using b))
theorem VRs.tuple {l l' : List Value} (h : VRs nx H C l l') : VR nx H C (.tuple l.toArray) (.tuple l'.toArray) := .tuple _ _ (by simpa using h.1) (fun i a b => by simpa using h.2 i (by simpa using a) (by simpa using b))

theorem VRs.all_one {l l' : List Value} (h : VRs nx H C l l') (h1 : l.all (·.oneCell') = true) : ∀ v ∈ l', v.oneCell' = true := by
  intro v hv
  obtain ⟨i, hi, rfl⟩ := List.getElem_of_mem hv
  have hi' : i < l.length := by rw [h.1]; exact hi
  rw [(h.2 i hi' hi).one]
  exact List.all_eq_true.1 h1 _ (List.getElem_mem hi')

/-! ### reading -/

def getc (H : Heap) (a : Addr) (n : Nat) : Option (List Value) :=
  match H a.block with
  | some (.cells c _ t _ _) => if t = a.spot ∧ a.off + n ≤ c.length then some ((c.drop a.off).take n) else none
  | _ => none

theorem add_none (b o i : Nat) : (⟨b, o, none⟩ : Addr).add i = ⟨b, o + i, none⟩ := by unfold Addr.add; split <;> simp_all

theorem getc_live {a : Addr} {n : Nat} {vs : List Value} (h : getc H a n = some vs) : live H a := by
  unfold getc at h
  split at h
  · rename_i c e t r q ho
    split at h
    · rename_i hc; exact ⟨_, ho, hc.1⟩
    · cases h
  · cases h

theorem getc_sound (hR : Rel W0 C nx H w) {a : Addr} {n : Nat} {vs : List Value} (h : getc H a n = some vs) :
    ∃ vs', VRs nx H C vs vs' ∧ vs'.length = n ∧ ∀ i, i < n → w.cell? ((C.at a).add i) = vs'[i]? := by
  unfold getc at h
  split at h
  case h_2 => cases h
  rename_i c e t r q ho
  split at h
  case isFalse => cases h
  rename_i hc
  obtain ⟨htag, hlen⟩ := hc
  simp only [Option.some.injEq] at h
  subst h
  obtain ⟨Cc, el, fr, h1, h2, h3, h4, h5⟩ := hR.obj _ _ ho
  refine ⟨(Cc.toList.drop ((C.loc a.block).2 + a.off)).take n, ⟨?_, ?_⟩, ?_, ?_⟩
  · simp; omega
  · intro i hi hi'
    simp only [List.length_take, List.length_drop] at hi hi'
    rw [List.getElem_take, List.getElem_take, List.getElem_drop, List.getElem_drop]
    have := h4 (a.off + i) (by omega) (by simp at hi'; omega)
    simpa [Nat.add_assoc] using this
  · simp; omega
  · intro i hi
    simp only [Corr.at, add_none, World.cell?, h1]
    rw [List.getElem?_take, List.getElem?_drop]
    simp [hi, Nat.add_assoc]

theorem run_loadCellsFrom (a : Addr) : ∀ (n i : Nat) (acc : Array Value) (vs : List Value), vs.length = n → (∀ j, j < n → w.cell? (a.add (i + j)) = vs[j]?) →
    (loadCellsFrom a i n acc).run P w = .ok (acc ++ vs.toArray) w := by
  intro n
  induction n with
  | zero => intro i acc vs hl _; cases vs with
    | nil => simp [loadCellsFrom]
    | cons v r => simp at hl
  | succ n ih =>
    intro i acc vs hl hc
    cases vs with
    | nil => simp at hl
    | cons v r =>
      have h0 := hc 0 (by omega)
      simp only [Nat.add_zero, List.getElem?_cons_zero] at h0
      simp only [loadCellsFrom, Sem.run_bind, run_load, h0, Result.andThen_ok]
      rw [ih (i + 1) (acc.push v) r (by simpa using hl) (fun j hj => by have := hc (j + 1) (by omega); simpa [Nat.add_assoc, Nat.add_comm 1 j] using this)]
      simp

theorem run_loadCells {a : Addr} {n : Nat} {vs : List Value} (hl : vs.length = n) (hc : ∀ i, i < n → w.cell? (a.add i) = vs[i]?) :
    (loadCells a n).run P w = .ok vs.toArray w := by
  unfold loadCells
  rw [run_loadCellsFrom a n 0 #[] vs hl (by simpa using hc)]
  simp

/-! ### writing -/

def setc (H : Heap) (a : Addr) (vs : List Value) : Option AObj :=
  match H a.block with
  | some (.cells c e t ro q) => if t = a.spot ∧ a.off + vs.length ≤ c.length ∧ ro = false ∧ vs.all (·.oneCell') = true then some (.cells (c.take a.off ++ vs ++ c.drop (a.off + vs.length)) e t ro q) else none
  | _ => none

theorem run_storeCells (g o : Nat) (el : TypeId) (fr : Nat × Nat) : ∀ (vs : List Value) (i : Nat) (Cc : Array Value) (w : World), w.heap[g]? = some (.cells Cc el fr) → o + i + vs.length ≤ Cc.size →
    (∀ k, k < Cc.size → ¬ (fr.1 ≤ k ∧ k < fr.2)) → (∀ v ∈ vs, v.oneCell' = true) →
    ∃ w' Cc', (storeCells ⟨g, o, none⟩ vs i).run P w = .ok () w' ∧ w'.heap[g]? = some (.cells Cc' el fr) ∧ Cc'.size = Cc.size ∧
      (∀ k, Cc'[k]? = if o + i ≤ k ∧ k < o + i + vs.length then vs[k - (o + i)]? else Cc[k]?) ∧ (∀ k, k ≠ g → w'.heap[k]? = w.heap[k]?) ∧ w'.heap.size = w.heap.size ∧
      w'.os = w.os ∧ w'.tape = w.tape ∧ w'.output = w.output ∧ w'.drawn = w.drawn := by
  intro vs
  induction vs with
  | nil =>
    intro i Cc w hg hl hf h1
    exact ⟨w, Cc, by simp [storeCells], hg, rfl, fun k => by rw [if_neg (by simp only [List.length_nil]; omega)], fun _ _ => rfl, rfl, rfl, rfl, rfl, rfl⟩
  | cons v r ih =>
    intro i Cc w hg hl hf h1
    simp only [List.length_cons] at hl
    have hcell : w.cell? ⟨g, o + i, none⟩ = some (Cc[o + i]'(by omega)) := by
      rw [cell_of_row w g (o + i) Cc el fr hg, Array.getElem?_eq_getElem]
    have hfro : w.frozen? ⟨g, o + i, none⟩ = false := by
      have := hf (o + i) (by omega)
      simp only [World.frozen?, hg]
      simp only [Bool.and_eq_false_iff, decide_eq_false_iff_not]
      omega
    have hrow : (w.setCell ⟨g, o + i, none⟩ v).heap[g]? = some (.cells (Cc.setIfInBounds (o + i) v) el fr) := by
      simp [World.setCell, Array.getElem?_modify, hg]
    obtain ⟨w', Cc', e1, e2, e3, e4, e5, e6, e7, e8, e9, e10⟩ := ih (i + 1) (Cc.setIfInBounds (o + i) v) (w.setCell ⟨g, o + i, none⟩ v) hrow (by simp; omega) (by simpa using hf) (fun x hx => h1 x (List.mem_cons_of_mem _ hx))
    refine ⟨w', Cc', ?_, e2, by simpa using e3, ?_, ?_, by simpa using e6, e7, e8, e9, e10⟩
    · simp only [storeCells, add_none, Sem.run_bind]
      rw [run_store P w _ v _ (h1 v (List.mem_cons_self ..)), hcell]
      simp only [hfro, Bool.false_eq_true, if_false, Result.andThen_ok]
      exact e1
    · intro k
      rw [e4 k]
      simp only [List.length_cons]
      by_cases c1 : o + (i + 1) ≤ k ∧ k < o + (i + 1) + r.length
      · rw [if_pos c1, if_pos (by omega)]
        have : k - (o + i) = (k - (o + (i + 1))) + 1 := by omega
        rw [this]; simp
      · rw [if_neg c1]
        by_cases c2 : k = o + i
        · subst c2
          rw [if_pos (by omega), Array.getElem?_setIfInBounds_self_of_lt (by omega)]
          simp
        · rw [if_neg (by omega)]
          rw [Array.getElem?_setIfInBounds_ne (by omega)]
    · intro k hk
      rw [e5 k hk]
      exact Below.heap_setCell _ _ _ _ hk

theorem setc_sound (hR : Rel W0 C nx H w) {a : Addr} {vs vs' : List Value} {o : AObj} (h : setc H a vs = some o) (hv : VRs nx H C vs vs') :
    ∃ w', (storeCells (C.at a) vs' 0).run P w = .ok () w' ∧ Rel W0 C nx (H.put a.block o) w' ∧ Stp nx H C nx (H.put a.block o) C := by
  unfold setc at h
  split at h
  case h_2 => cases h
  rename_i c e t ro q ho
  split at h
  case isFalse => cases h
  rename_i hc
  obtain ⟨htag, hlen, rfl, hone⟩ := hc
  simp only [Option.some.injEq] at h
  subst h
  have hO := hR.obj _ _ ho
  obtain ⟨Cc, el, fr, h1, h2, h3, h4, h5⟩ := hO
  have hblk := (hR.obj _ _ ho).blk
  have hown := hR.own _ _ ho rfl
  obtain ⟨w', Cc', e1, e2, e3, e4, e5, e6, e7, e8, e9, e10⟩ := run_storeCells (P := P) (C.loc a.block).1 ((C.loc a.block).2 + a.off) el fr vs' 0 Cc w h1 (by rw [← hv.1]; omega) (h5.1 rfl).no (hv.all_one hone)
  refine ⟨w', e1, ?_⟩
  have hbel : BelD W0.heap.size W0 w' := hR.below.trans ⟨e7, e8, e9, by omega, fun k hk => e5 k (by omega), Nat.le_of_eq e10.symm⟩
  have key := hR.set (w' := w') a.block _ (.cells (c.take a.off ++ vs ++ c.drop (a.off + vs.length)) e t false q) (C.loc a.block) (C.siz a.block) ho rfl (Nat.le_refl _) (.inl ⟨rfl, rfl, rfl, rfl⟩) (.inl rfl) (fun _ => rfl) hbel
    (fun k _ hk => e5 k hk) ?_
  · have hC : C.put a.block (C.loc a.block) (C.siz a.block) = C := by
      unfold Corr.put
      cases C with
      | mk l s => congr 1 <;> (funext i; simp; intro h; rw [h])
    rw [hC] at key
    exact key
  · rintro C' rfl hst
    have hC : C.put a.block (C.loc a.block) (C.siz a.block) = C := by
      unfold Corr.put
      cases C with
      | mk l s => congr 1 <;> (funext i; simp; intro h; rw [h])
    rw [hC] at hst ⊢
    refine ⟨Cc', el, fr, e2, by rw [e3, h2], ?_, ?_, ⟨fun _ => (by rw [e3]; exact h5.1 rfl), h5.2.1, fun _ ht => (by
      obtain ⟨q1, q2⟩ := h5.2.2.1 rfl ht
      refine ⟨q1, ?_⟩
      rw [e3, q2]; simp; omega), h5.2.2.2⟩⟩
    · rw [e3]; simp; omega
    · intro i hi hi'
      have hget : some Cc'[(C.loc a.block).2 + i] = Cc'[(C.loc a.block).2 + i]? := by simp [hi']
      have h4' : ∀ (j : Nat) (hj : j < c.length), VR nx (H.put a.block (.cells (c.take a.off ++ vs ++ c.drop (a.off + vs.length)) e t false q)) C c[j] (Cc[(C.loc a.block).2 + j]'(by omega)) := fun j hj => (h4 j hj (by omega)).mono hst
      rw [e4] at hget
      by_cases c1 : i < a.off
      · rw [if_neg (by omega)] at hget
        have e : Cc'[(C.loc a.block).2 + i] = Cc[(C.loc a.block).2 + i]'(by omega) := by
          rw [Array.getElem?_eq_getElem (by omega)] at hget; exact Option.some.inj hget
        rw [e]
        have := h4' i (by omega)
        have hg : (c.take a.off ++ vs ++ c.drop (a.off + vs.length))[i] = c[i]'(by omega) := by
          rw [List.getElem_append_left (by simp; omega), List.getElem_append_left (by simp; omega), List.getElem_take]
        rw [hg]
        exact this
      · by_cases c2 : i < a.off + vs.length
        · rw [if_pos (by rw [← hv.1]; omega)] at hget
          have hk : (C.loc a.block).2 + i - ((C.loc a.block).2 + a.off + 0) = i - a.off := by omega
          rw [hk] at hget
          have hlt : i - a.off < vs'.length := by rw [← hv.1]; omega
          rw [List.getElem?_eq_getElem hlt] at hget
          rw [Option.some.inj hget]
          have := (hv.2 (i - a.off) (by omega) hlt).mono hst
          have hg : (c.take a.off ++ vs ++ c.drop (a.off + vs.length))[i] = vs[i - a.off]'(by omega) := by
            rw [List.getElem_append_left (by simp; omega), List.getElem_append_right (by simp; omega)]
            congr 1; simp; omega
          rw [hg]
          exact this
        · rw [if_neg (by rw [← hv.1]; omega)] at hget
          have hi2 : i < c.length := by simp at hi; omega
          have e : Cc'[(C.loc a.block).2 + i] = Cc[(C.loc a.block).2 + i]'(by omega) := by
            rw [Array.getElem?_eq_getElem (by omega)] at hget; exact Option.some.inj hget
          rw [e]
          have := h4' i hi2
          have hg : (c.take a.off ++ vs ++ c.drop (a.off + vs.length))[i] = c[i]'hi2 := by
            rw [List.getElem_append_right (by simp; omega), List.getElem_drop]
            congr 1; simp; omega
          rw [hg]
          exact this

/-! ### a new row -/

theorem new_sound (hR : Rel W0 C nx H w) {cs cs' : List Value} (hv : VRs nx H C cs cs') (el : TypeId) (esz : Nat) (rest : List Value) (tag : Option Nat) (ht : ∀ t, tag = some t → t = nx) (hr : tag = none → rest = []) :
    ∃ C', C' = C.put nx (w.heap.size, 0) (cs'.length + rest.length) ∧ Rel W0 C' (nx + 1) (H.put nx (.cells cs esz tag false (some el))) (w.alloc (.cells (cs' ++ rest).toArray el)) ∧ Stp nx H C (nx + 1) (H.put nx (.cells cs esz tag false (some el))) C' := by
  refine ⟨_, rfl, hR.new (.cells cs esz tag false (some el)) (.cells (cs' ++ rest).toArray el) 0 (cs'.length + rest.length) ht ?_⟩
  rintro C' rfl hst
  have hloc : (C.put nx (w.heap.size, 0) (cs'.length + rest.length)).loc nx = (w.heap.size, 0) := by simp [Corr.put]
  have hsiz : (C.put nx (w.heap.size, 0) (cs'.length + rest.length)).siz nx = cs'.length + rest.length := by simp [Corr.put]
  refine ⟨(cs' ++ rest).toArray, el, (0, 0), ?_, ?_, ?_, ?_, fun _ => .inl rfl, fun t ht => Option.some.inj ht, fun _ ht => ⟨(by simp [Corr.put]), (by simp [hr ht, hv.1])⟩, fun _ => .inr rfl⟩
  · rw [hloc]; exact heap_alloc_new w _
  · rw [hsiz]; simp
  · rw [hloc]; simp [hv.1]
  · intro i hi hi'
    have := (hv.2 i hi (by rw [← hv.1]; exact hi)).mono hst
    simp only [hloc, Nat.zero_add, List.getElem_toArray]
    rw [List.getElem_append_left (by rw [← hv.1]; exact hi)]
    exact this

theorem corr_at_new (s : Nat) (o : Nat) (t : Option Nat) (b : Nat) : (C.put nx (b, 0) s).at ⟨nx, o, t⟩ = ⟨b, o, none⟩ := by simp [Corr.at, Corr.put]

theorem ptr_new {nx : Nat} {H : Heap} {C : Corr} (o : AObj) (b s off : Nat) : VR (nx + 1) (H.put nx o) (C.put nx (b, 0) s) (.pointer (some ⟨nx, off, none⟩)) (.pointer (some ⟨b, off, none⟩)) :=
  .ptr _ _ ⟨by simp, by simp⟩ (fun _ => by simp [Corr.at, Corr.put])

end
end Go.Am
