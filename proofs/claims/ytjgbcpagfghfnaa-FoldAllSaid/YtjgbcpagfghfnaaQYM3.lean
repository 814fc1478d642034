import Derived.Test.YtjgbcpagfghfnaaQYM2
set_option linter.unusedVariables false
set_option linter.unusedSimpArgs false
set_option linter.unnecessarySimpa false
namespace Go.Am
open Go.RowKit
inductive Eff where
 | none
 | new (o : AObj)
 | upd (id : Nat) (o : AObj)
 | bump (id : Nat) (o : AObj)
def Eff.H (e : Eff) (nx : Nat) (H : Heap) : Heap :=
 match e with
 | .none => H
 | .new o => H.put nx o
 | .upd id o => H.put id o
 | .bump id o => H.put id o
def Eff.nx (e : Eff) (nx : Nat) : Nat :=
 match e with
 | .none | .upd _ _ => nx
 | .new _ | .bump _ _ => nx + 1
def Snd (W0 : World) (C : Corr) (nx : Nat) (H : Heap) (r : Result Value) (v : Value) (e : Eff) : Prop :=
 ∃ v' w' C', r = .ok v' w' ∧ Rel W0 C' (e.nx nx) (e.H nx H) w' ∧ Stp nx H C (e.nx nx) (e.H nx H) C' ∧ VR (e.nx nx) (e.H nx H) C' v v'
theorem Snd.same {W0 : World} {C : Corr} {nx : Nat} {H : Heap} {w : World} {r : Result Value} {v v' : Value} (hR : Rel W0 C nx H w) (hr : r = .ok v' w) (hv : VR nx H C v v') : Snd W0 C nx H r v .none :=
 ⟨v', w, C, hr, hR, Stp.refl _ _ _, hv⟩
section
variable {P : Program} {W0 : World} {C : Corr} {nx : Nat} {H : Heap} {w : World}
theorem VRs.nil : VRs nx H C [] [] := ⟨rfl, fun i h => absurd h (by simp)⟩
theorem VRs.cons {a b : Value} {l l' : List Value} (h : VR nx H C a b) (k : VRs nx H C l l') : VRs nx H C (a :: l) (b :: l') :=
 ⟨by simp [k.1], fun i h1 h2 => by
  cases i with
  | zero => exact h
  | succ i => exact k.2 i (by simpa using h1) (by simpa using h2)⟩
theorem VRs.append {a b c d : List Value} (h : VRs nx H C a b) (k : VRs nx H C c d) : VRs nx H C (a ++ c) (b ++ d) :=
 ⟨by simp [h.1, k.1], fun i h1 h2 => by
  by_cases e : i < a.length
  ·rw [List.getElem_append_left e, List.getElem_append_left (by rw [← h.1]; exact e)];exact h.2 i e (by rw [← h.1]; exact e)
  ·rw [List.getElem_append_right (by omega), List.getElem_append_right (by rw [← h.1]; omega)];have : i - b.length = i - a.length := by rw [h.1]
   simp only [this];simp only [List.length_append] at h1 h2;exact k.2 _ (by omega) (by have := h.1; have := k.1; omega)⟩
theorem VRs.take {a b : List Value} (n : Nat) (h : VRs nx H C a b) : VRs nx H C (a.take n) (b.take n) :=
 ⟨by simp [h.1], fun i h1 h2 => by
  simp only [List.length_take] at h1 h2;rw [List.getElem_take, List.getElem_take];exact h.2 i (by omega) (by omega)⟩
theorem VRs.drop {a b : List Value} (n : Nat) (h : VRs nx H C a b) : VRs nx H C (a.drop n) (b.drop n) :=
 ⟨by simp [h.1], fun i h1 h2 => by
  simp only [List.length_drop] at h1 h2;rw [List.getElem_drop, List.getElem_drop];exact h.2 _ (by omega) (by omega)⟩
theorem VRs.get? {a b : List Value} (h : VRs nx H C a b) {i : Nat} {v : Value} (hv : a[i]? = some v) : ∃ v', b[i]? = some v' ∧ VR nx H C v v' := by
 obtain ⟨hi, rfl⟩ := List.getElem?_eq_some_iff.1 hv;have hi' : i < b.length := by rw [← h.1]; exact hi
 exact ⟨b[i], by simp [hi'], h.2 i hi hi'⟩
theorem VR.cells {v v' : Value} (h : VR nx H C v v') : VRs nx H C v.cells.toList v'.cells.toList := by
 cases h with
 | agg a a' ha h1 => exact ⟨by simpa [Value.cells] using ha, fun i x y => h1 i (by simpa [Value.cells] using x) (by simpa [Value.cells] using y)⟩
 | bool b => exact VRs.cons (.bool b) VRs.nil
 | int k n => exact VRs.cons (.int k n) VRs.nil
 | string s => exact VRs.cons (.string s) VRs.nil
 | nilFunc => exact VRs.cons .nilFunc VRs.nil
 | nilIface => exact VRs.cons .nilIface VRs.nil
 | nilp => exact VRs.cons .nilp VRs.nil
 | ptr a b h1 h2 => exact VRs.cons (.ptr a b h1 h2) VRs.nil
 | nils l c => exact VRs.cons (.nils l c) VRs.nil
 | slc a l c b d h1 h2 => exact VRs.cons (.slc a l c b d h1 h2) VRs.nil
 | nilm => exact VRs.cons .nilm VRs.nil
 | map r r' h1 h2 => exact VRs.cons (.map r r' h1 h2) VRs.nil
 | func fn a a' b b' ha hb h1 h2 => exact VRs.cons (.func fn a a' b b' ha hb h1 h2) VRs.nil
 | yld r r' h1 h2 => exact VRs.cons (.yld r r' h1 h2) VRs.nil
 | iface t v v' h => exact VRs.cons (.iface t v v' h) VRs.nil
 | tuple a a' ha h1 => exact VRs.cons (.tuple a a' ha h1) VRs.nil
theorem VR.one {v v' : Value} (h : VR nx H C v v') : v'.oneCell' = v.oneCell' := by cases h <;> rfl
theorem VRs.agg {l l' : List Value} (h : VRs nx H C l l') : VR nx H C (.agg l.toArray) (.agg l'.toArray) := .agg _ _ (by simpa using h.1) (fun i a b => by simpa using h.2 i (by simpa using a) (by simpa using b))
theorem VRs.tuple {l l' : List Value} (h : VRs nx H C l l') : VR nx H C (.tuple l.toArray) (.tuple l'.toArray) := .tuple _ _ (by simpa using h.1) (fun i a b => by simpa using h.2 i (by simpa using a) (by simpa using b))
theorem VRs.all_one {l l' : List Value} (h : VRs nx H C l l') (h1 : l.all (·.oneCell') = true) : ∀ v ∈ l', v.oneCell' = true := by
 intro v hv;obtain ⟨i, hi, rfl⟩ := List.getElem_of_mem hv;have hi' : i < l.length := by rw [h.1]; exact hi
 rw [(h.2 i hi' hi).one];exact List.all_eq_true.1 h1 _ (List.getElem_mem hi')
def z1f (H : Heap) (a : Addr) (n : Nat) : Option (List Value) :=
 match H a.block with
 | some (.cells c _ t _ _) => if t = a.spot ∧ a.off + n ≤ c.length then some ((c.drop a.off).take n) else none
 | _ => none
theorem z0K (b o i : Nat) : (⟨b, o, none⟩ : Addr).add i = ⟨b, o + i, none⟩ := by unfold Addr.add; split <;> simp_all
theorem z49 {a : Addr} {n : Nat} {vs : List Value} (h : z1f H a n = some vs) : zeJ H a := by
 unfold z1f at h;split at h
 ·rename_i c e t r q ho;split at h
  ·rename_i hc; exact ⟨_, ho, hc.1⟩
  ·cases h
 ·cases h
theorem z1Y (hR : Rel W0 C nx H w) {a : Addr} {n : Nat} {vs : List Value} (h : z1f H a n = some vs) :
  ∃ vs', VRs nx H C vs vs' ∧ vs'.length = n ∧ ∀ i, i < n → w.cell? ((C.at a).add i) = vs'[i]? := by
 unfold z1f at h;split at h
 case h_2 => cases h
 rename_i c e t r q ho;split at h
 case isFalse => cases h
 rename_i hc;obtain ⟨htag, hlen⟩ := hc;simp only [Option.some.injEq] at h;subst h;obtain ⟨Cc, el, fr, h1, h2, h3, h4, h5⟩ := hR.obj _ _ ho;refine ⟨(Cc.toList.drop ((C.loc a.block).2 + a.off)).take n, ⟨?_, ?_⟩, ?_, ?_⟩
 ·simp; omega
 ·intro i hi hi';simp only [List.length_take, List.length_drop] at hi hi';rw [List.getElem_take, List.getElem_take, List.getElem_drop, List.getElem_drop];have := h4 (a.off + i) (by omega) (by simp at hi'; omega);simpa [Nat.add_assoc] using this
 ·simp; omega
 ·intro i hi;simp only [Corr.at, z0K, World.cell?, h1];rw [List.getElem?_take, List.getElem?_drop];simp [hi, Nat.add_assoc]
theorem z5J (a : Addr) : ∀ (n i : Nat) (acc : Array Value) (vs : List Value), vs.length = n → (∀ j, j < n → w.cell? (a.add (i + j)) = vs[j]?) →
  (loadCellsFrom a i n acc).run P w = .ok (acc ++ vs.toArray) w := by
 intro n
 induction n with
 | zero => intro i acc vs hl _; cases vs with
  | nil => simp [loadCellsFrom]
  | cons v r => simp at hl
 | succ n ih =>
  intro i acc vs hl hc;cases vs with
  | nil => simp at hl
  | cons v r =>
   have h0 := hc 0 (by omega);simp only [Nat.add_zero, List.getElem?_cons_zero] at h0;simp only [loadCellsFrom, Sem.run_bind, run_load, h0, Result.andThen_ok];rw [ih (i + 1) (acc.push v) r (by simpa using hl) (fun j hj => by have := hc (j + 1) (by omega); simpa [Nat.add_assoc, Nat.add_comm 1 j] using this)];simp
theorem z0R {a : Addr} {n : Nat} {vs : List Value} (hl : vs.length = n) (hc : ∀ i, i < n → w.cell? (a.add i) = vs[i]?) :
  (loadCells a n).run P w = .ok vs.toArray w := by
 unfold loadCells;rw [z5J a n 0 #[] vs hl (by simpa using hc)];simp
def zbX (H : Heap) (a : Addr) (vs : List Value) : Option AObj :=
 match H a.block with
 | some (.cells c e t ro q) => if t = a.spot ∧ a.off + vs.length ≤ c.length ∧ ro = false ∧ vs.all (·.oneCell') = true then some (.cells (c.take a.off ++ vs ++ c.drop (a.off + vs.length)) e t ro q) else none
 | _ => none
theorem z2x (g o : Nat) (el : TypeId) (fr : Nat × Nat) : ∀ (vs : List Value) (i : Nat) (Cc : Array Value) (w : World), w.heap[g]? = some (.cells Cc el fr) → o + i + vs.length ≤ Cc.size →
  (∀ k, k < Cc.size → ¬ (fr.1 ≤ k ∧ k < fr.2)) → (∀ v ∈ vs, v.oneCell' = true) →
  ∃ w' Cc', (storeCells ⟨g, o, none⟩ vs i).run P w = .ok () w' ∧ w'.heap[g]? = some (.cells Cc' el fr) ∧ Cc'.size = Cc.size ∧
   (∀ k, Cc'[k]? = if o + i ≤ k ∧ k < o + i + vs.length then vs[k - (o + i)]? else Cc[k]?) ∧ (∀ k, k ≠ g → w'.heap[k]? = w.heap[k]?) ∧ w'.heap.size = w.heap.size ∧
   w'.os = w.os ∧ w'.tape = w.tape ∧ w'.output = w.output ∧ w'.drawn = w.drawn := by
 intro vs
 induction vs with
 | nil =>
  intro i Cc w hg hl hf h1;exact ⟨w, Cc, by simp [storeCells], hg, rfl, fun k => by rw [if_neg (by simp only [List.length_nil]; omega)], fun _ _ => rfl, rfl, rfl, rfl, rfl, rfl⟩
 | cons v r ih =>
  intro i Cc w hg hl hf h1;simp only [List.length_cons] at hl
  have hcell : w.cell? ⟨g, o + i, none⟩ = some (Cc[o + i]'(by omega)) := by
   rw [cell_of_row w g (o + i) Cc el fr hg, Array.getElem?_eq_getElem]
  have hfro : w.frozen? ⟨g, o + i, none⟩ = false := by
   have := hf (o + i) (by omega);simp only [World.frozen?, hg];simp only [Bool.and_eq_false_iff, decide_eq_false_iff_not];omega
  have hrow : (w.setCell ⟨g, o + i, none⟩ v).heap[g]? = some (.cells (Cc.setIfInBounds (o + i) v) el fr) := by
   simp [World.setCell, Array.getElem?_modify, hg]
  obtain ⟨w', Cc', e1, e2, e3, e4, e5, e6, e7, e8, e9, e10⟩ := ih (i + 1) (Cc.setIfInBounds (o + i) v) (w.setCell ⟨g, o + i, none⟩ v) hrow (by simp; omega) (by simpa using hf) (fun x hx => h1 x (List.mem_cons_of_mem _ hx));refine ⟨w', Cc', ?_, e2, by simpa using e3, ?_, ?_, by simpa using e6, e7, e8, e9, e10⟩
  ·simp only [storeCells, z0K, Sem.run_bind];rw [run_store P w _ v _ (h1 v (List.mem_cons_self ..)), hcell];simp only [hfro, Bool.false_eq_true, if_false, Result.andThen_ok];exact e1
  ·intro k;rw [e4 k];simp only [List.length_cons];by_cases c1 : o + (i + 1) ≤ k ∧ k < o + (i + 1) + r.length
   ·rw [if_pos c1, if_pos (by omega)];have : k - (o + i) = (k - (o + (i + 1))) + 1 := by omega
    rw [this]; simp
   ·rw [if_neg c1];by_cases c2 : k = o + i
    ·subst c2;rw [if_pos (by omega), Array.getElem?_setIfInBounds_self_of_lt (by omega)];simp
    ·rw [if_neg (by omega)];rw [Array.getElem?_setIfInBounds_ne (by omega)]
  ·intro k hk;rw [e5 k hk];exact Below.heap_setCell _ _ _ _ hk
theorem z5H (hR : Rel W0 C nx H w) {a : Addr} {vs vs' : List Value} {o : AObj} (h : zbX H a vs = some o) (hv : VRs nx H C vs vs') :
  ∃ w', (storeCells (C.at a) vs' 0).run P w = .ok () w' ∧ Rel W0 C nx (H.put a.block o) w' ∧ Stp nx H C nx (H.put a.block o) C := by
 unfold zbX at h;split at h
 case h_2 => cases h
 rename_i c e t ro q ho;split at h
 case isFalse => cases h
 rename_i hc;obtain ⟨htag, hlen, rfl, hone⟩ := hc;simp only [Option.some.injEq] at h;subst h;have hO := hR.obj _ _ ho;obtain ⟨Cc, el, fr, h1, h2, h3, h4, h5⟩ := hO;have hblk := (hR.obj _ _ ho).blk;have hown := hR.own _ _ ho rfl;obtain ⟨w', Cc', e1, e2, e3, e4, e5, e6, e7, e8, e9, e10⟩ := z2x (P := P) (C.loc a.block).1 ((C.loc a.block).2 + a.off) el fr vs' 0 Cc w h1 (by rw [← hv.1]; omega) (h5.1 rfl).no (hv.all_one hone);refine ⟨w', e1, ?_⟩;have hbel : BelD W0.heap.size W0 w' := hR.below.trans ⟨e7, e8, e9, by omega, fun k hk => e5 k (by omega), Nat.le_of_eq e10.symm⟩
 have key := hR.set (w' := w') a.block _ (.cells (c.take a.off ++ vs ++ c.drop (a.off + vs.length)) e t false q) (C.loc a.block) (C.siz a.block) ho rfl (Nat.le_refl _) (.inl ⟨rfl, rfl, rfl, rfl⟩) (.inl rfl) (fun _ => rfl) hbel
  (fun k _ hk => e5 k hk) ?_
 ·have hC : C.put a.block (C.loc a.block) (C.siz a.block) = C := by
   unfold Corr.put;cases C with
   | mk l s => congr 1 <;> (funext i; simp; intro h; rw [h])
  rw [hC] at key;exact key
 ·rintro C' rfl hst
  have hC : C.put a.block (C.loc a.block) (C.siz a.block) = C := by
   unfold Corr.put;cases C with
   | mk l s => congr 1 <;> (funext i; simp; intro h; rw [h])
  rw [hC] at hst ⊢
  refine ⟨Cc', el, fr, e2, by rw [e3, h2], ?_, ?_, ⟨fun _ => (by rw [e3]; exact h5.1 rfl), h5.2.1, fun _ ht => (by
   obtain ⟨q1, q2⟩ := h5.2.2.1 rfl ht;refine ⟨q1, ?_⟩;rw [e3, q2]; simp; omega), h5.2.2.2⟩⟩
  ·rw [e3]; simp; omega
  ·intro i hi hi';have hget : some Cc'[(C.loc a.block).2 + i] = Cc'[(C.loc a.block).2 + i]? := by simp [hi']
   have h4' : ∀ (j : Nat) (hj : j < c.length), VR nx (H.put a.block (.cells (c.take a.off ++ vs ++ c.drop (a.off + vs.length)) e t false q)) C c[j] (Cc[(C.loc a.block).2 + j]'(by omega)) := fun j hj => (h4 j hj (by omega)).mono hst;rw [e4] at hget;by_cases c1 : i < a.off
   ·rw [if_neg (by omega)] at hget
    have e : Cc'[(C.loc a.block).2 + i] = Cc[(C.loc a.block).2 + i]'(by omega) := by
     rw [Array.getElem?_eq_getElem (by omega)] at hget; exact Option.some.inj hget
    rw [e];have := h4' i (by omega)
    have hg : (c.take a.off ++ vs ++ c.drop (a.off + vs.length))[i] = c[i]'(by omega) := by
     rw [List.getElem_append_left (by simp; omega), List.getElem_append_left (by simp; omega), List.getElem_take]
    rw [hg];exact this
   ·by_cases c2 : i < a.off + vs.length
    ·rw [if_pos (by rw [← hv.1]; omega)] at hget;have hk : (C.loc a.block).2 + i - ((C.loc a.block).2 + a.off + 0) = i - a.off := by omega
     rw [hk] at hget;have hlt : i - a.off < vs'.length := by rw [← hv.1]; omega
     rw [List.getElem?_eq_getElem hlt] at hget;rw [Option.some.inj hget];have := (hv.2 (i - a.off) (by omega) hlt).mono hst
     have hg : (c.take a.off ++ vs ++ c.drop (a.off + vs.length))[i] = vs[i - a.off]'(by omega) := by
      rw [List.getElem_append_left (by simp; omega), List.getElem_append_right (by simp; omega)];congr 1; simp; omega
     rw [hg];exact this
    ·rw [if_neg (by rw [← hv.1]; omega)] at hget;have hi2 : i < c.length := by simp at hi; omega
     have e : Cc'[(C.loc a.block).2 + i] = Cc[(C.loc a.block).2 + i]'(by omega) := by
      rw [Array.getElem?_eq_getElem (by omega)] at hget; exact Option.some.inj hget
     rw [e];have := h4' i hi2
     have hg : (c.take a.off ++ vs ++ c.drop (a.off + vs.length))[i] = c[i]'hi2 := by
      rw [List.getElem_append_right (by simp; omega), List.getElem_drop];congr 1; simp; omega
     rw [hg];exact this
theorem z2g (hR : Rel W0 C nx H w) {cs cs' : List Value} (hv : VRs nx H C cs cs') (el : TypeId) (esz : Nat) (rest : List Value) (tag : Option Nat) (ht : ∀ t, tag = some t → t = nx) (hr : tag = none → rest = []) :
  ∃ C', C' = C.put nx (w.heap.size, 0) (cs'.length + rest.length) ∧ Rel W0 C' (nx + 1) (H.put nx (.cells cs esz tag false (some el))) (w.alloc (.cells (cs' ++ rest).toArray el)) ∧ Stp nx H C (nx + 1) (H.put nx (.cells cs esz tag false (some el))) C' := by
 refine ⟨_, rfl, hR.new (.cells cs esz tag false (some el)) (.cells (cs' ++ rest).toArray el) 0 (cs'.length + rest.length) ht ?_⟩;rintro C' rfl hst;have hloc : (C.put nx (w.heap.size, 0) (cs'.length + rest.length)).loc nx = (w.heap.size, 0) := by simp [Corr.put]
 have hsiz : (C.put nx (w.heap.size, 0) (cs'.length + rest.length)).siz nx = cs'.length + rest.length := by simp [Corr.put]
 refine ⟨(cs' ++ rest).toArray, el, (0, 0), ?_, ?_, ?_, ?_, fun _ => .inl rfl, fun t ht => Option.some.inj ht, fun _ ht => ⟨(by simp [Corr.put]), (by simp [hr ht, hv.1])⟩, fun _ => .inr rfl⟩
 ·rw [hloc]; exact heap_alloc_new w _
 ·rw [hsiz]; simp
 ·rw [hloc]; simp [hv.1]
 ·intro i hi hi';have := (hv.2 i hi (by rw [← hv.1]; exact hi)).mono hst;simp only [hloc, Nat.zero_add, List.getElem_toArray];rw [List.getElem_append_left (by rw [← hv.1]; exact hi)];exact this
theorem zcy {nx : Nat} {H : Heap} {C : Corr} (o : AObj) (b s off : Nat) : VR (nx + 1) (H.put nx o) (C.put nx (b, 0) s) (.pointer (some ⟨nx, off, none⟩)) (.pointer (some ⟨b, off, none⟩)) :=
 .ptr _ _ ⟨by simp, by simp⟩ (fun _ => by simp [Corr.at, Corr.put])
end
end Go.Am
namespace Go.Am
open Go.RowKit
def z1W (P : Program) (t : TypeId) : Option Nat := (P.info? t).map (·.size)
def z5O : TypeDesc → Bool
 | .struct _ | .array _ _ => true
 | _ => false
section
variable {P : Program} {W0 : World} {C : Corr} {nx : Nat} {H : Heap} {w : World}
theorem z03 {t : TypeId} {n : Nat} (h : z1W P t = some n) (w : World) : (sizeOf t).run P w = .ok n w := by
 unfold z1W at h;cases hi : P.info? t with
 | none => simp [hi] at h
 | some i => simp [hi] at h; simp [sizeOf, typeInfo, hi, h]
theorem z4w {t : TypeId} {d : TypeDesc} (h : P.underlying t = some d) (w : World) : (isAgg t).run P w = .ok (z5O d) w := by
 simp only [isAgg, Sem.run_bind, run_underlying h, Result.andThen_ok];cases d <;> rfl
def z3Q (P : Program) (H : Heap) (t : TypeId) (a : Addr) : Option Value :=
 match P.underlying t with
 | none => none
 | some d =>
  if z5O d then
   match z1W P t with
   | some n => (z1f H a n).map fun l => .agg l.toArray
   | none => none
  else
   match z1f H a 1 with
   | some (v :: _) => some v
   | _ => none
theorem z6W {t : TypeId} {a : Addr} {v : Value} (h : z3Q P H t a = some v) : zeJ H a := by
 unfold z3Q at h;split at h
 ·cases h
 ·split at h
  ·split at h
   ·simp only [Option.map_eq_some_iff] at h;obtain ⟨l, h1, _⟩ := h;exact z49 h1
   ·cases h
  ·split at h
   ·rename_i v' r h1; exact z49 h1
   ·cases h
theorem z5U (hR : Rel W0 C nx H w) {t : TypeId} {a : Addr} {v : Value} (h : z3Q P H t a = some v) :
  ∃ v', (loadVar t (C.at a)).run P w = .ok v' w ∧ VR nx H C v v' := by
 unfold z3Q at h;split at h
 ·cases h
 ·rename_i d hd;split at h
  ·rename_i hagg;split at h
   ·rename_i n hn;simp only [Option.map_eq_some_iff] at h;obtain ⟨l, h1, rfl⟩ := h;obtain ⟨vs', hv, hl, hc⟩ := z1Y hR h1;refine ⟨.agg vs'.toArray, ?_, hv.agg⟩;simp only [loadVar, Sem.run_bind, z4w hd, Result.andThen_ok, hagg, if_true, z03 hn, z0R hl hc, Sem.run_pure]
   ·cases h
  ·rename_i hagg;split at h
   ·rename_i v' r h1;simp only [Option.some.injEq] at h;subst h;obtain ⟨vs', hv, hl, hc⟩ := z1Y hR h1;obtain ⟨u, hu, hvu⟩ := hv.get? (i := 0) (v := v') rfl;refine ⟨u, ?_, hvu⟩;have h0 := hc 0 (by omega);rw [hu] at h0;have : (C.at a).add 0 = C.at a := by simp [Corr.at, z0K]
    rw [this] at h0;simp only [Bool.not_eq_true] at hagg;simp only [loadVar, Sem.run_bind, z4w hd, Result.andThen_ok, hagg, Bool.false_eq_true, if_false, run_load, h0]
   ·cases h
def zbp (P : Program) (H : Heap) (t : TypeId) : Value → Option Value
 | .pointer (some a) => z3Q P H t a
 | _ => none
theorem zay (hR : Rel W0 C nx H w) {t : TypeId} {x x' v : Value} (h : zbp P H t x = some v) (hx : VR nx H C x x') : Snd W0 C nx H ((Instr.loadAt t x').run P w) v .none := by
 cases hx with
 | ptr a b h1 h2 =>
  simp only [zbp] at h;obtain rfl := h2 (z6W h);obtain ⟨v', e, hv⟩ := z5U hR h;refine Snd.same hR (v' := v') ?_ hv;simpa [Instr.loadAt, Instr.sureAddr] using e
 | _ => simp [zbp] at h
def za4 (P : Program) (H : Heap) (t : TypeId) (a : Addr) (v : Value) : Option Eff :=
 if z1W P t = some v.cells.size then (zbX H a v.cells.toList).map (.upd a.block ·) else none
theorem z8W {a : Addr} {vs : List Value} {o : AObj} (h : zbX H a vs = some o) : zeJ H a := by
 unfold zbX at h;split at h
 ·rename_i c e t r q ho;split at h
  ·rename_i hc; exact ⟨_, ho, hc.1⟩
  ·cases h
 ·cases h
def z8P (P : Program) (H : Heap) (t : TypeId) (x v : Value) : Option Eff :=
 match x with
 | .pointer (some a) => za4 P H t a v
 | _ => none
theorem z9D (hR : Rel W0 C nx H w) {t : TypeId} {x x' v v' : Value} {e : Eff} (h : z8P P H t x v = some e) (hx : VR nx H C x x') (hv : VR nx H C v v') :
  ∃ w', (Instr.storeAt t x' v').run P w = .ok () w' ∧ Rel W0 C (e.nx nx) (e.H nx H) w' ∧ Stp nx H C (e.nx nx) (e.H nx H) C := by
 cases hx with
 | ptr a b h1 h2 =>
  simp only [z8P, za4] at h;split at h
  ·rename_i hs;simp only [Option.map_eq_some_iff] at h;obtain ⟨o, h3, rfl⟩ := h;obtain rfl := h2 (z8W h3);obtain ⟨w', e1, e2, e3⟩ := z5H (P := P) hR h3 hv.cells;refine ⟨w', ?_, e2, e3⟩;have hsz : v'.cells.size = v.cells.size := by have := hv.cells.1; simp at this; omega
   simp only [Instr.storeAt, Instr.sureAddr, Sem.run_bind, Sem.run_pure, Result.andThen_ok, storeVar, z03 hs, hsz, ne_eq, not_true_eq_false, if_false, e1]
  ·cases h
 | _ => simp [z8P] at h
def zK : Value → Bool
 | .bool _ | .int _ _ | .string _ | .nilFunc | .nilIface | .pointer none | .slice none _ _ | .map none => true
 | _ => false
theorem z3j {v : Value} (h : zK v = true) : VR nx H C v v := by
 cases v with
 | bool b => exact .bool b
 | int k n => exact .int k n
 | string s => exact .string s
 | nilFunc => exact .nilFunc
 | nilIface => exact .nilIface
 | pointer a => cases a with
  | none => exact .nilp
  | some a => simp [zK] at h
 | slice a l c => cases a with
  | none => exact .nils l c
  | some a => simp [zK] at h
 | map r => cases r with
  | none => exact .nilm
  | some r => simp [zK] at h
 | _ => simp [zK] at h
theorem z2f {l : List Value} (h : l.all zK = true) : VRs nx H C l l := ⟨rfl, fun _ a _ => z3j (List.all_eq_true.1 h _ (List.getElem_mem a))⟩
def z0Y (P : Program) (t : TypeId) : Option (List Value) :=
 match (P.info? t).bind (·.zero) with
 | some z => if z.cells.toList.all zK then some z.cells.toList else none
 | none => none
theorem z1p {t : TypeId} {l : List Value} (h : z0Y P t = some l) : ∃ z, (∀ w, (zeroValue t).run P w = .ok z w) ∧ z.cells = l.toArray ∧ l.all zK = true := by
 unfold z0Y at h;cases hi : P.info? t with
 | none => simp [hi] at h
 | some i =>
  cases hz : i.zero with
  | none => simp [hi, hz] at h
  | some z =>
   simp only [hi, hz, Option.bind_some] at h;split at h
   ·rename_i hp;simp only [Option.some.injEq] at h;subst h;exact ⟨z, fun w => by simp [zeroValue, typeInfo, hi, hz], by simp, hp⟩
   ·cases h
theorem z9o (hR : Rel W0 C nx H w) {v v' : Value} (hv : VR nx H C v v') (t : TypeId) :
  Snd W0 C nx H ((do pure (Value.pointer (some (← newVar t v'))) : Sem Value).run P w) (.pointer (some ⟨nx, 0, none⟩)) (.new (.cells v.cells.toList 0 none false (some t))) := by
 obtain ⟨C', hC, h1, h2⟩ := z2g hR hv.cells t 0 [] none (by simp) (fun _ => rfl);refine ⟨_, _, C', by simp [newVar, newRow]; exact ⟨rfl, rfl⟩, ?_, h2, ?_⟩
 ·simpa [Eff.H, Eff.nx] using h1
 ·rw [hC]; exact zcy _ _ _ _
def zaM (P : Program) (nx : Nat) (t : TypeId) : Option (Value × Eff) :=
 (z0Y P t).map fun l => (.pointer (some ⟨nx, 0, none⟩), .new (.cells l 0 none false (some t)))
theorem z9M (hR : Rel W0 C nx H w) {t : TypeId} {v : Value} {e : Eff} (h : zaM P nx t = some (v, e)) : Snd W0 C nx H ((Instr.alloc t true (.tuple #[])).run P w) v e := by
 simp only [zaM, Option.map_eq_some_iff, Prod.mk.injEq] at h;obtain ⟨l, hl, rfl, rfl⟩ := h;obtain ⟨z, hz, hzl, hp⟩ := z1p hl;have hv : VRs nx H C l z.cells.toList := by rw [hzl]; exact z2f hp
 obtain ⟨C', hC, h1, h2⟩ := z2g hR hv t 0 [] none (by simp) (fun _ => rfl);refine ⟨_, _, C', by simp [Instr.alloc, hz, newVar, newRow]; exact ⟨rfl, rfl⟩, ?_, h2, ?_⟩
 ·simpa [Eff.H, Eff.nx] using h1
 ·rw [hC]; exact zcy _ _ _ _
def z2H (P : Program) (t : TypeId) (cs : List Value) (off : Nat) : Option Value :=
 match P.underlying t with
 | none => none
 | some d =>
  if z5O d then
   match z1W P t with
   | some n => if off + n ≤ cs.length then some (.agg ((cs.drop off).take n).toArray) else none
   | none => none
  else cs[off]?
theorem z0S {t : TypeId} {cs cs' : List Value} {off : Nat} {v : Value} (h : z2H P t cs off = some v) (hv : VRs nx H C cs cs') :
  ∃ v', (∀ w, (part t cs'.toArray off).run P w = .ok v' w) ∧ VR nx H C v v' := by
 unfold z2H at h;split at h
 ·cases h
 ·rename_i d hd;split at h
  ·rename_i hagg;split at h
   ·rename_i n hn;split at h
    ·rename_i hle;simp only [Option.some.injEq] at h;subst h;refine ⟨_, fun w => ?_, ((hv.drop off).take n).agg⟩;simp only [part, Sem.run_bind, z4w hd, Result.andThen_ok, hagg, if_true, z03 hn, Sem.run_pure];congr 2;apply Array.ext';simp
    ·cases h
   ·cases h
  ·rename_i hagg;obtain ⟨v', h1, h2⟩ := hv.get? h;refine ⟨v', fun w => ?_, h2⟩;simp only [Bool.not_eq_true] at hagg;simp only [part, Sem.run_bind, z4w hd, Result.andThen_ok, hagg, Bool.false_eq_true, if_false, List.getElem?_toArray, h1, Sem.run_pure]
def zcs (P : Program) (t : TypeId) (x : Value) (f : Nat) : Option Value :=
 match P.underlying t, x with
 | some (.struct fields), .agg cs =>
  match fields[f]? with
  | some fd => z2H P fd.type cs.toList fd.offset
  | none => none
 | _, _ => none
theorem z9I (hR : Rel W0 C nx H w) {t : TypeId} {x x' v : Value} {f : Nat} (h : zcs P t x f = some v) (hx : VR nx H C x x') : Snd W0 C nx H ((Instr.field t x' f).run P w) v .none := by
 unfold zcs at h;split at h
 ·rename_i fields cs hu;split at h
  ·rename_i fd hf;cases hx with
   | agg a a' ha h1 =>
    have hv : VRs nx H C cs.toList a'.toList := ⟨by simpa using ha, fun i p q => h1 i (by simpa using p) (by simpa using q)⟩;obtain ⟨v', e, hvv⟩ := z0S h hv;refine Snd.same hR (v' := v') ?_ hvv;have e' := e w;simp only [Array.toArray_toList] at e';simp only [Instr.field, Sem.run_bind, run_underlying hu, Result.andThen_ok, hf, asAgg, Sem.run_pure];exact e'
  ·cases h
 ·cases h
def z3r (P : Program) (s : TypeId) (x : Value) (f : Nat) : Option Value :=
 match P.underlying s, x with
 | some (.struct fields), .pointer (some a) =>
  match fields[f]? with
  | some fd =>
   match z1W P fd.type with
   | some n => if n = 0 then none else some (.pointer (some ⟨a.block, a.off + fd.offset, a.spot⟩))
   | none => none
  | none => none
 | _, _ => none
theorem zcn {a b : Addr} (n : Nat) (h : zeJ H a → b = C.at a) : zeJ H ⟨a.block, a.off + n, a.spot⟩ → b.add n = C.at ⟨a.block, a.off + n, a.spot⟩ := by
 intro hl;rw [h hl];simp [Corr.at, z0K, Nat.add_assoc]
theorem z6d (hR : Rel W0 C nx H w) {s : TypeId} {x x' v : Value} {f : Nat} (h : z3r P s x f = some v) (hx : VR nx H C x x') : Snd W0 C nx H ((Instr.fieldAt s x' f).run P w) v .none := by
 unfold z3r at h;split at h
 ·rename_i fields a hu;split at h
  ·rename_i fd hf;split at h
   ·rename_i n hn;split at h
    ·cases h
    ·rename_i hn0;simp only [Option.some.injEq] at h;subst h;cases hx with
     | ptr _ b h1 h2 =>
      refine Snd.same hR (v' := .pointer (some (b.add fd.offset))) ?_ (.ptr _ _ h1 (zcn _ h2));simp only [Instr.fieldAt, Sem.run_bind, run_underlying hu, Result.andThen_ok, hf, Instr.sureAddr, Sem.run_pure, fieldPlace, z03 hn, hn0, if_false]
   ·cases h
  ·cases h
 ·cases h
def z3q (P : Program) (t : TypeId) (x i : Value) : Option Value :=
 match P.underlying t, x, i with
 | some (.array len elem), .pointer (some a), .int _ i =>
  match z1W P elem with
  | some n => if 0 ≤ i ∧ i < len then some (.pointer (some ⟨a.block, a.off + i.toNat * n, a.spot⟩)) else none
  | none => none
 | some (.slice elem), .slice (some a) len _, .int _ i =>
  match z1W P elem with
  | some n => if 0 ≤ i ∧ i < len then some (.pointer (some ⟨a.block, a.off + i.toNat * n, a.spot⟩)) else none
  | none => none
 | _, _, _ => none
theorem z6c (hR : Rel W0 C nx H w) {t : TypeId} {x x' i i' v : Value} (h : z3q P t x i = some v) (hx : VR nx H C x x') (hi : VR nx H C i i') : Snd W0 C nx H ((Instr.indexAt t x' i').run P w) v .none := by
 unfold z3q at h;split at h
 ·rename_i len elem a k i hu;split at h
  ·rename_i n hn;split at h
   ·rename_i hb;simp only [Option.some.injEq] at h;subst h;cases hi with
    | int =>
    cases hx with
    | ptr _ b h1 h2 =>
     refine Snd.same hR (v' := .pointer (some (b.add (i.toNat * n)))) ?_ (.ptr _ _ h1 (zcn _ h2));simp only [Instr.indexAt, asIntOf, Sem.run_bind, Sem.run_pure, run_underlying hu, Result.andThen_ok, Instr.sureAddr, Sem.run_ite, z03 hn];rw [if_pos hb]
   ·cases h
  ·cases h
 ·rename_i elem a len c k i hu;split at h
  ·rename_i n hn;split at h
   ·rename_i hb;simp only [Option.some.injEq] at h;subst h;cases hi with
    | int =>
    cases hx with
    | slc _ _ _ b _ h1 h2 =>
     refine Snd.same hR (v' := .pointer (some (b.add (i.toNat * n)))) ?_ (.ptr _ _ h1 (zcn _ (fun ⟨o, ho, ht⟩ => (h2 o ho ht).1)));simp only [Instr.indexAt, asIntOf, Sem.run_bind, Sem.run_pure, run_underlying hu, Result.andThen_ok, Sem.run_ite, z03 hn];rw [if_pos hb]
   ·cases h
  ·cases h
 ·cases h
def zcr (P : Program) (t : TypeId) (x i : Value) : Option Value :=
 match P.underlying t, x, i with
 | some (.array len elem), .agg cs, .int _ i =>
  match z1W P elem with
  | some n => if 0 ≤ i ∧ i < len then z2H P elem cs.toList (i.toNat * n) else none
  | none => none
 | some .string, .string s, .int _ i => if 0 ≤ i then (s.data.toList[i.toNat]?).map fun b => .int .u8 b.toNat else none
 | _, _, _ => none
theorem z9H (hR : Rel W0 C nx H w) {t : TypeId} {x x' i i' v : Value} (h : zcr P t x i = some v) (hx : VR nx H C x x') (hi : VR nx H C i i') : Snd W0 C nx H ((Instr.index t x' i').run P w) v .none := by
 unfold zcr at h;split at h
 ·rename_i len elem cs k i hu;split at h
  ·rename_i n hn;split at h
   ·rename_i hb;cases hi with
    | int =>
    cases hx with
    | agg a a' ha h1 =>
     have hv : VRs nx H C cs.toList a'.toList := ⟨by simpa using ha, fun i p q => h1 i (by simpa using p) (by simpa using q)⟩;obtain ⟨v', e, hvv⟩ := z0S h hv;refine Snd.same hR (v' := v') ?_ hvv;have e' := e w;simp only [Array.toArray_toList] at e';simp only [Instr.index, asIntOf, Sem.run_bind, Sem.run_pure, run_underlying hu, Result.andThen_ok, Sem.run_ite, z03 hn];rw [if_pos hb];exact e'
   ·cases h
  ·cases h
 ·rename_i s k i hu;split at h
  ·rename_i hb;simp only [Option.map_eq_some_iff] at h;obtain ⟨b, hb2, rfl⟩ := h;cases hi with
   | int =>
   cases hx with
   | string =>
    refine Snd.same hR (v' := .int .u8 b.toNat) ?_ (.int _ _)
    have hs : s[i.toNat]? = some b := by
     have hlt : i.toNat < s.data.size := by
      have := (List.getElem?_eq_some_iff.1 hb2).1; simpa using this
     have : s[i.toNat]? = some (s[i.toNat]'hlt) := getElem?_pos s i.toNat hlt;rw [this];obtain ⟨h1, h2⟩ := List.getElem?_eq_some_iff.1 hb2;rw [← h2];rfl
    simp only [Instr.index, asIntOf, Sem.run_bind, Sem.run_pure, run_underlying hu, Result.andThen_ok, hb, if_true, hs]
  ·cases h
 ·cases h
end
end Go.Am
