import Derived.Test.YtjgbcpagfghfnaaQYM11
import Derived.ProofKit
import Derived.OpenShut
import Derived.Carry
import Derived.Test.YtjgbcpagfghfnaaQYM12
import Derived.Test.YtjgbcpagfghfnaaQYM13
import Derived.Test.YtjgbcpagfghfnaaQYM14
set_option linter.unusedVariables false
set_option linter.unusedSimpArgs false
set_option linter.unnecessarySimpa false
namespace Go.Am
open Go.RowKit Go.ChangeShapes Go.WideShapes Go.ChangeAt
section
variable {H : Type} {enc : TypeId × Value → H} {P : Program} {W W' : World}
theorem z8e (hl : laidOutB P = true) (hb : BelD W.heap.size W W') : ∀ (ts : List TypeId) (vs : List Value) (ds : List (DataW H)) (ps : List MemPlace), (ts.all fun t => P.readableRec t && decide (t < P.types.size)) = true →
  DataW.TrodAll enc P W 0 (fun _ => true) true ts vs ds ps → (∀ x ∈ ps, x.block < W.heap.size) → DataW.TrodAll enc P W' 0 (fun b => decide (b < W.heap.size)) true ts vs ds ps := by
 intro ts
 induction ts with
 | nil =>
  intro vs ds ps _ h _;cases vs <;> cases ds <;> first | exact h | exact h.elim
 | cons t ts ih =>
  intro vs ds ps hr h hlt;simp only [List.all_cons, Bool.and_eq_true, decide_eq_true_eq] at hr;obtain ⟨v, vs', d, ds', p, q, rfl, rfl, rfl, h0, h1⟩ := trodAll_cons h;exact trodAll_cons_mk (Below.trod hl hr.1.1 hr.1.2 h0 hb.toB (fun x hx => hlt x (List.mem_append.2 (.inl hx)))) (ih vs' ds' q hr.2 h1 (fun x hx => hlt x (List.mem_append.2 (.inr hx))))
theorem zdW {f : Func} {s : ChangeSpec} {t : TypeId} {args : Array Value} {ds gs : List (DataW H)} {before : List MemPlace} (hl : laidOutB P = true) (hr : (f.params.toList.all fun t => P.readableRec t && decide (t < P.types.size)) = true)
  (hrt : f.resultTypes = #[t]) (ht : P.underlying t = some .bool) (hvars : s.vars = []) (hW : DataW.Whole enc P f.params.toList s.vars false W args.toList ds gs before)
  (hspec : s.fn H (ds ++ gs) = { results := [.lit (.bool true)], args := ds }) (hb : BelD W.heap.size W W') : s.post enc P f false true false false W args (.bool true) W' := by
 have hW' := hW;obtain ⟨p, q, hA, hV, rfl, _, _⟩ := hW;have hlt : ∀ x ∈ p, x.block < W.heap.size := fun x hx => hW'.lt x (List.mem_append.2 (.inl hx));rw [hvars] at hV;obtain ⟨rfl, rfl⟩ := trodVars_none hV;refine ⟨ds, [], _, [], p, [], hW', ?_, ?_, ?_, hb.toB.frame _, fun h => by cases h⟩
 ·rw [hspec, hrt];exact trodAll_mk1 (shut_bool ht _)
 ·rw [hspec];exact z8e hl hb _ _ _ _ hr hA hlt
 ·rw [hspec, hvars]; rfl
end
end Go.Am
namespace Go.Am
open Go.RowKit Go.ChangeShapes Go.WideShapes Go.ChangeAt
inductive Arg where
 | plain (v : Value)
 | ints (k : IntKind) (xs : List Int)
def NumsAt (H : Heap) (k : IntKind) (v : Value) (xs : List Int) : Prop :=
 (∃ c, v = .slice none 0 c ∧ xs = []) ∨ ∃ a c, v = .slice (some a) xs.length c ∧ ∀ (i : Nat) (h : i < xs.length), zf H ⟨a.block, a.off + i, a.spot⟩ (.int k xs[i])
def zho (H : Heap) (v : Value) : Prop := v = .slice none 0 0 ∨ ∃ k n c cs, v = .slice (some ⟨k, 0, none⟩) n c ∧ H k = some (.cells cs 1 none true none) ∧ cs.length = c ∧ n ≤ c
def z8d (W : World) : Arg → Value → Prop
 | .plain u, v => v = u ∧ zK u = true
 | .ints k xs, v => (v = .slice none 0 0 ∧ xs = []) ∨ ∃ (b off len cap : Nat) (zs : List Int) (Cc : Array Value) (el : TypeId) (fr : Nat × Nat), v = .slice (some ⟨b, off, none⟩) len cap ∧ len ≤ cap ∧ zs.length = cap ∧ xs = zs.take len ∧
   W.heap[b]? = some (.cells Cc el fr) ∧ off + cap ≤ Cc.size ∧ ∀ i, i < cap → Cc[off + i]? = some (.int k (zs.getD i 0))
def Arg.at (H : Heap) : Arg → Value → Prop
 | .plain u, v => v = u
 | .ints k xs, v => NumsAt H k v xs ∧ zho H v
def All2 {α β : Type} (R : α → β → Prop) : List α → List β → Prop
 | [], [] => True
 | a :: l, b :: l' => R a b ∧ All2 R l l'
 | _, _ => False
theorem All2.cons {α β : Type} {R : α → β → Prop} {a : α} {l : List α} {us : List β} (h : All2 R (a :: l) us) : ∃ b us', us = b :: us' ∧ R a b ∧ All2 R l us' := by
 cases us with
 | nil => exact h.elim
 | cons b us => exact ⟨b, us, rfl, h.1, h.2⟩
theorem All2.nil {α β : Type} {R : α → β → Prop} {us : List β} (h : All2 R [] us) : us = [] := by
 cases us with
 | nil => rfl
 | cons b us => exact h.elim
section
variable {P : Program} {W0 : World} {C : Corr} {nx : Nat} {H : Heap} {w : World}
theorem Rel.read (h : Rel W0 C nx H w) (hpn : ∀ k, C.pin k = none) (hro : ∀ id o, H id = some o → o.ro = true) {c : List Value} {b off : Nat} {Cc : Array Value} {el : TypeId} {fr : Nat × Nat} (hw : w.heap[b]? = some (.cells Cc el fr)) (hle : off + c.length ≤ Cc.size)
  (hp : c.all zK = true) (hc : ∀ i, i < c.length → Cc[off + i]? = c[i]?) :
  Rel W0 (C.put nx (b, off) Cc.size) (nx + 1) (H.put nx (.cells c 1 none true none)) w ∧ Stp nx H C (nx + 1) (H.put nx (.cells c 1 none true none)) (C.put nx (b, off) Cc.size) := by
 have hst : Stp nx H C (nx + 1) (H.put nx (.cells c 1 none true none)) (C.put nx (b, off) Cc.size) := ⟨⟨by omega, fun id o' hid ho' ht => by
  have : id ≠ nx := by omega
  simp only [Heap.put, this, if_false] at ho';exact ⟨o', ho', rfl, rfl, by simp [Corr.put, this], by simp [Corr.put, this]⟩⟩, fun _ _ x => x, fun id hid hl => by
  have : id ≠ nx := by omega
  simp only [Heap.put, this, if_false];exact ⟨hl, by simp [Corr.put, this]⟩⟩
 have hro' : ∀ id o, (H.put nx (.cells c 1 none true none)) id = some o → o.ro = true := by
  intro id o ho;by_cases e : id = nx
  ·simp only [Heap.put, e, if_true, Option.some.injEq] at ho; subst ho; rfl
  ·simp only [Heap.put, e, if_false] at ho; exact hro id o ho
 refine ⟨⟨h.below, ?_, ?_, ?_, ?_, h.pin, Nat.le_succ_of_le h.base, fun g og hg hog => ?_, fun _ _ _ => hpn _⟩, hst⟩
 ·intro id o' ho';by_cases e : id = nx
  ·subst e;simp only [Heap.put, if_true, Option.some.injEq] at ho';subst ho';exact ⟨by omega, fun t ht => by cases ht⟩
  ·simp only [Heap.put, e, if_false] at ho';obtain ⟨a, b⟩ := h.lt id o' ho';exact ⟨by omega, fun t ht => by have := b t ht; omega⟩
 ·intro id o' ho';by_cases e : id = nx
  ·subst e;simp only [Heap.put, if_true, Option.some.injEq] at ho';subst ho';refine ⟨Cc, el, fr, by simpa [Corr.put] using hw, by simp [Corr.put], by simpa [Corr.put] using hle, ?_, ⟨fun hh => (by cases hh), fun t ht => (by cases ht), fun hh => (by cases hh), fun hh => (by cases hh)⟩⟩;intro i hi hi';simp only [Corr.put, if_true] at hi' ⊢;have := hc i hi;rw [Array.getElem?_eq_getElem hi', List.getElem?_eq_getElem hi, Option.some.injEq] at this;rw [this];exact z3j (List.all_eq_true.1 hp _ (List.getElem_mem hi))
  ·simp only [Heap.put, e, if_false] at ho';exact (h.obj id o' ho').mono hst (by simp [Corr.put, e]) (by simp [Corr.put, e]) rfl
 ·intro id o' ho' hh;rw [hro' id o' ho'] at hh; cases hh
 ·intro i j oi oj hi _ _ hh;rw [hro' i oi hi] at hh; cases hh
 ·have e : g ≠ nx := by have := h.base; omega
  simp only [Heap.put, e, if_false] at hog;simpa [Corr.put, e] using h.glob g og hg hog
theorem NumsAt.mono {H' : Heap} {k : IntKind} {v : Value} {xs : List Int} (hh : ∀ id o, H id = some o → H' id = some o) (h : NumsAt H k v xs) : NumsAt H' k v xs := by
 rcases h with h | ⟨a, c, rfl, h⟩
 ·exact .inl h
 ·refine .inr ⟨a, c, rfl, fun i hi => ?_⟩;have h1 := h i hi;obtain ⟨o, ho⟩ := z5c h1;unfold zf z1f at *;rw [hh _ _ ho];rw [ho] at h1;exact h1
theorem Arg.at_mono {H' : Heap} (hh : ∀ id o, H id = some o → H' id = some o) : ∀ {a : Arg} {v : Value}, a.at H v → a.at H' v := by
 intro a v h;cases a with
 | plain u => exact h
 | ints k xs =>
  refine ⟨h.1.mono hh, ?_⟩;rcases h.2 with h | ⟨k, n, c, cs, h1, h2, h3⟩
  ·exact .inl h
  ·exact .inr ⟨k, n, c, cs, h1, hh _ _ h2, h3⟩
theorem All2.at_mono {H' : Heap} (hh : ∀ id o, H id = some o → H' id = some o) : ∀ {aas : List Arg} {vs : List Value}, All2 (Arg.at H) aas vs → All2 (Arg.at H') aas vs := by
 intro aas
 induction aas with
 | nil => intro vs h; cases vs <;> first | trivial | exact h.elim
 | cons a aas ih =>
  intro vs h;cases vs with
  | nil => exact h.elim
  | cons v vs => exact ⟨Arg.at_mono hh h.1, ih h.2⟩
theorem zdM {fits : TypeId → Bool} : ∀ (d : Nat) (e : TypeId) (count off n : Nat), rowAt P fits d e count off n = true → P.cellsOf e ≠ 0 ∧ off ≤ count * P.cellsOf e := by
 intro d;cases d with
 | zero => intro e count off n h; cases h
 | succ d =>
  intro e count off n h;simp only [rowAt] at h;split at h
  ·cases h
  ·rename_i hs;refine ⟨hs, ?_⟩;have hd := Nat.div_add_mod off (P.cellsOf e);simp only [Bool.or_eq_true, Bool.and_eq_true, beq_iff_eq, decide_eq_true_eq] at h;rcases h with ⟨⟨h1, h2⟩, _⟩ | ⟨h1, _⟩
   ·have := Nat.mul_le_mul_right (P.cellsOf e) (show off / P.cellsOf e ≤ count by omega);rw [h1, Nat.mul_comm] at hd;omega
   ·have := Nat.mul_le_mul_right (P.cellsOf e) (show off / P.cellsOf e + 1 ≤ count by omega);have hm := Nat.mod_lt off (Nat.pos_of_ne_zero hs);rw [Nat.add_mul, Nat.mul_comm (off / _)] at this;omega
theorem z94 : ∀ (d : Nat) (e : TypeId) (count off : Nat) (u : TypeId) (n : Nat), liesAt P d e count off u n = true → off ≤ count * P.cellsOf e := by
 intro d
 induction d with
 | zero => intro e count off u n h; cases h
 | succ d ih =>
  intro e count off u n h;simp only [liesAt, Bool.or_eq_true] at h;rcases h with h | h
  ·exact (zdM _ _ _ _ _ h).2
  ·split at h
   ·exact ih _ _ _ _ _ h
   ·cases h
variable {E : Type} {enc : TypeId × Value → E} {W : World}
theorem z9d {t e : TypeId} {k : IntKind} {r : Reach} {b0 : Nat} {v : Value} {d : DataW E} {ps : List MemPlace} (ht : P.underlying t = some (.slice e)) (he : P.underlying e = some (.int k)) (hc : P.cellsOf e = 1)
  (hval : Value.okWide P W r b0 t v) (h : DataW.Trod enc P W 0 (fun _ => true) true t v d ps) : ∃ xs, z8d W (.ints k xs) v ∧ ∀ x ∈ xs, (Lit.int k x).wf = true := by
 obtain ⟨a0, len0, cap0, rfl⟩ := okWide_slice ht hval;obtain ⟨fuel, hf⟩ := h;simp only [Value.okWide, ht, Cell.okWide] at hval;rcases open_ints ht he hc hf with ⟨h1, _⟩ | ⟨a, len, cap, zs, h1, _, hle, hmax, hz, hx, hcell, hwf⟩
 ·simp [Value.cells] at h1;obtain ⟨rfl, rfl, rfl⟩ := h1;exact ⟨[], .inl ⟨rfl, rfl⟩, fun x hx => by cases hx⟩
 ·simp [Value.cells] at h1;obtain ⟨rfl, rfl, rfl⟩ := h1;simp only [if_true] at hz
  have hok : len0 ≤ cap0 ∧ (cap0 : Int) ≤ IntKind.i64.max ∧ W.has P r b0 a e cap0 := by
   simpa [Cell.ok, ht] using hval
  obtain ⟨_, _, _, hsp, row, cells, hsh, hlies⟩ := hok;obtain ⟨b, off, sp⟩ := a;simp only at hsp;subst hsp;simp only [World.shape?] at hsh;split at hsh
  case h_2 => cases hsh
  rename_i Cc el fr hw;simp only [Option.some.injEq, Prod.mk.injEq] at hsh;obtain ⟨rfl, rfl⟩ := hsh
  have hoff : off ≤ Cc.size := by
   have h1 := z94 _ _ _ _ _ _ hlies;have h2 := Nat.div_mul_le_self Cc.size (P.cellsOf el);exact Nat.le_trans h1 h2
  have hcells : ∀ i, i < cap0 → Cc[off + i]? = some (.int k (zs.getD i 0)) := fun i hi => by
   have := hcell i (by omega);simpa [z0K, World.cell?, hw] using this
  have hle2 : off + cap0 ≤ Cc.size := by
   rcases Nat.eq_zero_or_pos cap0 with h0 | h0
   ·omega
   ·have := hcells (cap0 - 1) (by omega);have := (Array.getElem?_eq_some_iff.1 this).1;omega
  exact ⟨zs.take len0, .inr ⟨b, off, len0, cap0, zs, Cc, el, fr, rfl, hle, hz, rfl, hw, hle2, hcells⟩, fun x hx => hwf x (List.mem_of_mem_take hx)⟩
end
end Go.Am
namespace Go.Am
open Go.RowKit
theorem z0p {nx : Nat} {H : Heap} {o : AObj} : Ext nx H (nx + 1) (H.put nx o) := (Ext.refl.up (Nat.le_succ _)).put (Nat.le_refl _)
theorem zet {H : Heap} {nx : Nat} {o : AObj} (hok : ∀ id o, H id = some o → id < nx) : ∀ id o', (H.put nx o) id = some o' → id < nx + 1 := fun id o' h => by
 by_cases hi : id = nx
 ·omega
 ·rw [zj hi] at h;have := hok id o' h;omega
def RowsAt {α : Type} (enc : α → List Value) (sz : Nat) (H : Heap) (v : Value) (l : List α) : Prop :=
 (∃ c, v = .slice none 0 c ∧ l = []) ∨ ∃ a c, v = .slice (some a) l.length c ∧ ∀ (i : Nat) (h : i < l.length), z1f H ⟨a.block, a.off + i * sz, a.spot⟩ sz = some (enc l[i])
section
variable {α : Type} {enc : α → List Value} {sz : Nat} {H H' : Heap} {nx nx' : Nat} {v : Value} {l : List α}
theorem RowsAt.ext (h : Ext nx H nx' H') (hok : ∀ id o, H id = some o → id < nx) (hr : RowsAt enc sz H v l) : RowsAt enc sz H' v l := by
 rcases hr with h1 | ⟨a, c, rfl, hs⟩
 ·exact .inl h1
 ·exact .inr ⟨a, c, rfl, fun i hi => z2v h hok (hs i hi)⟩
theorem RowsAt.slice (h : RowsAt enc sz H v l) : ∃ a c, v = .slice a l.length c := by
 rcases h with ⟨c, rfl, rfl⟩ | ⟨a, c, rfl, _⟩
 ·exact ⟨none, c, rfl⟩
 ·exact ⟨some a, c, rfl⟩
theorem z7Z (hk : ∀ x, (enc x).length = sz) (h0 : 0 < sz) (h : RowsAt enc sz H v l) : z2V H sz v none = some (l.length, l.flatMap enc) := by
 rcases h with ⟨c, rfl, rfl⟩ | ⟨a, c, rfl, hs⟩
 ·rfl
 ·by_cases hl : l.length = 0
  ·have : l = [] := List.eq_nil_of_length_eq_zero hl;subst this;show (if 0 * sz = 0 then some (0, []) else _) = _;rw [if_pos (by omega)];rfl
  ·have key : ∀ m (hm : m ≤ l.length), z1f H a (m * sz) = some ((l.take m).flatMap enc) := by
    intro m
    induction m with
    | zero =>
     intro _;have h1 := hs 0 (by omega);unfold z1f at h1 ⊢;split at h1
     ·rename_i c' e t r q ho;simp only [ho];split at h1
      ·rename_i hc;simp only [Nat.zero_mul, Nat.add_zero] at hc ⊢;rw [if_pos ⟨hc.1, by omega⟩];rfl
      ·cases h1
     all_goals cases h1
    | succ m ih =>
     intro hm;have h1 := hs m (by omega);have h2 := ih (by omega);unfold z1f at h1 h2 ⊢;split at h1
     ·rename_i c' e t r q ho;simp only [ho] at h2 ⊢;split at h1
      ·rename_i hc;split at h2
       ·rw [if_pos ⟨hc.1, by have := hc.2; simp only at this; rw [Nat.add_mul]; omega⟩];simp only [Option.some.injEq] at h1 h2 ⊢;rw [Nat.add_mul, Nat.one_mul, List.take_add, h2, List.drop_drop, h1, List.take_add_one (l := l) (i := m), List.getElem?_eq_getElem (by omega : m < l.length)];show _ = (l.take m ++ [l[m]]).flatMap enc;rw [List.flatMap_append];simp
       ·cases h2
      ·cases h1
     all_goals cases h1
   show (if l.length * sz = 0 then some (l.length, []) else (z1f H a (l.length * sz)).map (l.length, ·)) = _;have : l.length * sz ≠ 0 := Nat.mul_ne_zero hl (by omega);rw [if_neg this, key l.length (Nat.le_refl _), List.take_length];rfl
theorem z52 (hk : ∀ x, (enc x).length = sz) (l : List α) : (l.flatMap enc).length = l.length * sz := by
 induction l with
 | nil => simp
 | cons x l ih => simp only [List.flatMap_cons, List.length_append, hk, ih, List.length_cons, Nat.add_mul]; omega
theorem zfa (hk : ∀ x, (enc x).length = sz) : ∀ (l : List α) (i : Nat) (h : i < l.length), ((l.flatMap enc).drop (i * sz)).take sz = enc l[i] := by
 intro l
 induction l with
 | nil => intro i h; simp at h
 | cons x l ih =>
  intro i h;cases i with
  | zero => simp [← hk x]
  | succ i =>
   rw [List.flatMap_cons, Nat.add_mul, Nat.one_mul, Nat.add_comm, ← List.drop_drop, List.drop_append_of_le_length (by rw [hk]; exact Nat.le_refl _)];rw [show (enc x).drop sz = [] by rw [List.drop_eq_nil_of_le]; rw [hk]; exact Nat.le_refl _];simpa using ih i (by simpa using h)
def OwnOf (enc : α → List Value) (sz : Nat) (el : TypeId) (H : Heap) (ob : Option (Nat × Nat)) (v : Value) (l : List α) : Prop := OwnRow H ob el sz v (l.flatMap enc) l.length
theorem OwnOf.at (hk : ∀ x, (enc x).length = sz) {el : TypeId} {ob : Option (Nat × Nat)} (h : OwnOf enc sz el H ob v l) : RowsAt enc sz H v l := by
 cases ob with
 | none =>
  obtain ⟨rfl, _, h2⟩ := h;exact .inl ⟨0, rfl, List.eq_nil_of_length_eq_zero h2⟩
 | some bt =>
  obtain ⟨b, t⟩ := bt;obtain ⟨rfl, _, rest, ho⟩ := h;refine .inr ⟨⟨b, 0, some t⟩, l.length, rfl, fun i hi => ?_⟩;have hfl := z52 hk l;have : (i + 1) * sz ≤ l.length * sz := Nat.mul_le_mul_right sz hi;rw [Nat.add_mul, Nat.one_mul] at this;unfold z1f;simp only [ho, Nat.zero_add];rw [if_pos ⟨trivial, by rw [List.length_append, hfl]; omega⟩, List.drop_append_of_le_length (by rw [hfl]; omega), List.take_append_of_le_length (by rw [List.length_drop, hfl]; omega), zfa hk l i hi]
theorem OwnOf.ext {el : TypeId} {ob : Option (Nat × Nat)} (hx : Ext nx H nx' H') (hlt : ∀ b t, ob = some (b, t) → b < nx) (h : OwnOf enc sz el H ob v l) : OwnOf enc sz el H' ob v l := OwnRow.ext hx hlt h
end
structure AppO {α : Type} (enc : α → List Value) (sz : Nat) (el : TypeId) (nx : Nat) (H : Heap) (ob : Option (Nat × Nat)) (l : List α) (v' : Value) (nx' : Nat) (H' : Heap) (ob' : Option (Nat × Nat)) : Prop where
 own : OwnOf enc sz el H' ob' v' l
 blk : ∀ b' t', ob' = some (b', t') → b' < nx' ∧ (b' = nx ∨ ∃ t, ob = some (b', t))
 le : nx ≤ nx'
 same : ∀ i, i < nx → (∀ b t, ob = some (b, t) → i ≠ b) → H' i = H i
 ok : (∀ b t, ob = some (b, t) → b < nx) → (∀ id o, H id = some o → id < nx) → ∀ id o, H' id = some o → id < nx'
section
variable {P : Program} {W0 : World} {H : Heap} {nx n : Nat} {ev : Operand → Option Value} {dst : Option Tmp} {type : TypeId} {pos : String} {after : Array Edge} {guard : Option (Nat × Bool)} {ops : Array Oper} {l : List Oper} {tm : Nat → Value} {QQ : ASt → Prop} {d : Tmp}
theorem z62 {α : Type} {enc : α → List Value} {sz bytes : Nat} {z : List Value} {el st xt : TypeId} {ob : Option (Nat × Nat)} {v u : Value} {zs us : List α} {x y : Operand} (hk : ∀ x, (enc x).length = sz) (h1 : ∀ x, (enc x).all (·.oneCell') = true) (h0 : 0 < sz) (hd : d < n) (h : OwnOf enc sz el H ob v zs) (hu : RowsAt enc sz H u us) (hx : ASt.ev ⟨tm, n, H, nx⟩ x = some v) (hy : ASt.ev ⟨tm, n, H, nx⟩ y = some u) (hb : ∀ b t, ob = some (b, t) → b < nx)
  (hst : P.underlying st = some (.slice el)) (hxt : P.underlying xt = some (.slice el)) (hsz : z1W P el = some sz) (hby : z0u P el = some bytes) (hz : z0Y P el = some z) (hzl : z.length = sz) (hle : zs.length + us.length ≤ 1000000) (hbl : bytes ≤ 1000)
  (hc : ∀ v' nx' H' ob', AppO enc sz el nx H ob (zs ++ us) v' nx' H' ob' → OpsL P W0 ops l ⟨zb tm (some d) v', n, H', nx'⟩ QQ) :
  OpsL P W0 ops (⟨some d, .call ⟨.builtin .append, #[x, y], #[st, xt]⟩, type, pos, after, none⟩ :: l) ⟨tm, n, H, nx⟩ QQ := by
 have hsrc := z7Z hk h0 hu
 have hall : ∀ l : List α, (l.flatMap enc).all (·.oneCell') = true := fun l => by
  rw [List.all_eq_true];intro v hv;obtain ⟨x, _, hx⟩ := List.mem_flatMap.1 hv;exact List.all_eq_true.1 (h1 x) v hx
 have hm1 : (2 * (zs.length + us.length) + 192) * bytes ≤ 281474976710656 := by
  have : (2 * (zs.length + us.length) + 192) * bytes ≤ (2 * (zs.length + us.length) + 192) * 1000 := Nat.mul_le_mul_left _ hbl;omega
 by_cases hl0 : us.length = 0
 ·have : us = [] := List.eq_nil_of_length_eq_zero hl0;subst this
  have hop : aop P H nx (ASt.ev ⟨tm, n, H, nx⟩) ⟨some d, .call ⟨.builtin .append, #[x, y], #[st, xt]⟩, type, pos, after, none⟩ = some (v, .none) := by
   cases ob with
   | none =>
    obtain ⟨rfl, _, hz0⟩ := h;simp [aop, hx, hy, z1k, z1o, z3h, hst, hxt, hsz, hby, hz, hzl, hsrc, show z2J (.slice el) = true from rfl]
   | some bt =>
    obtain ⟨b, t⟩ := bt;obtain ⟨rfl, hc', rest, ho⟩ := h;simp [aop, hx, hy, z1k, z1o, z3h, hst, hxt, hsz, hby, hz, hzl, hsrc, ho, show z2J (.slice el) = true from rfl]
  refine zw hd hop (hc v nx H ob ⟨by rw [List.append_nil]; exact h, fun b' t' e => ⟨hb b' t' e, .inr ⟨t', e⟩⟩, Nat.le_refl _, fun _ _ _ => rfl, fun _ h => h⟩)
 ·refine OpsL.append (sz := sz) (bytes := bytes) (k := zs.length) (m := us.length) (cs := zs.flatMap enc) (xs := us.flatMap enc) (ob := ob) (u := u) (xd := .slice el) (v := v) (el := el) (z := z) hd hx hy h hsrc (hall us) hl0 hst hxt rfl hsz hby hz hzl (by omega) hm1 ?_;refine hc _ _ _ (some (z4P nx ob, nx)) ⟨?_, ?_, Nat.le_succ _, ?_, ?_⟩
  ·refine ⟨by rw [List.length_append], ?_, [], ?_⟩
   ·rw [z52 hk]
   ·rw [zu, List.flatMap_append, List.append_nil]
  ·intro b' t' e;cases e;cases ob with
   | none => exact ⟨Nat.lt_succ_self _, .inl rfl⟩
   | some bt => exact ⟨Nat.lt_succ_of_lt (hb bt.1 bt.2 rfl), .inr ⟨bt.2, rfl⟩⟩
  ·intro i hi hib;refine zj ?_;cases ob with
   | none => simp only [z4P]; omega
   | some bt => exact hib bt.1 bt.2 rfl
  ·intro hb' hok id o ho;by_cases e : id = z4P nx ob
   ·subst e;cases ob with
    | none => exact Nat.lt_succ_self _
    | some bt => exact Nat.lt_succ_of_lt (hb' bt.1 bt.2 rfl)
   ·rw [zj e] at ho;exact Nat.lt_succ_of_lt (hok id o ho)
end
end Go.Am
namespace Go.Am
open Go.RowKit
section
variable {P : Program} {W0 : World} {H : Heap} {nx n : Nat} {ev : Operand → Option Value} {dst : Option Tmp} {type : TypeId} {pos : String} {after : Array Edge} {guard : Option (Nat × Bool)}
end
def zhM {α : Type} (enc : α → List Value) (sz : Nat) (el : TypeId) (H : Heap) (ob : Option (Nat × Nat)) (v : Value) (l : List α) : Prop :=
 OwnOf enc sz el H ob v l ∨ (ob = none ∧ l = [] ∧ ∃ b esz ro q, v = .slice (some ⟨b, 0, none⟩) 0 0 ∧ H b = some (.cells [] esz none ro q))
structure AppE {α : Type} (enc : α → List Value) (sz : Nat) (el : TypeId) (nx : Nat) (H : Heap) (ob : Option (Nat × Nat)) (l : List α) (v' : Value) (nx' : Nat) (H' : Heap) (ob' : Option (Nat × Nat)) : Prop where
 own : zhM enc sz el H' ob' v' l
 blk : ∀ b' t', ob' = some (b', t') → b' < nx' ∧ (b' = nx ∨ ∃ t, ob = some (b', t))
 le : nx ≤ nx'
 same : ∀ i, i < nx → (∀ b t, ob = some (b, t) → i ≠ b) → H' i = H i
 ok : (∀ b t, ob = some (b, t) → b < nx) → (∀ id o, H id = some o → id < nx) → ∀ id o, H' id = some o → id < nx'
attribute [local irreducible] aop OpsL Trip zt z1X z1E OpsR
section
variable {P : Program} {W0 : World} {H : Heap} {nx n : Nat} {type : TypeId} {pos : String} {after : Array Edge} {ops : Array Oper} {l : List Oper} {tm : Nat → Value} {QQ : ASt → Prop} {d : Tmp}
end
def z1L (x : Int) : List Value := [.int .i64 x]
theorem zR (x : Int) : (z1L x).length = 1 := rfl
theorem z0I (x : Int) : (z1L x).all (·.oneCell') = true := rfl
theorem z7G {H : Heap} {v : Value} {l : List Int} (h : IntsAt H v l) : RowsAt z1L 1 H v l := by
 rcases h with h | ⟨a, c, rfl, hc⟩
 ·exact .inl h
 ·exact .inr ⟨a, c, rfl, fun i hi => by have := hc i hi; simpa [zf, z1L] using this⟩
theorem z7B {H : Heap} {v : Value} {l : List Int} (h : RowsAt z1L 1 H v l) : IntsAt H v l := by
 rcases h with h | ⟨a, c, rfl, hc⟩
 ·exact .inl h
 ·exact .inr ⟨a, c, rfl, fun i hi => by have := hc i hi; simpa [zf, z1L] using this⟩
section
variable {P : Program} {W0 : World} {H : Heap} {nx n : Nat} {ev : Operand → Option Value} {dst : Option Tmp} {type : TypeId} {pos : String} {after : Array Edge} {guard : Option (Nat × Bool)}
theorem z77 {b k m sz bytes : Nat} {el : TypeId} {u : Value} {cs xs z : List Value} {q : Option TypeId} {ro : Bool} {esz : Nat} {x y : Operand} {st xt : TypeId} {xd : TypeDesc} (hx : ev x = some (.slice (some ⟨b, 0, none⟩) k k)) (hy : ev y = some u)
  (hH : H b = some (.cells cs esz none ro q)) (hc : cs.length = k * sz)
  (hs : z2V H sz u none = some (m, xs)) (h1 : xs.all (·.oneCell') = true) (hm : m ≠ 0) (hst : P.underlying st = some (.slice el)) (hxt : P.underlying xt = some xd) (hxd : z2J xd = true)
  (hsz : z1W P el = some sz) (hby : z0u P el = some bytes) (hz : z0Y P el = some z) (hzl : z.length = sz) (hle : k + m ≤ 1099511627776) (hle2 : (2 * (k + m) + 192) * bytes ≤ 281474976710656) :
  aop P H nx ev ⟨dst, .call ⟨.builtin .append, #[x, y], #[st, xt]⟩, type, pos, after, guard⟩ = some (.slice (some ⟨nx, 0, some nx⟩) (k + m) (k + m), .new (.cells (cs ++ xs) sz (some nx) false (some el))) := by
 have hg : z1f H ⟨b, 0, none⟩ (k * sz) = some cs := by
  unfold z1f;simp only [hH];rw [if_pos ⟨trivial, by omega⟩];simp [← hc]
 simp [aop, hx, hy, z1k, z1o, z3h, hst, hxt, hsz, hby, hz, hxd, hzl, hs, hm, hH, hle, hle2, hg];rw [if_pos (by simpa using h1), if_neg (by omega : ¬ (k + m ≤ k))]
end
section
variable {P : Program} {W0 : World} {H : Heap} {nx n : Nat} {ops : Array Oper} {l : List Oper} {tm : Nat → Value} {QQ : ASt → Prop}
end
end Go.Am
