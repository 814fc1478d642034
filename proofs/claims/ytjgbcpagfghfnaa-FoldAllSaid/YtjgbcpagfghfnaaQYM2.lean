import Derived.WalkKit
import Derived.Test.YtjgbcpagfghfnaaQYM1
set_option linter.unusedVariables false
set_option linter.unusedSimpArgs false
set_option linter.unnecessarySimpa false
namespace Go.Am
open Go.RowKit
structure BelD (B : Nat) (w w' : World) : Prop where
 os : w'.os = w.os
 tape : w'.tape = w.tape
 output : w'.output = w.output
 size : w.heap.size ≤ w'.heap.size
 block : ∀ k, k < B → w'.heap[k]? = w.heap[k]?
 drawn : w.drawn ≤ w'.drawn
theorem BelD.toB {B : Nat} {w w' : World} (h : BelD B w w') : Below B w w' := ⟨h.os, h.tape, h.output, h.size, h.block⟩
theorem BelD.refl (B : Nat) (w : World) : BelD B w w := ⟨rfl, rfl, rfl, Nat.le_refl _, fun _ _ => rfl, Nat.le_refl _⟩
theorem BelD.trans {B : Nat} {a b c : World} (h : BelD B a b) (k : BelD B b c) : BelD B a c :=
 ⟨k.os.trans h.os, k.tape.trans h.tape, k.output.trans h.output, Nat.le_trans h.size k.size, fun i hi => (k.block i hi).trans (h.block i hi), Nat.le_trans h.drawn k.drawn⟩
theorem BelD.drew {B : Nat} {a w : World} (h : BelD B a w) : BelD B a w.drew := ⟨h.os, h.tape, h.output, h.size, h.block, Nat.le_trans h.drawn (Nat.le_succ _)⟩
theorem BelD.alloc {B : Nat} {a w : World} (h : BelD B a w) (hB : B ≤ w.heap.size) (o : Obj) : BelD B a (w.alloc o) :=
 h.trans ⟨rfl, rfl, rfl, by simp, fun k hk => Below.heap_alloc _ _ _ (by omega), Nat.le_refl _⟩
inductive AObj where
 | cells (c : List Value) (esz : Nat) (tag : Option Nat) (ro : Bool) (el : Option TypeId)
 | map (es : List (Value × Value)) (bs : List Nat) (clk : Nat)
 | siter (s : ByteArray) (pos : Nat)
 | miter (m : Option Nat) (since : Nat) (seen : List Nat) (last : Nat)
 | loop (stt : LoopState) (pend : Option Code) (tt : Tree Value) (n : Nat) (ps : List Tmp) (asg body : Code)
def z6y : Option AObj → Bool
 | some (.loop _ _ _ _ _ _ _) => true
 | _ => false
def AObj.tag : AObj → Option Nat
 | .cells _ _ t _ _ => t
 | _ => none
def AObj.esz : AObj → Nat
 | .cells _ e _ _ _ => e
 | _ => 0
def AObj.ro : AObj → Bool
 | .cells _ _ _ r _ => r
 | _ => false
abbrev Heap := Nat → Option AObj
def Heap.put (H : Heap) (k : Nat) (o : AObj) : Heap := fun i => if i = k then some o else H i
structure Corr where
 loc : Nat → Nat × Nat
 siz : Nat → Nat
 pin : Nat → Option Obj
def Corr.at (C : Corr) (a : Addr) : Addr := ⟨(C.loc a.block).1, (C.loc a.block).2 + a.off, none⟩
def Corr.put (C : Corr) (k : Nat) (l : Nat × Nat) (s : Nat) : Corr := ⟨fun i => if i = k then l else C.loc i, fun i => if i = k then s else C.siz i, C.pin⟩
def Corr.re (C : Corr) (p : Nat → Option Obj) : Corr := ⟨C.loc, C.siz, p⟩
def okA (nx : Nat) (a : Addr) : Prop := a.block < nx ∧ ∀ t, a.spot = some t → t < nx
def zeJ (H : Heap) (a : Addr) : Prop := ∃ o, H a.block = some o ∧ o.tag = a.spot
def z27 (C : Corr) (o : AObj) (a : Addr) (len cap cap' : Nat) : Prop :=
 match a.spot with
 | none => cap' = cap
 | some _ => len ≤ cap' ∧ (C.loc a.block).2 + a.off + cap' * o.esz ≤ C.siz a.block
inductive VR (nx : Nat) (H : Heap) (C : Corr) : Value → Value → Prop where
 | bool (b : Bool) : VR nx H C (.bool b) (.bool b)
 | int (k : IntKind) (n : Int) : VR nx H C (.int k n) (.int k n)
 | string (s : ByteArray) : VR nx H C (.string s) (.string s)
 | nilFunc : VR nx H C .nilFunc .nilFunc
 | nilIface : VR nx H C .nilIface .nilIface
 | nilp : VR nx H C (.pointer none) (.pointer none)
 | ptr (a b : Addr) (h1 : okA nx a) (h2 : zeJ H a → b = C.at a) : VR nx H C (.pointer (some a)) (.pointer (some b))
 | nils (l c : Nat) : VR nx H C (.slice none l c) (.slice none l c)
 | slc (a : Addr) (len cap : Nat) (b : Addr) (cap' : Nat) (h1 : okA nx a)
   (h2 : ∀ o, H a.block = some o → o.tag = a.spot → b = C.at a ∧ z27 C o a len cap cap') :
   VR nx H C (.slice (some a) len cap) (.slice (some b) len cap')
 | nilm : VR nx H C (.map none) (.map none)
 | map (r r' : Nat) (h1 : r < nx) (h2 : ∀ o, H r = some o → o.tag = none → r' = (C.loc r).1) : VR nx H C (.map (some r)) (.map (some r'))
 | func (fn : Fn) (a a' b b' : Array Value) (ha : a.size = a'.size) (hb : b.size = b'.size)
   (h1 : ∀ (i : Nat) (h : i < a.size) (h' : i < a'.size), VR nx H C a[i] a'[i])
   (h2 : ∀ (i : Nat) (h : i < b.size) (h' : i < b'.size), VR nx H C b[i] b'[i]) : VR nx H C (.func fn a b) (.func fn a' b')
 | yld (l l' : Nat) (h1 : l < nx) (h2 : ∀ o, H l = some o → o.tag = none → l' = (C.loc l).1) : VR nx H C (.chan (some l)) (.func (.yield l') #[] #[])
 | iface (t : TypeId) (v v' : Value) (h : VR nx H C v v') : VR nx H C (.iface t v) (.iface t v')
 | agg (a a' : Array Value) (ha : a.size = a'.size) (h1 : ∀ (i : Nat) (h : i < a.size) (h' : i < a'.size), VR nx H C a[i] a'[i]) : VR nx H C (.agg a) (.agg a')
 | tuple (a a' : Array Value) (ha : a.size = a'.size) (h1 : ∀ (i : Nat) (h : i < a.size) (h' : i < a'.size), VR nx H C a[i] a'[i]) : VR nx H C (.tuple a) (.tuple a')
def VRs (nx : Nat) (H : Heap) (C : Corr) (l l' : List Value) : Prop := l.length = l'.length ∧ ∀ (i : Nat) (h : i < l.length) (h' : i < l'.length), VR nx H C l[i] l'[i]
structure Stp0 (nx : Nat) (H : Heap) (C : Corr) (nx' : Nat) (H' : Heap) (C' : Corr) : Prop where
 le : nx ≤ nx'
 keep : ∀ id o', id < nx → H' id = some o' → (∀ t, o'.tag = some t → t < nx) → ∃ o, H id = some o ∧ o.tag = o'.tag ∧ o.esz = o'.esz ∧ C'.loc id = C.loc id ∧ C'.siz id = C.siz id
structure Stp (nx : Nat) (H : Heap) (C : Corr) (nx' : Nat) (H' : Heap) (C' : Corr) : Prop extends Stp0 nx H C nx' H' C' where
 pin : ∀ k o, C.pin k = some o → C'.pin k = some o
 fix : ∀ id, id < nx → z6y (H id) = true → z6y (H' id) = true ∧ C'.loc id = C.loc id
theorem Stp0.refl (nx : Nat) (H : Heap) (C : Corr) : Stp0 nx H C nx H C := ⟨Nat.le_refl _, fun _ o' _ h _ => ⟨o', h, rfl, rfl, rfl, rfl⟩⟩
theorem Stp.refl (nx : Nat) (H : Heap) (C : Corr) : Stp nx H C nx H C := ⟨Stp0.refl _ _ _, fun _ _ h => h, fun _ _ h => ⟨h, rfl⟩⟩
theorem Stp0.trans {nx nx' nx'' : Nat} {H H' H'' : Heap} {C C' C'' : Corr} (h : Stp0 nx H C nx' H' C') (k : Stp0 nx' H' C' nx'' H'' C'') : Stp0 nx H C nx'' H'' C'' :=
 ⟨Nat.le_trans h.le k.le, fun id o' hid ho ht => by
  obtain ⟨o1, h1, t1, e1, l1, s1⟩ := k.keep id o' (Nat.lt_of_lt_of_le hid h.le) ho (fun t hh => Nat.lt_of_lt_of_le (ht t hh) h.le);obtain ⟨o2, h2, t2, e2, l2, s2⟩ := h.keep id o1 hid h1 (fun t hh => ht t (t1 ▸ hh));exact ⟨o2, h2, t2.trans t1, e2.trans e1, l1.trans l2, s1.trans s2⟩⟩
theorem Stp.trans {nx nx' nx'' : Nat} {H H' H'' : Heap} {C C' C'' : Corr} (h : Stp nx H C nx' H' C') (k : Stp nx' H' C' nx'' H'' C'') : Stp nx H C nx'' H'' C'' :=
 ⟨h.toStp0.trans k.toStp0, fun i o x => k.pin i o (h.pin i o x), fun id hid hl => by
  obtain ⟨a, b⟩ := h.fix id hid hl;obtain ⟨c, d⟩ := k.fix id (Nat.lt_of_lt_of_le hid h.le) a;exact ⟨c, d.trans b⟩⟩
theorem okA.mono {nx nx' : Nat} {a : Addr} (h : okA nx a) (hle : nx ≤ nx') : okA nx' a := ⟨Nat.lt_of_lt_of_le h.1 hle, fun t ht => Nat.lt_of_lt_of_le (h.2 t ht) hle⟩
theorem VR.mono0 {nx nx' : Nat} {H H' : Heap} {C C' : Corr} {v v' : Value} (h : VR nx H C v v') (k : Stp0 nx H C nx' H' C') : VR nx' H' C' v v' := by
 induction h with
 | bool b => exact .bool b
 | int k n => exact .int k n
 | string s => exact .string s
 | nilFunc => exact .nilFunc
 | nilIface => exact .nilIface
 | nilp => exact .nilp
 | ptr a b h1 h2 =>
  refine .ptr a b (h1.mono k.le) ?_;rintro ⟨o', ho', ht'⟩;obtain ⟨o, ho, ht, _, hl, _⟩ := k.keep a.block o' h1.1 ho' (fun t hh => h1.2 t (ht' ▸ hh));rw [h2 ⟨o, ho, ht.trans ht'⟩];simp [Corr.at, hl]
 | nils l c => exact .nils l c
 | slc a len cap b cap' h1 h2 =>
  refine .slc a len cap b cap' (h1.mono k.le) ?_;intro o' ho' ht';obtain ⟨o, ho, ht, he, hl, hs⟩ := k.keep a.block o' h1.1 ho' (fun t hh => h1.2 t (ht' ▸ hh));obtain ⟨e1, e2⟩ := h2 o ho (ht.trans ht');refine ⟨by rw [e1]; simp [Corr.at, hl], ?_⟩;unfold z27 at *;rw [hl, hs, ← he];exact e2
 | nilm => exact .nilm
 | map r r' h1 h2 =>
  refine .map r r' (Nat.lt_of_lt_of_le h1 k.le) ?_;intro o' ho' ht';obtain ⟨o, ho, ht, he, hl, hs⟩ := k.keep r o' h1 ho' (fun t hh => by rw [ht'] at hh; cases hh);rw [h2 o ho (ht.trans ht'), hl]
 | func fn a a' b b' ha hb _ _ i1 i2 => exact .func fn a a' b b' ha hb i1 i2
 | yld r r' h1 h2 =>
  refine .yld r r' (Nat.lt_of_lt_of_le h1 k.le) ?_;intro o' ho' ht';obtain ⟨o, ho, ht, he, hl, hs⟩ := k.keep r o' h1 ho' (fun t hh => by rw [ht'] at hh; cases hh);rw [h2 o ho (ht.trans ht'), hl]
 | iface t v v' _ ih => exact .iface t v v' ih
 | agg a a' ha _ ih => exact .agg a a' ha ih
 | tuple a a' ha _ ih => exact .tuple a a' ha ih
theorem VR.mono {nx nx' : Nat} {H H' : Heap} {C C' : Corr} {v v' : Value} (h : VR nx H C v v') (k : Stp nx H C nx' H' C') : VR nx' H' C' v v' := h.mono0 k.toStp0
theorem VRs.mono {nx nx' : Nat} {H H' : Heap} {C C' : Corr} {v v' : List Value} (h : VRs nx H C v v') (k : Stp nx H C nx' H' C') : VRs nx' H' C' v v' :=
 ⟨h.1, fun i a b => (h.2 i a b).mono k⟩
def FrOk (fr : Nat × Nat) (n : Nat) : Prop := fr.1 = fr.2 ∨ n ≤ fr.1
theorem FrOk.no {fr : Nat × Nat} {n : Nat} (h : FrOk fr n) : ∀ i, i < n → ¬ (fr.1 ≤ i ∧ i < fr.2) := by
 intro i hi;rcases h with h | h <;> omega
def ORel (nx : Nat) (H : Heap) (C : Corr) (w : World) (id : Nat) : AObj → Prop
 | .cells c esz tag ro q => ∃ Cc el fr, w.heap[(C.loc id).1]? = some (.cells Cc el fr) ∧ Cc.size = C.siz id ∧ (C.loc id).2 + c.length ≤ Cc.size ∧
   (∀ (i : Nat) (h : i < c.length) (h' : (C.loc id).2 + i < Cc.size), VR nx H C c[i] Cc[(C.loc id).2 + i]) ∧ ((ro = false → FrOk fr Cc.size) ∧ (∀ t, q = some t → el = t) ∧ (ro = false → tag = none → (C.loc id).2 = 0 ∧ Cc.size = c.length) ∧ (ro = false → esz = 1 ∨ fr = (0, 0)))
 | .map es bs clock => ∃ es', w.heap[(C.loc id).1]? = some (.map es' clock) ∧ es'.size = es.length ∧
   (∀ (i : Nat) (h : i < es.length) (h' : i < es'.size), VR nx H C es[i].1 es'[i].key ∧ VR nx H C es[i].2 es'[i].val) ∧ es'.toList.map (·.born) = bs
 | .siter s pos => w.heap[(C.loc id).1]? = some (.stringIter s pos) ∧ (C.loc id).2 = 0
 | .miter m since seen last => ∃ m', w.heap[(C.loc id).1]? = some (.mapIter m' since seen.toArray last) ∧ (C.loc id).2 = 0 ∧ VR nx H C (.map m) (.map m')
 | .loop stt pend tt n ps asg body => ∃ r : Loop, w.heap[(C.loc id).1]? = some (.loop r) ∧ (C.loc id).2 = 0 ∧ r.state = stt ∧ r.pending = pend ∧ r.tmps.size = n ∧ r.params.toList = ps ∧ r.assign = asg ∧ r.body = body ∧
   ∀ t, VR nx H C ((tt.get t).getD undef) (r.tmps.getD t undef)
def NG : Nat := 16
structure Rel (W0 : World) (C : Corr) (nx : Nat) (H : Heap) (w : World) : Prop where
 below : BelD W0.heap.size W0 w
 lt : ∀ id o, H id = some o → id < nx ∧ ∀ t, o.tag = some t → t < nx
 obj : ∀ id o, H id = some o → ORel nx H C w id o
 own : ∀ id o, H id = some o → o.ro = false → W0.heap.size ≤ (C.loc id).1 ∧ C.pin (C.loc id).1 = none
 sep : ∀ i j oi oj, H i = some oi → H j = some oj → i ≠ j → oi.ro = false → (C.loc i).1 ≠ (C.loc j).1
 pin : ∀ k o, C.pin k = some o → W0.heap.size ≤ k ∧ w.heap[k]? = some o
 base : NG ≤ nx
 glob : ∀ g o, g < NG → H g = some o → o.ro = true ∧ C.loc g = (g, 0)
 apin : ∀ id o, H id = some o → C.pin (C.loc id).1 = none
theorem ORel.blk {nx : Nat} {H : Heap} {C : Corr} {w : World} {id : Nat} {o : AObj} (h : ORel nx H C w id o) : (C.loc id).1 < w.heap.size := by
 cases o with
 | cells c e t ro q => obtain ⟨_, _, _, h, _⟩ := h; exact (Array.getElem?_eq_some_iff.1 h).1
 | map es bs ck => obtain ⟨_, h, _⟩ := h; exact (Array.getElem?_eq_some_iff.1 h).1
 | miter m a b c => obtain ⟨_, h, _⟩ := h; exact (Array.getElem?_eq_some_iff.1 h).1
 | siter s p => exact (Array.getElem?_eq_some_iff.1 h.1).1
 | loop a b c d e f g => obtain ⟨_, h, _⟩ := h; exact (Array.getElem?_eq_some_iff.1 h).1
theorem ORel.mono0 {nx nx' : Nat} {H H' : Heap} {C C' : Corr} {w w' : World} {id : Nat} {o : AObj} (h : ORel nx H C w id o) (k : Stp0 nx H C nx' H' C')
  (hl : C'.loc id = C.loc id) (hs : C'.siz id = C.siz id) (hw : w'.heap[(C.loc id).1]? = w.heap[(C.loc id).1]?) : ORel nx' H' C' w' id o := by
 cases o with
 | cells c e t ro q =>
  obtain ⟨Cc, el, fr, h1, h2, h3, h4, h5⟩ := h;unfold ORel;rw [hl, hs, hw];exact ⟨Cc, el, fr, h1, h2, h3, fun i a b => (h4 i a b).mono0 k, h5⟩
 | map es bs clock =>
  obtain ⟨es', h1, h2, h3, h4⟩ := h;unfold ORel;rw [hl, hw];exact ⟨es', h1, h2, fun i a b => ⟨(h3 i a b).1.mono0 k, (h3 i a b).2.mono0 k⟩, h4⟩
 | miter m a b c =>
  obtain ⟨m', h1, h2, h3⟩ := h;unfold ORel;rw [hl, hw];exact ⟨m', h1, h2, h3.mono0 k⟩
 | loop a b c d e f g =>
  obtain ⟨r, h1, h2, h3, h4, h5, h6, h7, h8, h9⟩ := h;unfold ORel;rw [hl, hw];exact ⟨r, h1, h2, h3, h4, h5, h6, h7, h8, fun t => (h9 t).mono0 k⟩
 | siter s p => unfold ORel at *; rw [hl, hw]; exact h
theorem ORel.mono {nx nx' : Nat} {H H' : Heap} {C C' : Corr} {w w' : World} {id : Nat} {o : AObj} (h : ORel nx H C w id o) (k : Stp nx H C nx' H' C')
  (hl : C'.loc id = C.loc id) (hs : C'.siz id = C.siz id) (hw : w'.heap[(C.loc id).1]? = w.heap[(C.loc id).1]?) : ORel nx' H' C' w' id o := h.mono0 k.toStp0 hl hs hw
theorem Rel.new {W0 : World} {C : Corr} {nx : Nat} {H : Heap} {w : World} (h : Rel W0 C nx H w) (o : AObj) (O : Obj) (base siz : Nat)
  (htag : ∀ t, o.tag = some t → t = nx)
  (ho : ∀ C', C' = C.put nx (w.heap.size, base) siz → Stp nx H C (nx + 1) (H.put nx o) C' → ORel (nx + 1) (H.put nx o) C' (w.alloc O) nx o) :
  Rel W0 (C.put nx (w.heap.size, base) siz) (nx + 1) (H.put nx o) (w.alloc O) ∧ Stp nx H C (nx + 1) (H.put nx o) (C.put nx (w.heap.size, base) siz) := by
 have hst : Stp nx H C (nx + 1) (H.put nx o) (C.put nx (w.heap.size, base) siz) := ⟨⟨by omega, fun id o' hid ho' ht => by
  have : id ≠ nx := by omega
  simp only [Heap.put, this, if_false] at ho';exact ⟨o', ho', rfl, rfl, by simp [Corr.put, this], by simp [Corr.put, this]⟩⟩, fun _ _ x => x, fun id hid hl => by
  have : id ≠ nx := by omega
  simp only [Heap.put, this, if_false];exact ⟨hl, by simp [Corr.put, this]⟩⟩
 have hlt := fun id o (ho : H id = some o) => (h.lt id o ho).1
 have hpn : C.pin w.heap.size = none := by
  cases hq : C.pin w.heap.size with
  | none => rfl
  | some o => exact absurd (Array.getElem?_eq_some_iff.1 (h.pin _ _ hq).2).1 (Nat.lt_irrefl _)
 refine ⟨⟨h.below.alloc h.below.size O, ?_, ?_, ?_, ?_, fun k o hk => ⟨(h.pin k o hk).1, (Below.heap_alloc _ _ _ (Array.getElem?_eq_some_iff.1 (h.pin k o hk).2).1).trans (h.pin k o hk).2⟩, Nat.le_succ_of_le h.base, fun g o' hg ho' => ?_, fun id o' ho' => ?_⟩, hst⟩
 ·intro id o' ho';by_cases e : id = nx
  ·subst e;simp only [Heap.put, if_true, Option.some.injEq] at ho';subst ho';exact ⟨by omega, fun t ht => by have := htag t ht; omega⟩
  ·simp only [Heap.put, e, if_false] at ho';obtain ⟨a, b⟩ := h.lt id o' ho';exact ⟨by omega, fun t ht => by have := b t ht; omega⟩
 ·intro id o' ho';by_cases e : id = nx
  ·subst e;simp only [Heap.put, if_true, Option.some.injEq] at ho';subst ho';exact ho _ rfl hst
  ·simp only [Heap.put, e, if_false] at ho';have hb := (h.obj id o' ho').blk;refine (h.obj id o' ho').mono hst (by simp [Corr.put, e]) (by simp [Corr.put, e]) ?_;exact Below.heap_alloc _ _ _ hb
 ·intro id o' ho' hro;by_cases e : id = nx
  ·subst e; simp only [Corr.put, if_true]; exact ⟨h.below.size, hpn⟩
  ·simp only [Heap.put, e, if_false] at ho';simpa [Corr.put, e] using h.own id o' ho' hro
 ·intro i j oi oj hi hj hne hro;by_cases e : i = nx
  ·have e2 : j ≠ nx := fun x => hne (e.trans x.symm);simp only [Heap.put, e2, if_false] at hj;have := (h.obj j oj hj).blk;simp only [Corr.put, e, e2, if_true, if_false];omega
  ·simp only [Heap.put, e, if_false] at hi;have hbi := (h.obj i oi hi).blk;by_cases e2 : j = nx
   ·simp only [Corr.put, e, e2, if_true, if_false];omega
   ·simp only [Heap.put, e2, if_false] at hj;simpa [Corr.put, e, e2] using h.sep i j oi oj hi hj hne hro
 ·have e : g ≠ nx := by have := h.base; omega
  simp only [Heap.put, e, if_false] at ho';simpa [Corr.put, e] using h.glob g o' hg ho'
 ·by_cases e : id = nx
  ·subst e; simp only [Corr.put, if_true]; exact hpn
  ·simp only [Heap.put, e, if_false] at ho';simpa [Corr.put, e] using h.apin id o' ho'
theorem Rel.set {W0 : World} {C : Corr} {nx nx' : Nat} {H : Heap} {w w' : World} (h : Rel W0 C nx H w) (id : Nat) (o o' : AObj) (loc : Nat × Nat) (siz : Nat) (hid : H id = some o)
  (hro : o.ro = false) (hnx : nx ≤ nx')
  (htag : (o'.tag = o.tag ∧ o'.esz = o.esz ∧ loc = C.loc id ∧ siz = C.siz id) ∨ (nx < nx' ∧ o'.tag = some nx))
  (hloc : loc.1 = (C.loc id).1 ∨ w.heap.size ≤ loc.1)
  (hown : o'.ro = true → loc.1 = (C.loc id).1)
  (hbel : BelD W0.heap.size W0 w')
  (hw : ∀ k, k < w.heap.size → k ≠ (C.loc id).1 → w'.heap[k]? = w.heap[k]?)
  (ho : ∀ C', C' = C.put id loc siz → Stp nx H C nx' (H.put id o') C' → ORel nx' (H.put id o') C' w' id o')
  (hlp : z6y (some o) = true → z6y (some o') = true ∧ loc = C.loc id := by intro h; cases h) :
  Rel W0 (C.put id loc siz) nx' (H.put id o') w' ∧ Stp nx H C nx' (H.put id o') (C.put id loc siz) := by
 have hst : Stp nx H C nx' (H.put id o') (C.put id loc siz) := ⟨⟨hnx, fun i oi hi hoi ht => by
  by_cases e : i = id
  ·subst e;simp only [Heap.put, if_true, Option.some.injEq] at hoi;subst hoi;rcases htag with ⟨a, b, c, d⟩ | ⟨_, a⟩
   ·exact ⟨o, hid, a.symm, b.symm, by simp [Corr.put, c], by simp [Corr.put, d]⟩
   ·exact absurd (ht nx a) (by omega)
  ·simp only [Heap.put, e, if_false] at hoi;exact ⟨oi, hoi, rfl, rfl, by simp [Corr.put, e], by simp [Corr.put, e]⟩⟩, fun _ _ x => x, fun i hi hl => by
  by_cases e : i = id
  ·subst e;rw [hid] at hl;simp only [Heap.put, Corr.put, if_true];exact hlp hl
  ·simp only [Heap.put, Corr.put, e, if_false];exact ⟨hl, trivial⟩⟩
 have hidlt := h.lt id o hid;have hpk : ∀ k o, C.pin k = some o → k < w.heap.size ∧ k ≠ (C.loc id).1 := fun k o hk => ⟨(Array.getElem?_eq_some_iff.1 (h.pin k o hk).2).1, fun e => by have := (h.own id _ hid hro).2; rw [← e, hk] at this; cases this⟩;refine ⟨⟨hbel, ?_, ?_, ?_, ?_, fun k o hk => ⟨(h.pin k o hk).1, (hw k (hpk k o hk).1 (hpk k o hk).2).trans (h.pin k o hk).2⟩, Nat.le_trans h.base hnx, fun g og hg hog => ?_, fun i oi hoi => ?_⟩, hst⟩
 ·intro i oi hoi;by_cases e : i = id
  ·subst e;simp only [Heap.put, if_true, Option.some.injEq] at hoi;subst hoi;refine ⟨by omega, fun t ht => ?_⟩;rcases htag with ⟨a, _⟩ | ⟨b, a⟩
   ·have := hidlt.2 t (a ▸ ht); omega
   ·rw [a] at ht; cases ht; exact b
  ·simp only [Heap.put, e, if_false] at hoi;obtain ⟨a, b⟩ := h.lt i oi hoi;exact ⟨by omega, fun t ht => by have := b t ht; omega⟩
 ·intro i oi hoi;by_cases e : i = id
  ·subst e;simp only [Heap.put, if_true, Option.some.injEq] at hoi;subst hoi;exact ho _ rfl hst
  ·simp only [Heap.put, e, if_false] at hoi;have hb := (h.obj i oi hoi).blk;refine (h.obj i oi hoi).mono hst (by simp [Corr.put, e]) (by simp [Corr.put, e]) ?_;exact hw _ hb (fun x => h.sep id i o oi hid hoi (fun y => e y.symm) hro x.symm)
 ·intro i oi hoi hroi;by_cases e : i = id
  ·subst e;simp only [Corr.put, if_true];rcases hloc with x | x
   ·rw [x]; exact h.own i o hid hro
   ·refine ⟨Nat.le_trans h.below.size x, ?_⟩;show C.pin loc.1 = none;cases hq : C.pin loc.1 with
    | none => rfl
    | some o2 => exact absurd (hpk _ _ hq).1 (by omega)
  ·simp only [Heap.put, e, if_false] at hoi;simpa [Corr.put, e] using h.own i oi hoi hroi
 ·intro i j oi oj hi hj hne hroi
  have other : ∀ k ok, H k = some ok → k ≠ id → (C.loc k).1 ≠ loc.1 := fun k ok hk hne2 => by
   rcases hloc with x | x
   ·rw [x]; exact fun y => h.sep id k o ok hid hk (fun z => hne2 z.symm) hro y.symm
   ·have := (h.obj k ok hk).blk; omega
  by_cases e : i = id
  ·have e2 : j ≠ id := fun x => hne (e.trans x.symm);simp only [Heap.put, e2, if_false] at hj;simp only [Corr.put, e, e2, if_true, if_false];exact fun x => other j oj hj e2 x.symm
  ·simp only [Heap.put, e, if_false] at hi;by_cases e2 : j = id
   ·simp only [Corr.put, e, e2, if_true, if_false];exact other i oi hi e
   ·simp only [Heap.put, e2, if_false] at hj;simpa [Corr.put, e, e2] using h.sep i j oi oj hi hj hne hroi
 ·have e : g ≠ id := fun e => by subst e; have := (h.glob g o hg hid).1; rw [hro] at this; cases this
  simp only [Heap.put, e, if_false] at hog;simpa [Corr.put, e] using h.glob g og hg hog
 ·by_cases e : i = id
  ·subst e;simp only [Corr.put, if_true];rcases hloc with x | x
   ·rw [x]; exact h.apin i o hid
   ·cases hq : C.pin loc.1 with
    | none => rfl
    | some o2 => exact absurd (hpk _ _ hq).1 (by omega)
  ·simp only [Heap.put, e, if_false] at hoi;simpa [Corr.put, e] using h.apin i oi hoi
theorem Rel.world {W0 : World} {C : Corr} {nx : Nat} {H : Heap} {w w' : World} (h : Rel W0 C nx H w) (hb : BelD W0.heap.size W0 w') (hw : ∀ k, k < w.heap.size → w'.heap[k]? = w.heap[k]?) : Rel W0 C nx H w' :=
 ⟨hb, h.lt, fun id o ho => (h.obj id o ho).mono (Stp.refl _ _ _) rfl rfl (hw _ (h.obj id o ho).blk), h.own, h.sep, fun k o hk => ⟨(h.pin k o hk).1, (hw k (Array.getElem?_eq_some_iff.1 (h.pin k o hk).2).1).trans (h.pin k o hk).2⟩, h.base, h.glob, h.apin⟩
theorem Rel.drew {W0 : World} {C : Corr} {nx : Nat} {H : Heap} {w : World} (h : Rel W0 C nx H w) : Rel W0 C nx H w.drew := h.world h.below.drew (fun _ _ => rfl)
theorem Rel.globPtr {W0 : World} {C : Corr} {nx : Nat} {H : Heap} {w : World} (h : Rel W0 C nx H w) {g : Nat} (hg : g < NG) : VR nx H C (.pointer (some ⟨g, 0, none⟩)) (.pointer (some ⟨g, 0, none⟩)) := by
 refine .ptr _ _ ⟨Nat.lt_of_lt_of_le hg h.base, fun t ht => by cases ht⟩ ?_;rintro ⟨o, ho, _⟩;simp [Corr.at, (h.glob g o hg ho).2]
theorem Stp0.re (nx : Nat) (H : Heap) (C : Corr) (p : Nat → Option Obj) : Stp0 nx H C nx H (C.re p) := ⟨Nat.le_refl _, fun _ o' _ h _ => ⟨o', h, rfl, rfl, rfl, rfl⟩⟩
theorem Rel.unpin {W0 : World} {C : Corr} {nx : Nat} {H : Heap} {w w' : World} (h : Rel W0 C nx H w) {D : Nat} {O : Obj} (hD : C.pin D = some O) (hro : ∀ id o, H id = some o → (C.loc id).1 ≠ D)
  (hbel : BelD W0.heap.size W0 w') (hw : ∀ k, k ≠ D → w'.heap[k]? = w.heap[k]?) : Rel W0 (C.re fun k => if k = D then none else C.pin k) nx H w' := by
 refine ⟨hbel, h.lt, fun id o ho => ?_, fun id o ho hr => ⟨(h.own id o ho hr).1, ?_⟩, h.sep, fun k o hk => ?_, h.base, h.glob, fun id o ho => ?_⟩
 ·exact (h.obj id o ho).mono0 (Stp0.re _ _ _ _) rfl rfl (hw _ (hro id o ho))
 ·simp only [Corr.re];split
  ·rfl
  ·exact (h.own id o ho hr).2
 ·simp only [Corr.re] at hk;by_cases e : k = D
  ·rw [if_pos e] at hk; cases hk
  ·rw [if_neg e] at hk;exact ⟨(h.pin k o hk).1, (hw k e).trans (h.pin k o hk).2⟩
 ·simp only [Corr.re];split
  ·rfl
  ·exact h.apin id o ho
theorem Rel.pinLess {W0 : World} {C : Corr} {nx : Nat} {H : Heap} {w : World} (h : Rel W0 C nx H w) {p : Nat → Option Obj} (hp : ∀ k o, p k = some o → C.pin k = some o) : Rel W0 (C.re p) nx H w := by
 refine ⟨h.below, h.lt, fun id o ho => (h.obj id o ho).mono0 (Stp0.re _ _ _ _) rfl rfl rfl, fun id o ho hr => ⟨(h.own id o ho hr).1, ?_⟩, h.sep, fun k o hk => h.pin k o (hp k o hk), h.base, h.glob, fun id o ho => ?_⟩
 ·simp only [Corr.re];cases hq : p (C.loc id).1 with
  | none => rfl
  | some o2 => have := hp _ _ hq; rw [(h.own id o ho hr).2] at this; cases this
 ·simp only [Corr.re];cases hq : p (C.loc id).1 with
  | none => rfl
  | some o2 => have := hp _ _ hq; rw [h.apin id o ho] at this; cases this
end Go.Am
