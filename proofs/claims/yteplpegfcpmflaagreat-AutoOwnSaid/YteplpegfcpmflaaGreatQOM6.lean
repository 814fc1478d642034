import Derived.ProofKit
import Derived.OpenShut
import Derived.Carry
import Derived.Test.YteplpegfcpmflaaGreatRows
import Derived.Lib.Hide
import Derived.Test.YteplpegfcpmflaaGreatQOM5
set_option linter.unusedSimpArgs false
set_option linter.unusedVariables false
set_option maxRecDepth 100000
set_option maxHeartbeats 64000000
namespace Go.Am
open Go.RowKit
def zdR (ops : Array Oper) (j i : Nat) : Bool := match ops[j]? with | some oj => zbw ops 4 oj i | none => false
def zdS (ops : Array Oper) (j i : Nat) : Bool := match ops[j]? with | some oj => zaI oj i | none => false
def z3D (ops : Array Oper) (l : List Nat) (i : Nat) : Bool := l.all fun j => !zdS ops i j
def ze5 (ops : Array Oper) (acts : List Nat) (i : Nat) (o : Oper) (l : List Nat) : Bool := z4C o.op || l.all fun j => !acts.contains j || zdR ops j i
def ActStep (P : Program) (W0 : World) (ops : Array Oper) (acts : List Nat) (K : Nat → Heap → Prop) (i : Nat) (st : ASt) (N : ASt → Prop) : Prop :=
 ∃ o, ops[i]? = some o ∧ z16 st o = true ∧ acts.contains i = true ∧
  ((z15 ops st o = false ∧ N (st.put o.dst undef .none)) ∨
   (z15 ops st o = true ∧
    ((∃ v e, aop P st.H st.nx st.ev o = some (v, e) ∧ K (e.nx st.nx) (e.H st.nx st.H) ∧ N (st.put o.dst v e)) ∨
    (∃ f args R, z0R st o = some (f, args) ∧ z0O P f ∧ ACalls P W0 f args st.nx st.H R ∧ ∀ v nx' H', R v nx' H' → K nx' H' ∧ N ⟨zl st.tm o.dst v, st.n, H', nx'⟩))))
def OpsR (P : Program) (W0 : World) (ops : Array Oper) (acts : List Nat) (K : Nat → Heap → Prop) : Nat → List Nat → ASt → (ASt → Prop) → Prop
 | _, [], st, Q => Q st
 | 0, _ :: _, _, _ => False
 | m + 1, i :: l, st, Q =>
  (acts.contains i = false ∧ z3D ops l i = true ∧ ∃ o, ops[i]? = some o ∧ z16 st o = true ∧
   ((z15 ops st o = false ∧ OpsR P W0 ops acts K m l (st.put o.dst undef .none) Q) ∨
    (z15 ops st o = true ∧ ∃ v, aop P st.H st.nx st.ev o = some (v, .none) ∧ (ze5 ops acts i o l = true ∨ ∀ H' nx', K nx' H' → aop P H' nx' st.ev o = some (v, .none)) ∧ OpsR P W0 ops acts K m l (st.put o.dst v .none) Q))) ∨
  (∀ j ∈ i :: l, z3D ops ((i :: l).erase j) j = true → ActStep P W0 ops acts K j st fun s => OpsR P W0 ops acts K m ((i :: l).erase j) s Q)
section
variable {P : Program} {W0 : World} {ops : Array Oper} {acts : List Nat} {K : Nat → Heap → Prop}
theorem z7n {st : ASt} {o : Oper} {H : Heap} {nx : Nat} : aop P H nx (evR (z4d o) st.tm) o = aop P H nx st.ev o :=
 z69 (fun x hx => z7h (n := st.n) (nx := st.nx) (H := st.H) (fun t ht => z5I (by rw [← ht]; exact hx)))
theorem z4I {l : List Nat} {i : Nat} : z3D ops l i = true ↔ ∀ j ∈ l, zdS ops i j = false := by
 unfold z3D;rw [List.all_eq_true];constructor
 ·intro h j hj; have := h j hj; simpa using this
 ·intro h j hj; simp [h j hj]
def zhW (P : Program) (ops : Array Oper) (acts : List Nat) (K : Nat → Heap → Prop) (L : List Nat) (T : Nat → Value) (n : Nat) (H : Heap) (nx : Nat) (i : Nat) (o : Oper) : Prop :=
 (∀ d, o.dst = some d → d < n) ∧ ∃ val, (∀ d, o.dst = some d → T d = val) ∧ ((z25 ops T o = false ∧ val = undef) ∨
  (z25 ops T o = true ∧ aop P H nx (evR (z4d o) T) o = some (val, .none) ∧ ((∀ j ∈ L, acts.contains j = true → zdR ops j i = true) ∨ ∀ H' nx', K nx' H' → aop P H' nx' (evR (z4d o) T) o = some (val, .none))))
variable {D L : List Nat} {listed : Array Bool} {tm T : Nat → Value} {n nx : Nat} {H : Heap}
theorem z8X (down : ∀ (i : Nat) (o : Oper), ops[i]? = some o → listed.getD i false = true → ∀ j, dep o j → listed.getD j false = true) : ∀ (m : Nat) (o : Oper) (i : Nat), (∀ j, dep o j → listed.getD j false = true) → zgC ops m o i → listed.getD i false = true := by
 intro m
 induction m with
 | zero => intro o i ha hd; exact ha i hd
 | succ m ihm =>
  intro o i ha hd;rcases hd with hd | ⟨k, ok, hok, hdk, hd⟩
  ·exact ha i hd
  ·exact ihm ok i (fun j hj => down k ok hok (ha k hdk) j hj) hd
theorem zar (down : ∀ (i : Nat) (o : Oper), ops[i]? = some o → listed.getD i false = true → ∀ j, dep o j → listed.getD j false = true) {i j : Nat} {o : Oper} (ho : ops[j]? = some o) (hall : ∀ k, dep o k → listed.getD k false = true) (h : zdR ops j i = true) : listed.getD i false = true := by
 unfold zdR at h;rw [ho] at h;exact z8X down 4 o i hall (z8L _ _ _ h)
theorem zeF {ρ : Option Nat} {C : Corr} {o : Oper} {f : FuncId} {args : List Value} {R : Value → Nat → Heap → Prop} {a : Act} {w : World} {i : Nat} {KK : Act → World → Prop} {Q : Exit → Act → World → Prop} (hs : SRel W0 C ⟨tm, n, H, nx⟩ a w) (hd : ∀ d, o.dst = some d → d < n) (hw : z25 ops tm o = true)
  (hc : z3F (evR (z4d o) tm) o = some (f, args)) (hf : z0O P f) (hcall : ACalls P W0 f args nx H R) (ho : ops[i]? = some o)
  (hk : ∀ v nx' H' C' v' w', R v nx' H' → SRel W0 C' ⟨zl tm o.dst v, n, H', nx'⟩ (a.put o.dst v') w' → Stp nx H C nx' H' C' → KK (a.put o.dst v') w') : wpOpIn (rf ρ) 0 P ops Q i KK a w := by
 have hww := z1X hs ops o;rw [← z0I] at hww;unfold wpOpIn;rw [ho];simp only [hww, hw, if_true];refine ⟨fun _ _ => trivial, ?_⟩;have hE' := z3w hs (zcE _ _) hc;obtain ⟨args', hrun, hargs⟩ := z2N hs hE' hf;rw [z2O hE', hrun];refine ⟨fun h => (by cases h), z40 ((hcall C w args' hs.rel hargs).mono ?_)⟩;rintro e w'' ⟨v0, v', C', nx1, H1, rfl, hr, hR, hv, hS⟩;exact hk v0 nx1 H1 C' v' w'' hr (hs.put hd hR hS hv) hS
/-! ### one operation each -/
theorem OpsR.nil {m : Nat} {st : ASt} {Q : ASt → Prop} (h : Q st) : OpsR P W0 ops acts K m [] st Q := by cases m <;> exact h
theorem OpsR.one {m i : Nat} {l : List Nat} {o : Oper} {st : ASt} {Q : ASt → Prop} (ho : ops[i]? = some o) (hn : acts.contains i = false) (he : z24 o.op = false) (hk : (z3D ops l i && ze5 ops acts i o l) = true) (h : OpsL P W0 ops [o] st fun s => OpsR P W0 ops acts K m l s Q) : OpsR P W0 ops acts K (m + 1) (i :: l) st Q := by
 rw [Bool.and_eq_true] at hk;obtain ⟨hd, h⟩ := h;refine .inl ⟨hn, hk.1, o, ho, hd, ?_⟩;rcases h with ⟨hw, h⟩ | ⟨hw, ⟨v, e, hop, h⟩ | ⟨f, args, R, hc, _⟩⟩
 ·exact .inl ⟨hw, h⟩
 ·have := z3d he hop;subst this;exact .inr ⟨hw, v, hop, .inl hk.2, h⟩
 ·have := z59 (z2q hc);rw [he] at this;cases this
theorem zx {m i : Nat} {l : List Nat} {d : Tmp} {op : Op} {type : TypeId} {pos : String} {after : Array Edge} {tm : Nat → Value} {n nx : Nat} {H : Heap} {v : Value} {Q : ASt → Prop} (ho : ops[i]? = some ⟨some d, op, type, pos, after, none⟩) (he : (!acts.contains i && z3D ops l i) = true) (hd : d < n) (hK : K nx H)
  (hop : ∀ H' nx', K nx' H' → aop P H' nx' (ASt.ev ⟨tm, n, H, nx⟩) ⟨some d, op, type, pos, after, none⟩ = some (v, .none)) (h : OpsR P W0 ops acts K m l ⟨zl tm (some d) v, n, H, nx⟩ Q) : OpsR P W0 ops acts K (m + 1) (i :: l) ⟨tm, n, H, nx⟩ Q := by
 simp only [Bool.and_eq_true, Bool.not_eq_true'] at he;exact .inl ⟨he.1, he.2, _, ho, by simp [z16, hd], .inr ⟨rfl, v, hop H nx hK, .inr hop, h⟩⟩
def z7g (ops : Array Oper) (l all : List Nat) : Bool := l.all fun j => (all.erase j).any fun k => zdS ops j k
theorem z5p {l all : List Nat} (h : z7g ops l all = true) {j : Nat} (hj : j ∈ l) : z3D ops (all.erase j) j = false := by
 unfold z7g at h;rw [List.all_eq_true] at h;have := h j hj;rw [List.any_eq_true] at this;obtain ⟨k, hk, hd⟩ := this;cases hf : z3D ops (all.erase j) j with
 | false => rfl
 | true => rw [z4I.1 hf k hk] at hd; cases hd
theorem z05 {m i : Nat} {l : List Nat} {st : ASt} {Q : ASt → Prop} (hw : z7g ops l (i :: l) = true) (h : ActStep P W0 ops acts K i st fun s => OpsR P W0 ops acts K m l s Q) : OpsR P W0 ops acts K (m + 1) (i :: l) st Q := by
 refine .inr fun j hj hf => ?_;by_cases e : j = i
 ·subst e;rw [List.erase_cons_head];exact h
 ·have hj2 : j ∈ l := by
   rcases List.mem_cons.1 hj with h | h
   ·exact absurd h e
   ·exact h
  rw [z5p hw hj2] at hf;cases hf
theorem z07 {m i k : Nat} {l : List Nat} {st : ASt} {Q : ASt → Prop} (hw : (z7g ops l (i :: k :: l) && !Nat.beq i k) = true) (h1 : ActStep P W0 ops acts K i st fun s => OpsR P W0 ops acts K m (k :: l) s Q) (h2 : ActStep P W0 ops acts K k st fun s => OpsR P W0 ops acts K m (i :: l) s Q) : OpsR P W0 ops acts K (m + 1) (i :: k :: l) st Q := by
 simp only [Bool.and_eq_true, Bool.not_eq_true'] at hw;have hne : k ≠ i := fun e => by have := hw.2; rw [e] at this; simp at this
 refine .inr fun j hj hf => ?_;by_cases e : j = i
 ·subst e;rw [List.erase_cons_head];exact h1
 ·by_cases e2 : j = k
  ·subst e2;rw [List.erase_cons_tail (by simpa using Ne.symm hne), List.erase_cons_head];exact h2
  ·have hj2 : j ∈ l := by
    rcases List.mem_cons.1 hj with h | h
    ·exact absurd h e
    ·rcases List.mem_cons.1 h with h | h
     ·exact absurd h e2
     ·exact h
   rw [z5p hw.1 hj2] at hf;cases hf
section
variable {i : Nat} {d : Tmp} {ts : Array TypeId} {type : TypeId} {pos : String} {after : Array Edge} {tm : Nat → Value} {n nx : Nat} {H : Heap} {f : FuncId} {R : Value → Nat → Heap → Prop} {N : ASt → Prop}
theorem z0w {c x : Operand} {a : Value} (ho : ops[i]? = some ⟨some d, .call ⟨.value c, #[x], ts⟩, type, pos, after, none⟩) (he : acts.contains i = true) (hd : d < n) (hf' : ASt.ev ⟨tm, n, H, nx⟩ c = some (.func (.func f) #[] #[])) (hx : ASt.ev ⟨tm, n, H, nx⟩ x = some a) (hf : z0O P f) (hcall : ACalls P W0 f [a] nx H R)
  (h : ∀ v nx' H', R v nx' H' → K nx' H' ∧ N ⟨zl tm (some d) v, n, H', nx'⟩) : ActStep P W0 ops acts K i ⟨tm, n, H, nx⟩ N :=
 ⟨_, ho, by simp [z16, hd], he, .inr ⟨rfl, .inr ⟨f, [a], R, by simp [z0R, hf', z0B, hx], hf, hcall, h⟩⟩⟩
theorem zZ {c x y : Operand} {a b : Value} (ho : ops[i]? = some ⟨some d, .call ⟨.value c, #[x, y], ts⟩, type, pos, after, none⟩) (he : acts.contains i = true) (hd : d < n) (hf' : ASt.ev ⟨tm, n, H, nx⟩ c = some (.func (.func f) #[] #[])) (hx : ASt.ev ⟨tm, n, H, nx⟩ x = some a) (hy : ASt.ev ⟨tm, n, H, nx⟩ y = some b) (hf : z0O P f) (hcall : ACalls P W0 f [a, b] nx H R)
  (h : ∀ v nx' H', R v nx' H' → K nx' H' ∧ N ⟨zl tm (some d) v, n, H', nx'⟩) : ActStep P W0 ops acts K i ⟨tm, n, H, nx⟩ N :=
 ⟨_, ho, by simp [z16, hd], he, .inr ⟨rfl, .inr ⟨f, [a, b], R, by simp [z0R, hf', z0B, hx, hy], hf, hcall, h⟩⟩⟩
end
end
end Go.Am
namespace Go.Am
open Go.RowKit Go.ChangeShapes Go.WideShapes Go.ChangeAt
section
variable {H : Type} {enc : TypeId × Value → H} {P : Program} {W W' : World}
theorem z7L (hl : laidOutB P = true) (hb : BelD W.heap.size W W') : ∀ (ts : List TypeId) (vs : List Value) (ds : List (DataW H)) (ps : List MemPlace), (ts.all fun t => P.readableRec t && decide (t < P.types.size)) = true →
  DataW.TrodAll enc P W 0 (fun _ => true) true ts vs ds ps → (∀ x ∈ ps, x.block < W.heap.size) → DataW.TrodAll enc P W' 0 (fun b => decide (b < W.heap.size)) true ts vs ds ps := by
 intro ts
 induction ts with
 | nil =>
  intro vs ds ps _ h _;cases vs <;> cases ds <;> first | exact h | exact h.elim
 | cons t ts ih =>
  intro vs ds ps hr h hlt;simp only [List.all_cons, Bool.and_eq_true, decide_eq_true_eq] at hr;obtain ⟨v, vs', d, ds', p, q, rfl, rfl, rfl, h0, h1⟩ := trodAll_cons h;exact trodAll_cons_mk (Below.trod hl hr.1.1 hr.1.2 h0 hb.toB (fun x hx => hlt x (List.mem_append.2 (.inl hx)))) (ih vs' ds' q hr.2 h1 (fun x hx => hlt x (List.mem_append.2 (.inr hx))))
theorem zew {f : Func} {s : ChangeSpec} {t : TypeId} {args : Array Value} {ds gs : List (DataW H)} {before : List MemPlace} (hl : laidOutB P = true) (hr : (f.params.toList.all fun t => P.readableRec t && decide (t < P.types.size)) = true)
  (hrt : f.resultTypes = #[t]) (ht : P.underlying t = some .bool) (hvars : s.vars = []) (hW : DataW.Whole enc P f.params.toList s.vars false W args.toList ds gs before)
  (hspec : s.fn H (ds ++ gs) = { results := [.lit (.bool true)], args := ds }) (hb : BelD W.heap.size W W') : s.post enc P f false true false false W args (.bool true) W' := by
 have hW' := hW;obtain ⟨p, q, hA, hV, rfl, _, _⟩ := hW;have hlt : ∀ x ∈ p, x.block < W.heap.size := fun x hx => hW'.lt x (List.mem_append.2 (.inl hx));rw [hvars] at hV;obtain ⟨rfl, rfl⟩ := trodVars_none hV;refine ⟨ds, [], _, [], p, [], hW', ?_, ?_, ?_, hb.toB.frame _, fun h => by cases h⟩
 ·rw [hspec, hrt];exact trodAll_mk1 (shut_bool ht _)
 ·rw [hspec];exact z7L hl hb _ _ _ _ hr hA hlt
 ·rw [hspec, hvars]; rfl
end
end Go.Am
namespace Go.Am
open Go.RowKit Go.ChangeShapes Go.WideShapes Go.ChangeAt
inductive Arg where
 | plain (v : Value)
 | ints (k : IntKind) (xs : List Int)
def NumsAt (H : Heap) (k : IntKind) (v : Value) (xs : List Int) : Prop :=
 (∃ c, v = .slice none 0 c ∧ xs = []) ∨ ∃ a c, v = .slice (some a) xs.length c ∧ ∀ (i : Nat) (h : i < xs.length), zh H ⟨a.block, a.off + i, a.spot⟩ (.int k xs[i])
def ziC (H : Heap) (v : Value) : Prop := v = .slice none 0 0 ∨ ∃ k n c cs, v = .slice (some ⟨k, 0, none⟩) n c ∧ H k = some (.cells cs 1 none true none) ∧ cs.length = c ∧ n ≤ c
def z5Q (W : World) : Arg → Value → Prop
 | .plain u, v => v = u ∧ zL u = true
 | .ints k xs, v => (v = .slice none 0 0 ∧ xs = []) ∨ ∃ (b off len cap : Nat) (zs : List Int) (Cc : Array Value) (el : TypeId) (fr : Nat × Nat), v = .slice (some ⟨b, off, none⟩) len cap ∧ len ≤ cap ∧ zs.length = cap ∧ xs = zs.take len ∧
   W.heap[b]? = some (.cells Cc el fr) ∧ off + cap ≤ Cc.size ∧ ∀ i, i < cap → Cc[off + i]? = some (.int k (zs.getD i 0))
def Arg.at (H : Heap) : Arg → Value → Prop
 | .plain u, v => v = u
 | .ints k xs, v => NumsAt H k v xs ∧ ziC H v
def All2 {α β : Type} (R : α → β → Prop) : List α → List β → Prop
 | [], [] => True
 | a :: l, b :: l' => R a b ∧ All2 R l l'
 | _, _ => False
theorem All2.cons {α β : Type} {R : α → β → Prop} {a : α} {l : List α} {us : List β} (h : All2 R (a :: l) us) : ∃ b us', us = b :: us' ∧ R a b ∧ All2 R l us' := by
 cases us with
 | nil => exact h.elim
 | cons b us => exact ⟨b, us, rfl, h.1, h.2⟩
theorem All2.nil {α β : Type} {R : α → β → Prop} {us : List β} (h : All2 R [] us) : us = [] := by
 cases us with
 | nil => rfl
 | cons b us => exact h.elim
section
variable {P : Program} {W0 : World} {C : Corr} {nx : Nat} {H : Heap} {w : World}
theorem Rel.read (h : Rel W0 C nx H w) (hpn : ∀ k, C.pin k = none) (hro : ∀ id o, H id = some o → o.ro = true) {c : List Value} {b off : Nat} {Cc : Array Value} {el : TypeId} {fr : Nat × Nat} (hw : w.heap[b]? = some (.cells Cc el fr)) (hle : off + c.length ≤ Cc.size)
  (hp : c.all zL = true) (hc : ∀ i, i < c.length → Cc[off + i]? = c[i]?) :
  Rel W0 (C.put nx (b, off) Cc.size) (nx + 1) (H.put nx (.cells c 1 none true none)) w ∧ Stp nx H C (nx + 1) (H.put nx (.cells c 1 none true none)) (C.put nx (b, off) Cc.size) := by
 have hst : Stp nx H C (nx + 1) (H.put nx (.cells c 1 none true none)) (C.put nx (b, off) Cc.size) := ⟨⟨zom, fun id o' hid ho' ht => by
  have : id ≠ nx := by omega
  simp only [Heap.put, this, if_false] at ho';exact ⟨o', ho', rfl, rfl, by simp [Corr.put, this], by simp [Corr.put, this]⟩⟩, fun _ _ x => x, fun id hid hl => by
  have : id ≠ nx := by omega
  simp only [Heap.put, this, if_false];exact ⟨hl, by simp [Corr.put, this]⟩⟩
 have hro' : ∀ id o, (H.put nx (.cells c 1 none true none)) id = some o → o.ro = true := by
  intro id o ho;by_cases e : id = nx
  ·simp only [Heap.put, e, if_true, Option.some.injEq] at ho; subst ho; rfl
  ·simp only [Heap.put, e, if_false] at ho; exact hro id o ho
 refine ⟨⟨h.below, ?_, ?_, ?_, ?_, h.pin, Nat.le_succ_of_le h.base, fun g og hg hog => ?_, fun _ _ _ => hpn _⟩, hst⟩
 ·intro id o' ho';by_cases e : id = nx
  ·subst e;simp only [Heap.put, if_true, Option.some.injEq] at ho';subst ho';exact ⟨zom, fun t ht => by cases ht⟩
  ·simp only [Heap.put, e, if_false] at ho';obtain ⟨a, b⟩ := h.lt id o' ho';exact ⟨zom, fun t ht => by have := b t ht; omega⟩
 ·intro id o' ho';by_cases e : id = nx
  ·subst e;simp only [Heap.put, if_true, Option.some.injEq] at ho';subst ho';refine ⟨Cc, el, fr, by simpa [Corr.put] using hw, by simp [Corr.put], by simpa [Corr.put] using hle, ?_, ⟨fun hh => (by cases hh), fun t ht => (by cases ht), fun hh => (by cases hh), fun hh => (by cases hh)⟩⟩;intro i hi hi';simp only [Corr.put, if_true] at hi' ⊢;have := hc i hi;rw [Array.getElem?_eq_getElem hi', List.getElem?_eq_getElem hi, Option.some.injEq] at this;rw [this];exact z1I (List.all_eq_true.1 hp _ (List.getElem_mem hi))
  ·simp only [Heap.put, e, if_false] at ho';exact (h.obj id o' ho').mono hst (by simp [Corr.put, e]) (by simp [Corr.put, e]) rfl
 ·intro id o' ho' hh;rw [hro' id o' ho'] at hh; cases hh
 ·intro i j oi oj hi _ _ hh;rw [hro' i oi hi] at hh; cases hh
 ·have e : g ≠ nx := by have := h.base; omega
  simp only [Heap.put, e, if_false] at hog;simpa [Corr.put, e] using h.glob g og hg hog
theorem NumsAt.mono {H' : Heap} {k : IntKind} {v : Value} {xs : List Int} (hh : ∀ id o, H id = some o → H' id = some o) (h : NumsAt H k v xs) : NumsAt H' k v xs := by
 rcases h with h | ⟨a, c, rfl, h⟩
 ·exact .inl h
 ·refine .inr ⟨a, c, rfl, fun i hi => ?_⟩;have h1 := h i hi;obtain ⟨o, ho⟩ := z1J h1;unfold zh z0A at *;rw [hh _ _ ho];rw [ho] at h1;exact h1
theorem Arg.at_mono {H' : Heap} (hh : ∀ id o, H id = some o → H' id = some o) : ∀ {a : Arg} {v : Value}, a.at H v → a.at H' v := by
 intro a v h;cases a with
 | plain u => exact h
 | ints k xs =>
  refine ⟨h.1.mono hh, ?_⟩;rcases h.2 with h | ⟨k, n, c, cs, h1, h2, h3⟩
  ·exact .inl h
  ·exact .inr ⟨k, n, c, cs, h1, hh _ _ h2, h3⟩
theorem All2.at_mono {H' : Heap} (hh : ∀ id o, H id = some o → H' id = some o) : ∀ {aas : List Arg} {vs : List Value}, All2 (Arg.at H) aas vs → All2 (Arg.at H') aas vs := by
 intro aas
 induction aas with
 | nil => intro vs h; cases vs <;> first | trivial | exact h.elim
 | cons a aas ih =>
  intro vs h;cases vs with
  | nil => exact h.elim
  | cons v vs => exact ⟨Arg.at_mono hh h.1, ih h.2⟩
theorem zil {T : z6R} (W : World) (hT : Tabs T W) : ∀ (aas : List Arg) (vs : List Value), All2 (z5Q W) aas vs → ∃ nx H C us, Rel W C nx H W ∧ VRs nx H C us vs ∧ All2 (Arg.at H) aas us ∧ (∀ id o, H id = some o → o.ro = true) ∧ (∀ k, C.pin k = none) ∧ ∀ g o, (z2u T).get g = some o → H g = some o := by
 intro aas
 induction aas with
 | nil =>
  intro vs h;cases vs with
  | nil => exact ⟨NG, (z2u T).get, z3p W, [], z7I hT (BelD.refl _ _), VRs.nil, trivial, fun _ _ h => (by obtain ⟨c, _, rfl⟩ := z1Y h; rfl), fun _ => rfl, fun _ _ h => h⟩
  | cons => exact h.elim
 | cons a aas ih =>
  intro vs h;cases vs with
  | nil => exact h.elim
  | cons v vs =>
   obtain ⟨nx, H, C, us, hR, hV, hA, hro, hpn, htb⟩ := ih vs h.2;have hlt := fun id o (ho : H id = some o) => (hR.lt id o ho).1;have h1 := h.1;cases a with
   | plain u =>
    obtain ⟨rfl, hp⟩ := h1;exact ⟨nx, H, C, v :: us, hR, VRs.cons (z1I hp) hV, ⟨rfl, hA⟩, hro, hpn, htb⟩
   | ints k xs =>
    rcases h1 with ⟨rfl, rfl⟩ | ⟨b, off, len, cap, zs, Cc, el, fr, rfl, hlc, hz, rfl, hw, hle, hc⟩
    ·exact ⟨nx, H, C, .slice none 0 0 :: us, hR, VRs.cons (.nils _ _) hV, ⟨⟨.inl ⟨0, rfl, rfl⟩, .inl rfl⟩, hA⟩, hro, hpn, htb⟩
    ·obtain ⟨hR', hS⟩ := hR.read hpn hro (c := zs.map (.int k ·)) hw (by simpa [hz] using hle) (by simp [zL]) (fun i hi => by
      simp only [List.length_map, hz] at hi;rw [hc i hi, List.getElem?_map, List.getElem?_eq_getElem zom];simp [List.getD_eq_getElem?_getD, List.getElem?_eq_getElem (show i < zs.length by omega)])
     have hext : ∀ id o, H id = some o → (H.put nx (.cells (zs.map (.int k ·)) 1 none true none)) id = some o := fun id o ho => by
      have : id ≠ nx := by have := hlt id o ho; omega
      simp only [Heap.put, this, if_false]; exact ho
     refine ⟨nx + 1, _, _, .slice (some ⟨nx, 0, none⟩) len cap :: us, hR', VRs.cons ?_ (hV.mono hS), ⟨⟨.inr ⟨⟨nx, 0, none⟩, cap, by simp [hz]; omega, ?_⟩, .inr ⟨nx, len, cap, zs.map (.int k ·), rfl, by simp [Heap.put], by simpa using hz, hlc⟩⟩, hA.at_mono hext⟩, ?_, hpn, fun g o hg => hext g o (htb g o hg)⟩
     ·exact .slc _ _ _ _ _ ⟨by simp, by simp⟩ (fun o ho _ => ⟨by simp [Corr.at, Corr.put], by simp [z30]⟩)
     ·intro i hi;simp only [List.length_take, hz] at hi;have hi' : i < zs.length := by omega
      simp [zh, z0A, Heap.put, hi', List.getElem_take];refine ⟨zom, ?_⟩;rw [← List.map_drop, ← List.map_take, List.take_one, List.head?_drop, List.getElem?_eq_getElem hi'];rfl
     ·intro id o ho;by_cases e : id = nx
      ·simp only [Heap.put, e, if_true, Option.some.injEq] at ho; subst ho; rfl
      ·simp only [Heap.put, e, if_false] at ho; exact hro id o ho
theorem zbI {T : z6R} {f : FuncId} {ars : List Arg} {vs : List Value} {W : World} (hT : Tabs T W) (hc : All2 (z5Q W) ars vs)
  (h : ∀ nx H us, All2 (Arg.at H) ars us → (∀ id o, H id = some o → id < nx) → (∀ g o, (z2u T).get g = some o → H g = some o) → ACalls P W f us nx H fun v _ _ => v = .bool true) :
  Calls P f vs.toArray W fun e w' => e = .returned (.bool true) ∧ BelD W.heap.size W w' := by
 obtain ⟨nx, H, C, us, hR, hV, hA, _, _, htb⟩ := zil W hT ars vs hc;refine (h nx H us hA (fun id o ho => (hR.lt id o ho).1) htb C W vs hR hV).mono ?_;rintro e w' ⟨v, v', C', nx', H', rfl, rfl, hR', hv, _⟩;cases hv;exact ⟨rfl, hR'.below⟩
theorem zdn {f : FuncId} {ars : List Arg} {vs : List Value} {W : World} (hc : All2 (z5Q W) ars vs) (h : ∀ nx H us, All2 (Arg.at H) ars us → (∀ id o, H id = some o → id < nx) → ACalls P W f us nx H fun v _ _ => v = .bool true) :
  Calls P f vs.toArray W fun e w' => e = .returned (.bool true) ∧ BelD W.heap.size W w' :=
 zbI Tabs.nil hc fun nx H us h1 h2 _ => h nx H us h1 h2
theorem zeh {fits : TypeId → Bool} : ∀ (d : Nat) (e : TypeId) (count off n : Nat), rowAt P fits d e count off n = true → P.cellsOf e ≠ 0 ∧ off ≤ count * P.cellsOf e := by
 intro d;cases d with
 | zero => intro e count off n h; cases h
 | succ d =>
  intro e count off n h;simp only [rowAt] at h;split at h
  ·cases h
  ·rename_i hs;refine ⟨hs, ?_⟩;have hd := Nat.div_add_mod off (P.cellsOf e);simp only [Bool.or_eq_true, Bool.and_eq_true, beq_iff_eq, decide_eq_true_eq] at h;rcases h with ⟨⟨h1, h2⟩, _⟩ | ⟨h1, _⟩
   ·have := Nat.mul_le_mul_right (P.cellsOf e) (show off / P.cellsOf e ≤ count by omega);rw [h1, Nat.mul_comm] at hd;omega
   ·have := Nat.mul_le_mul_right (P.cellsOf e) (show off / P.cellsOf e + 1 ≤ count by omega);have hm := Nat.mod_lt off (Nat.pos_of_ne_zero hs);rw [Nat.add_mul, Nat.mul_comm (off / _)] at this;omega
theorem zdm : ∀ (d : Nat) (e : TypeId) (count off : Nat) (u : TypeId) (n : Nat), liesAt P d e count off u n = true → off ≤ count * P.cellsOf e := by
 intro d
 induction d with
 | zero => intro e count off u n h; cases h
 | succ d ih =>
  intro e count off u n h;simp only [liesAt, Bool.or_eq_true] at h;rcases h with h | h
  ·exact (zeh _ _ _ _ _ h).2
  ·split at h
   ·exact ih _ _ _ _ _ h
   ·cases h
variable {E : Type} {enc : TypeId × Value → E} {W : World}
theorem z8N {t e : TypeId} {k : IntKind} {r : Reach} {b0 : Nat} {v : Value} {d : DataW E} {ps : List MemPlace} (ht : P.underlying t = some (.slice e)) (he : P.underlying e = some (.int k)) (hc : P.cellsOf e = 1)
  (hval : Value.okWide P W r b0 t v) (h : DataW.Trod enc P W 0 (fun _ => true) true t v d ps) : ∃ xs, z5Q W (.ints k xs) v ∧ ∀ x ∈ xs, (Lit.int k x).wf = true := by
 obtain ⟨a0, len0, cap0, rfl⟩ := okWide_slice ht hval;obtain ⟨fuel, hf⟩ := h;simp only [Value.okWide, ht, Cell.okWide] at hval;rcases open_ints ht he hc hf with ⟨h1, _⟩ | ⟨a, len, cap, zs, h1, _, hle, hmax, hz, hx, hcell, hwf⟩
 ·simp [Value.cells] at h1;obtain ⟨rfl, rfl, rfl⟩ := h1;exact ⟨[], .inl ⟨rfl, rfl⟩, fun x hx => by cases hx⟩
 ·simp [Value.cells] at h1;obtain ⟨rfl, rfl, rfl⟩ := h1;simp only [if_true] at hz
  have hok : len0 ≤ cap0 ∧ (cap0 : Int) ≤ IntKind.i64.max ∧ W.has P r b0 a e cap0 := by
   simpa [Cell.ok, ht] using hval
  obtain ⟨_, _, _, hsp, row, cells, hsh, hlies⟩ := hok;obtain ⟨b, off, sp⟩ := a;simp only at hsp;subst hsp;simp only [World.shape?] at hsh;split at hsh
  case h_2 => cases hsh
  rename_i Cc el fr hw;simp only [Option.some.injEq, Prod.mk.injEq] at hsh;obtain ⟨rfl, rfl⟩ := hsh
  have hoff : off ≤ Cc.size := by
   have h1 := zdm _ _ _ _ _ _ hlies;have h2 := Nat.div_mul_le_self Cc.size (P.cellsOf el);exact Nat.le_trans h1 h2
  have hcells : ∀ i, i < cap0 → Cc[off + i]? = some (.int k (zs.getD i 0)) := fun i hi => by
   have := hcell i zom;simpa [z1t, World.cell?, hw] using this
  have hle2 : off + cap0 ≤ Cc.size := by
   rcases Nat.eq_zero_or_pos cap0 with h0 | h0
   ·omega
   ·have := hcells (cap0 - 1) zom;have := (Array.getElem?_eq_some_iff.1 this).1;omega
  exact ⟨zs.take len0, .inr ⟨b, off, len0, cap0, zs, Cc, el, fr, rfl, hle, hz, rfl, hw, hle2, hcells⟩, fun x hx => hwf x (List.mem_of_mem_take hx)⟩
end
end Go.Am
namespace Go.Am
open Go.RowKit
theorem zj {nx : Nat} {H : Heap} {o : AObj} : Ext nx H (nx + 1) (H.put nx o) := (Ext.refl.up (Nat.le_succ _)).put (Nat.le_refl _)
theorem zF {H : Heap} {nx : Nat} {o : AObj} (hok : ∀ id o, H id = some o → id < nx) : ∀ id o', (H.put nx o) id = some o' → id < nx + 1 := fun id o' h => by
 by_cases hi : id = nx
 ·omega
 ·rw [za hi] at h;have := hok id o' h;omega
def RowsAt {α : Type} (enc : α → List Value) (sz : Nat) (H : Heap) (v : Value) (l : List α) : Prop :=
 (∃ c, v = .slice none 0 c ∧ l = []) ∨ ∃ a c, v = .slice (some a) l.length c ∧ ∀ (i : Nat) (h : i < l.length), z0A H ⟨a.block, a.off + i * sz, a.spot⟩ sz = some (enc l[i])
section
variable {α : Type} {enc : α → List Value} {sz : Nat} {H H' : Heap} {nx nx' : Nat} {v : Value} {l : List α}
theorem RowsAt.ext (h : Ext nx H nx' H') (hok : ∀ id o, H id = some o → id < nx) (hr : RowsAt enc sz H v l) : RowsAt enc sz H' v l := by
 rcases hr with h1 | ⟨a, c, rfl, hs⟩
 ·exact .inl h1
 ·exact .inr ⟨a, c, rfl, fun i hi => z1r h hok (hs i hi)⟩
theorem RowsAt.slice (h : RowsAt enc sz H v l) : ∃ a c, v = .slice a l.length c := by
 rcases h with ⟨c, rfl, rfl⟩ | ⟨a, c, rfl, _⟩
 ·exact ⟨none, c, rfl⟩
 ·exact ⟨some a, c, rfl⟩
theorem z7u (hk : ∀ x, (enc x).length = sz) (h0 : 0 < sz) (h : RowsAt enc sz H v l) : z3x H sz v none = some (l.length, l.flatMap enc) := by
 rcases h with ⟨c, rfl, rfl⟩ | ⟨a, c, rfl, hs⟩
 ·rfl
 ·by_cases hl : l.length = 0
  ·have : l = [] := List.eq_nil_of_length_eq_zero hl;subst this;show (if 0 * sz = 0 then some (0, []) else _) = _;rw [if_pos zom];rfl
  ·have key : ∀ m (hm : m ≤ l.length), z0A H a (m * sz) = some ((l.take m).flatMap enc) := by
    intro m
    induction m with
    | zero =>
     intro _;have h1 := hs 0 zom;unfold z0A at h1 ⊢;split at h1
     ·rename_i c' e t r q ho;simp only [ho];split at h1
      ·rename_i hc;simp only [Nat.zero_mul, Nat.add_zero] at hc ⊢;rw [if_pos ⟨hc.1, zom⟩];rfl
      ·cases h1
     all_goals cases h1
    | succ m ih =>
     intro hm;have h1 := hs m zom;have h2 := ih zom;unfold z0A at h1 h2 ⊢;split at h1
     ·rename_i c' e t r q ho;simp only [ho] at h2 ⊢;split at h1
      ·rename_i hc;split at h2
       ·rw [if_pos ⟨hc.1, by have := hc.2; simp only at this; rw [Nat.add_mul]; omega⟩];simp only [Option.some.injEq] at h1 h2 ⊢;rw [Nat.add_mul, Nat.one_mul, List.take_add, h2, List.drop_drop, h1, List.take_add_one (l := l) (i := m), List.getElem?_eq_getElem (by omega : m < l.length)];show _ = (l.take m ++ [l[m]]).flatMap enc;rw [List.flatMap_append];simp
       ·cases h2
      ·cases h1
     all_goals cases h1
   show (if l.length * sz = 0 then some (l.length, []) else (z0A H a (l.length * sz)).map (l.length, ·)) = _;have : l.length * sz ≠ 0 := Nat.mul_ne_zero hl zom;rw [if_neg this, key l.length (Nat.le_refl _), List.take_length];rfl
theorem z0j (hk : ∀ x, (enc x).length = sz) (l : List α) : (l.flatMap enc).length = l.length * sz := by
 induction l with
 | nil => simp
 | cons x l ih => simp only [List.flatMap_cons, List.length_append, hk, ih, List.length_cons, Nat.add_mul]; omega
theorem z53 (hk : ∀ x, (enc x).length = sz) : ∀ (l : List α) (i : Nat) (h : i < l.length), ((l.flatMap enc).drop (i * sz)).take sz = enc l[i] := by
 intro l
 induction l with
 | nil => intro i h; simp at h
 | cons x l ih =>
  intro i h;cases i with
  | zero => simp [← hk x]
  | succ i =>
   rw [List.flatMap_cons, Nat.add_mul, Nat.one_mul, Nat.add_comm, ← List.drop_drop, List.drop_append_of_le_length (by rw [hk]; exact Nat.le_refl _)];rw [show (enc x).drop sz = [] by rw [List.drop_eq_nil_of_le]; rw [hk]; exact Nat.le_refl _];simpa using ih i (by simpa using h)
def OwnOf (enc : α → List Value) (sz : Nat) (el : TypeId) (H : Heap) (ob : Option (Nat × Nat)) (v : Value) (l : List α) : Prop := OwnRow H ob el sz v (l.flatMap enc) l.length
theorem OwnOf.at (hk : ∀ x, (enc x).length = sz) {el : TypeId} {ob : Option (Nat × Nat)} (h : OwnOf enc sz el H ob v l) : RowsAt enc sz H v l := by
 cases ob with
 | none =>
  obtain ⟨rfl, _, h2⟩ := h;exact .inl ⟨0, rfl, List.eq_nil_of_length_eq_zero h2⟩
 | some bt =>
  obtain ⟨b, t⟩ := bt;obtain ⟨rfl, _, rest, ho⟩ := h;refine .inr ⟨⟨b, 0, some t⟩, l.length, rfl, fun i hi => ?_⟩;have hfl := z0j hk l;have : (i + 1) * sz ≤ l.length * sz := Nat.mul_le_mul_right sz hi;rw [Nat.add_mul, Nat.one_mul] at this;unfold z0A;simp only [ho, Nat.zero_add];rw [if_pos ⟨trivial, by rw [List.length_append, hfl]; omega⟩, List.drop_append_of_le_length (by rw [hfl]; omega), List.take_append_of_le_length (by rw [List.length_drop, hfl]; omega), z53 hk l i hi]
theorem OwnOf.ext {el : TypeId} {ob : Option (Nat × Nat)} (hx : Ext nx H nx' H') (hlt : ∀ b t, ob = some (b, t) → b < nx) (h : OwnOf enc sz el H ob v l) : OwnOf enc sz el H' ob v l := OwnRow.ext hx hlt h
end
structure AppO {α : Type} (enc : α → List Value) (sz : Nat) (el : TypeId) (nx : Nat) (H : Heap) (ob : Option (Nat × Nat)) (l : List α) (v' : Value) (nx' : Nat) (H' : Heap) (ob' : Option (Nat × Nat)) : Prop where
 own : OwnOf enc sz el H' ob' v' l
 blk : ∀ b' t', ob' = some (b', t') → b' < nx' ∧ (b' = nx ∨ ∃ t, ob = some (b', t))
 le : nx ≤ nx'
 same : ∀ i, i < nx → (∀ b t, ob = some (b, t) → i ≠ b) → H' i = H i
 ok : (∀ b t, ob = some (b, t) → b < nx) → (∀ id o, H id = some o → id < nx) → ∀ id o, H' id = some o → id < nx'
section
variable {P : Program} {W0 : World} {H : Heap} {nx n : Nat} {ev : Operand → Option Value} {dst : Option Tmp} {type : TypeId} {pos : String} {after : Array Edge} {guard : Option (Nat × Bool)} {ops : Array Oper} {l : List Oper} {tm : Nat → Value} {QQ : ASt → Prop} {d : Tmp}
theorem z3S {t e : TypeId} {x : Operand} {k c : Nat} (hx : ev x = some (.slice none k c)) (hu : P.underlying t = some (.slice e)) : aop P H nx ev ⟨dst, .call ⟨.builtin .cap, #[x], #[t]⟩, type, pos, after, guard⟩ = some (.int .i64 c, .none) := by
 simp [aop, z0B, hx, z0F, zhV, hu]
theorem z4n {st xt el : TypeId} {kd : IntKind} {k size bytes : Nat} {z : List Value} {x y : Operand} (hx : ev x = some (.slice none 0 0)) (hy : ev y = some (.int .i64 k)) (hst : P.underlying st = some (.slice el)) (hxt : P.underlying xt = some (.int kd)) (hs : z1w P el = some size) (hb : z0v P el = some bytes) (hz : z0D P el = some z) (hzl : z.length = size) (hk : 0 < k) (hle : k ≤ 1099511627776) (hle2 : (2 * k + 192) * bytes ≤ 281474976710656) :
  aop P H nx ev ⟨dst, .call ⟨.builtin .append, #[x, y], #[st, xt]⟩, type, pos, after, guard⟩ = some (.slice (some ⟨nx, 0, some nx⟩) k k, .new (.cells (z0p z k) size (some nx) false (some el))) := by
 have h0 : ¬ ((k : Int) = 0) := by omega
 have h1 : (k : Int) ≤ 1099511627776 := by omega
 have hn : z32 (.int kd) = false := rfl;simp [aop, z0B, hx, hy, z0F, z2v, z5P, hst, hxt, hs, hb, hz, hzl, hn, h1, hle2, show k ≠ 0 by omega]
theorem zO {α : Type} {enc : α → List Value} {sz bytes : Nat} {z : List Value} {el st xt : TypeId} {ob : Option (Nat × Nat)} {v u : Value} {zs us : List α} {x y : Operand} (hk : ∀ x, (enc x).length = sz) (h1 : ∀ x, (enc x).all (·.oneCell') = true) (h0 : 0 < sz) (hd : d < n) (h : OwnOf enc sz el H ob v zs) (hu : RowsAt enc sz H u us) (hx : ASt.ev ⟨tm, n, H, nx⟩ x = some v) (hy : ASt.ev ⟨tm, n, H, nx⟩ y = some u) (hb : ∀ b t, ob = some (b, t) → b < nx)
  (hst : P.underlying st = some (.slice el)) (hxt : P.underlying xt = some (.slice el)) (hsz : z1w P el = some sz) (hby : z0v P el = some bytes) (hz : z0D P el = some z) (hzl : z.length = sz) (hle : zs.length + us.length ≤ 1000000) (hbl : bytes ≤ 1000)
  (hc : ∀ v' nx' H' ob', AppO enc sz el nx H ob (zs ++ us) v' nx' H' ob' → OpsL P W0 ops l ⟨zl tm (some d) v', n, H', nx'⟩ QQ) :
  OpsL P W0 ops (⟨some d, .call ⟨.builtin .append, #[x, y], #[st, xt]⟩, type, pos, after, none⟩ :: l) ⟨tm, n, H, nx⟩ QQ := by
 have hsrc := z7u hk h0 hu
 have hall : ∀ l : List α, (l.flatMap enc).all (·.oneCell') = true := fun l => by
  rw [List.all_eq_true];intro v hv;obtain ⟨x, _, hx⟩ := List.mem_flatMap.1 hv;exact List.all_eq_true.1 (h1 x) v hx
 have hm1 : (2 * (zs.length + us.length) + 192) * bytes ≤ 281474976710656 := by
  have : (2 * (zs.length + us.length) + 192) * bytes ≤ (2 * (zs.length + us.length) + 192) * 1000 := Nat.mul_le_mul_left _ hbl;omega
 by_cases hl0 : us.length = 0
 ·have : us = [] := List.eq_nil_of_length_eq_zero hl0;subst this
  have hop : aop P H nx (ASt.ev ⟨tm, n, H, nx⟩) ⟨some d, .call ⟨.builtin .append, #[x, y], #[st, xt]⟩, type, pos, after, none⟩ = some (v, .none) := by
   cases ob with
   | none =>
    obtain ⟨rfl, _, hz0⟩ := h;simp [aop, hx, hy, z0B, z0F, z2v, hst, hxt, hsz, hby, hz, hzl, hsrc, show z32 (.slice el) = true from rfl]
   | some bt =>
    obtain ⟨b, t⟩ := bt;obtain ⟨rfl, hc', rest, ho⟩ := h;simp [aop, hx, hy, z0B, z0F, z2v, hst, hxt, hsz, hby, hz, hzl, hsrc, ho, show z32 (.slice el) = true from rfl]
  refine z1R hd hop (hc v nx H ob ⟨by rw [List.append_nil]; exact h, fun b' t' e => ⟨hb b' t' e, .inr ⟨t', e⟩⟩, Nat.le_refl _, fun _ _ _ => rfl, fun _ h => h⟩)
 ·refine OpsL.append (sz := sz) (bytes := bytes) (k := zs.length) (m := us.length) (cs := zs.flatMap enc) (xs := us.flatMap enc) (ob := ob) (u := u) (xd := .slice el) (v := v) (el := el) (z := z) hd hx hy h hsrc (hall us) hl0 hst hxt rfl hsz hby hz hzl zom hm1 ?_;refine hc _ _ _ (some (z4A nx ob, nx)) ⟨?_, ?_, Nat.le_succ _, ?_, ?_⟩
  ·refine ⟨by rw [List.length_append], ?_, [], ?_⟩
   ·rw [z0j hk]
   ·rw [zb, List.flatMap_append, List.append_nil]
  ·intro b' t' e;cases e;cases ob with
   | none => exact ⟨Nat.lt_succ_self _, .inl rfl⟩
   | some bt => exact ⟨Nat.lt_succ_of_lt (hb bt.1 bt.2 rfl), .inr ⟨bt.2, rfl⟩⟩
  ·intro i hi hib;refine za ?_;cases ob with
   | none => simp only [z4A]; omega
   | some bt => exact hib bt.1 bt.2 rfl
  ·intro hb' hok id o ho;by_cases e : id = z4A nx ob
   ·subst e;cases ob with
    | none => exact Nat.lt_succ_self _
    | some bt => exact Nat.lt_succ_of_lt (hb' bt.1 bt.2 rfl)
   ·rw [za e] at ho;exact Nat.lt_succ_of_lt (hok id o ho)
end
end Go.Am
namespace Go.Proofs.YteplpegfcpmflaaGreat
open Go.Am Go.RowKit
theorem zfM (a n : Int) (h0 : 0 < n) (h : a.tmod n < 0) : a.tmod n + n = a % n := by
 have e : a % n = _ := @Int.emod_eq_tmod a n;have h3 := Int.emod_nonneg a (by omega : n ≠ 0);split at e <;> omega
theorem zfN (a n : Int) (h0 : 0 < n) (h : ¬ a.tmod n < 0) : a.tmod n = a % n := by
 have h1 := Int.tmod_lt_of_pos a h0;have hd := Int.mul_tdiv_add_tmod a n;have : a % n = (n * a.tdiv n + a.tmod n) % n := by rw [hd]
 rw [this, Int.mul_add_emod_self_left, Int.emod_eq_of_lt zom h1]
theorem zd0 {A : Prop} (h : A := by
 have g1 := Int.tmod_lt_of_pos a h0;have g2 := Int.lt_tmod_of_pos a h0;have hn : (n == 0) = false := by rw [beq_eq_false_iff_ne]; omega
 by_cases hk : a.tmod n < 0
 ·have e := zfM a n h0 hk;have E := Lib.hid e;clear e
  go_enter zp0, zp1
  go_wp2
  go_ret
  exact ⟨by rw [← E.out]; rfl, BelD.refl _ _⟩
 ·have e := zfN a n h0 hk;have E := Lib.hid e;clear e
  go_enter zp0, zp1
  go_wp2
  go_ret
  exact ⟨by rw [← E.out]; rfl, BelD.refl _ _⟩) : A := h
namespace zd0a
noncomputable section
abbrev zp0 := @Tryz.func23
abbrev zp1 := @Tryz.ntmps23
end
end zd0a
open zd0a in
theorem z8S (a n : Int) (h0 : 0 < n) (h1 : n ≤ 4611686018427387904) (w : World) : Calls Tryz.prog 23 #[.int .i64 a, .int .i64 n] w fun e w' => e = .returned (.int .i64 (a % n)) ∧ BelD w.heap.size w w' := zd0
theorem z2M : Am.z0O Tryz.prog 23 := ⟨Tryz.f23, Tryz.func23, by kernel_rfl, by kernel_rfl⟩
theorem z9Q (W0 : World) (a n k : Int) (h0 : 0 < n) (h1 : n ≤ 4611686018427387904) (hk : a % n = k) : zaV Tryz.prog W0 (23, [.int .i64 a, .int .i64 n], .int .i64 k) := by
 subst hk;exact z3u z2M rfl rfl (fun w => z8S a n h0 h1 w)
namespace zd0b
noncomputable section
abbrev zp0 := @Tryz.func22
abbrev zp1 := @Tryz.ntmps22
end
end zd0b
open zd0b in
theorem z7K (a n : Int) (h0 : 0 < n) (h1 : n ≤ 4611686018427387904) (w : World) : Calls Tryz.prog 22 #[.int .i64 a, .int .i64 n] w fun e w' => e = .returned (.int .i64 (a % n)) ∧ BelD w.heap.size w w' := zd0
theorem z1l : Am.z0O Tryz.prog 22 := ⟨Tryz.f22, Tryz.func22, by kernel_rfl, by kernel_rfl⟩
theorem z8T (W0 : World) (a n k : Int) (h0 : 0 < n) (h1 : n ≤ 4611686018427387904) (hk : a % n = k) : zaV Tryz.prog W0 (22, [.int .i64 a, .int .i64 n], .int .i64 k) := by
 subst hk;exact z3u z1l rfl rfl (fun w => z7K a n h0 h1 w)
end Go.Proofs.YteplpegfcpmflaaGreat
namespace Go.Proofs.YteplpegfcpmflaaGreat
open Go.Am Go.RowKit
attribute [local irreducible] aop OpsL Trip zI z2r
theorem z5Z (W0 : World) {nx : Nat} {H : Heap} (a m : Int) (h0 : 0 < m) (h1 : m ≤ 4611686018427387904) : ACalls Tryz.prog W0 22 [.int .i64 a, .int .i64 m] nx H fun v nx' H' => v = .int .i64 (a % m) ∧ nx' = nx ∧ H' = H :=
 (z8T W0 a m _ h0 h1 rfl).2 nx H
def SymsAt (H : Heap) (v : Value) (ss : List (ByteArray × Int)) : Prop :=
 ∃ a c, v = .slice (some a) ss.length c ∧ ∀ (i : Nat) (h : i < ss.length), z0A H ⟨a.block, a.off + i * 2, a.spot⟩ 2 = some [.string ss[i].1, .int .i64 ss[i].2]
theorem SymsAt.ext {nx nx' : Nat} {H H' : Heap} {v : Value} {ss : List (ByteArray × Int)} (h : Ext nx H nx' H') (hok : ∀ id o, H id = some o → id < nx) (hs : SymsAt H v ss) : SymsAt H' v ss := by
 obtain ⟨a, c, rfl, hs⟩ := hs;exact ⟨a, c, rfl, fun i q => z1r h hok (hs i q)⟩
def z4u (k : Nat) (ns : List Int) (most : Nat) : List Int := (ns.take most).map fun x => x % (k : Int)
theorem zii (W0 : World) {nx : Nat} {H : Heap} {lv nv : Value} {ss : List (ByteArray × Int)} {ns : List Int} {most : Nat} (hl : SymsAt H lv ss) (hs : 0 < ss.length) (hs2 : ss.length ≤ 1000) (hn : IntsAt H nv ns) (hm : most ≤ 1000000) :
  ACalls Tryz.prog W0 19 [lv, nv, .int .i64 most] nx H fun v nx' H' => (∃ ob, OwnInts H' ob 3 v (z4u ss.length ns most) ∧ ∀ b t, ob = some (b, t) → nx ≤ b ∧ b < nx') ∧ Ext nx H nx' H' := by
 obtain ⟨la, lc, rfl, hl⟩ := hl;obtain ⟨na, nc, rfl⟩ := hn.slice;refine zm (fn := Tryz.f19) (c := _) Tryz.func19 rfl (fun tm n hn0 htm => ?_);have e0 : tm 0 = .slice (some la) ss.length lc := htm 0;have e1 : tm 1 = .slice na ns.length nc := htm 1;have e2 : tm 2 = .int .i64 most := htm 2;clear htm;replace hn0 : n = 31 := hn0;refine Trip.ok fun hok => ?_;replace hok : ∀ id o, H id = some o → id < nx := hok;refine zg9 ?_
 refine zu (fun (i : Nat) s => ∃ (tm : Nat → Value) (nx' : Nat) (H' : Heap) (ob : Option (Nat × Nat)) (v : Value), s = ⟨tm, n, H', nx'⟩ ∧ Ext nx H nx' H' ∧ OwnInts H' ob 3 v (z4u ss.length ns i) ∧ (∀ b t, ob = some (b, t) → nx ≤ b ∧ b < nx') ∧
   tm 0 = .slice (some la) ss.length lc ∧ tm 1 = .slice na ns.length nc ∧ tm 2 = .int .i64 most ∧ tm 7 = v ∧ tm 8 = .int .i64 i ∧ i ≤ ns.length ∧ i ≤ most) (fun i => ns.length - i) 0 ?_ ?_
 ·exact ⟨_, _, _, none, _, rfl, Ext.refl, ⟨rfl, rfl, rfl⟩, fun _ _ h => (by cases h), e0, e1, e2, rfl, rfl, zom, zom⟩
 ·rintro i s ⟨tm, nx', H', ob, v, rfl, hext, hown, hob, e0, e1, e2, e7, e8, hi, him⟩;refine Trip.ok fun hok' => ?_;replace hok' : ∀ id o, H' id = some o → id < nx' := hok'
  repeat (first | (refine zd (by first | exact omv | exact zaH | exact z1D | exact z3i) ?_) | refine Trip.seq ?_ | refine zk ?_ | refine Trip.block ?_ | refine z1u (fun _ => ?_) (fun _ => ?_) | (refine Trip.skip ?_; (change Trip _ _ _ _ _)) | (refine OpsL.nil ?_; (change Trip _ _ _ _ _)) | refine zA ?_ | refine z54 (fun _ => ?_) (fun _ => ?_))
  ·have hlt : i < ns.length := by omega
   obtain ⟨p, rfl, hc⟩ := hn.get hlt
   replace hc : zh H' ⟨p.block, p.off + (i : Int).toNat * 1, p.spot⟩ (.int .i64 ns[i]) := by
    have := z1r hext hok hc;simpa [zh] using this
   repeat (refine zd (by first | exact omv | exact z1D | exact z2Z | exact old) ?_)
   refine OpsL.c2 (hf := z1l) (hc := (z5Z W0 _ _ zom zom)) (h := ?_);rintro v2 nx2 H2 ⟨rfl, rfl, rfl⟩;refine z1C zsd zsd evr (by decide) (by (simp only [zl, ↓reduceIte, reduceIte, Option.some.injEq, Nat.reduceEqDiff, *])) hown (fun b t hb => (hob b t hb).2) zxr zxr zxr zxr (by simp [z4u]; omega) ?_;rintro v' ob' H'' hown' ⟨b, rfl, hb⟩ hsame;refine zg7 ?_;refine ⟨i + 1, ⟨_, _, _, some (b, nx2 + 1), v', rfl, ?_, ?_, ?_, ?_, ?_, ?_, ?_, ?_, zom, zom⟩, zom⟩
   ·exact ⟨by have := hext.1; omega, fun k hk => by rw [hsame k (by have := hext.1; omega) (fun b t hb => by have := (hob b t hb).1; omega), hext.2 k hk]⟩
   ·have : z4u ss.length ns (i + 1) = z4u ss.length ns i ++ [ns[i] % (ss.length : Int)] := by
     unfold z4u;rw [List.take_succ_eq_append_getElem hlt, List.map_append];rfl
    rw [this];exact hown'
   ·intro b' t' hb';cases hb';rcases hb with rfl | ⟨t, hb⟩
    ·exact ⟨by have := hext.1; omega, zom⟩
    ·have := hob b t hb; exact ⟨zom, zom⟩
   ·simp [zl, *]
   ·simp [zl, *]
   ·simp [zl, *]
   ·simp [zl, *]
   ·simp [zl, *]
  ·repeat (first | (refine zd (by first | exact omv | exact z0y) ?_) | refine Trip.seq ?_ | refine zk ?_ | (refine Trip.exit ?_; ((repeat (refine zY ?_)); change Trip _ _ _ _ _)) | (refine Trip.ret ?_; (dsimp only)) | (refine OpsL.nil ?_; (change Trip _ _ _ _ _)))
   have hi2 : i = most := by omega
   subst hi2;exact ⟨.inr rfl, _, zy, ⟨ob, by simpa [zl, e7] using hown, hob⟩, hext⟩
  ·repeat (first | refine zd (by exact z2Y) ?_ | (refine OpsL.nil ?_; (change Trip _ _ _ _ _)) | refine zW ?_)
   refine z0h ?_;refine z9w ?_
   have hi2 : z4u ss.length ns most = z4u ss.length ns i := by
    unfold z4u;rw [List.take_of_length_le zom, List.take_of_length_le zom]
   refine ⟨.inr rfl, _, zy, ⟨ob, ?_, hob⟩, hext⟩;rw [hi2];simpa [zl, e7] using hown
def z31 : List (ByteArray × Int) := [(⟨#[97]⟩, 1), (⟨#[97]⟩, 2), (⟨#[98]⟩, 3), (⟨#[99]⟩, 1), (⟨#[99]⟩, 2), (⟨#[100]⟩, 3), (⟨#[120]⟩, 2)]
def z4x (n : Int) (ns : List Int) : List (ByteArray × Int) :=
 if n % 7 = 1 then [(⟨#[98]⟩, 3), (⟨#[97]⟩, 2), (⟨#[97]⟩, 1)]
 else match ns with
  | x :: _ => if n % 11 = 2 then (z31.drop (x % 7).toNat).take 1 else z31.take (3 + n % 5).toNat
  | [] => z31.take (3 + n % 5).toNat
theorem z77 : ∀ s ∈ z31, s.2 = 1 ∨ s.2 = 2 ∨ s.2 = 3 := by decide
theorem zbD (n : Int) (ns : List Int) : 0 < (z4x n ns).length ∧ (z4x n ns).length ≤ 7 ∧ ∀ s ∈ z4x n ns, s.2 = 1 ∨ s.2 = 2 ∨ s.2 = 3 := by
 have m5 := Int.emod_nonneg n (by omega : (5 : Int) ≠ 0);have m5' := Int.emod_lt_of_pos n (by omega : (0 : Int) < 5);have hb : z31.length = 7 := rfl
 have htake : 0 < (z31.take (3 + n % 5).toNat).length ∧ (z31.take (3 + n % 5).toNat).length ≤ 7 ∧ ∀ s ∈ z31.take (3 + n % 5).toNat, s.2 = 1 ∨ s.2 = 2 ∨ s.2 = 3 :=
  ⟨by rw [List.length_take]; omega, by rw [List.length_take]; omega, fun s hs => z77 s (List.mem_of_mem_take hs)⟩
 unfold z4x;split
 ·exact ⟨by simp, by simp, by simp⟩
 ·split
  ·rename_i x l;have x7 := Int.emod_nonneg x (by omega : (7 : Int) ≠ 0);have x7' := Int.emod_lt_of_pos x (by omega : (0 : Int) < 7);split
   ·refine ⟨?_, ?_, fun s hs => z77 s (List.mem_of_mem_drop (List.mem_of_mem_take hs))⟩ <;> (rw [List.length_take, List.length_drop]; omega)
   ·exact htake
  ·exact htake
theorem zdc {k : Nat} {ns : List Int} {most : Nat} (hk : 0 < k) : ∀ x ∈ z4u k ns most, 0 ≤ x ∧ x < k := by
 intro x hx;unfold z4u at hx;rw [List.mem_map] at hx;obtain ⟨y, _, rfl⟩ := hx;exact ⟨Int.emod_nonneg _ zom, Int.emod_lt_of_pos _ zom⟩
theorem z8R {k : Nat} {ns : List Int} {most : Nat} : (z4u k ns most).length ≤ most := by
 unfold z4u;rw [List.length_map, List.length_take];omega
theorem z71 : Am.z0O Tryz.prog 7 := ⟨Tryz.f7, Tryz.func7, by kernel_rfl, by kernel_rfl⟩
theorem zbV : Am.z0O Tryz.prog 19 := ⟨Tryz.f19, Tryz.func19, by kernel_rfl, by kernel_rfl⟩
def z7r : List Value := [.string ⟨#[97]⟩, .int .i64 1, .string ⟨#[97]⟩, .int .i64 2, .string ⟨#[98]⟩, .int .i64 3, .string ⟨#[99]⟩, .int .i64 1, .string ⟨#[99]⟩, .int .i64 2, .string ⟨#[100]⟩, .int .i64 3, .string ⟨#[120]⟩, .int .i64 2]
theorem zgL (W0 : World) {nx : Nat} {H : Heap} {nv : Value} {m : Int} {ns : List Int} (hn : IntsAt H nv ns) :
  ACalls Tryz.prog W0 7 [.int .i64 m, nv] nx H fun v nx' H' => SymsAt H' v (z4x m ns) ∧ Ext nx H nx' H' := by
 obtain ⟨na, nc, rfl⟩ := hn.slice;refine zm (fn := Tryz.f7) (c := _) Tryz.func7 rfl (fun tm n hn0 htm => ?_);have e0 : tm 0 = .int .i64 m := htm 0;have e1 : tm 1 = .slice na ns.length nc := htm 1;clear htm;replace hn0 : n = 50 := hn0;refine Trip.ok fun hok => ?_;replace hok : ∀ id o, H id = some o → id < nx := hok;refine z9q ?_;refine zd (zC (v := .agg #[.string ⟨#[97]⟩, .int .i64 1]) zxr zxr) ?_;refine zd (zC (v := .agg #[.string ⟨#[97]⟩, .int .i64 2]) zxr zxr) ?_;refine zd (zC (v := .agg #[.string ⟨#[98]⟩, .int .i64 3]) zxr zxr) ?_;refine zd (zC (v := .agg #[.string ⟨#[99]⟩, .int .i64 1]) zxr zxr) ?_;refine zd (zC (v := .agg #[.string ⟨#[99]⟩, .int .i64 2]) zxr zxr) ?_;refine zd (zC (v := .agg #[.string ⟨#[100]⟩, .int .i64 3]) zxr zxr) ?_;refine zd (zC (v := .agg #[.string ⟨#[120]⟩, .int .i64 2]) zxr zxr) ?_;refine OpsL.new (o := .cells z7r 2 none false (some 47)) zsd (zq (l := [(0, .agg #[.string ⟨#[97]⟩, .int .i64 1]), (1, .agg #[.string ⟨#[97]⟩, .int .i64 2]), (2, .agg #[.string ⟨#[98]⟩, .int .i64 3]), (3, .agg #[.string ⟨#[99]⟩, .int .i64 1]), (4, .agg #[.string ⟨#[99]⟩, .int .i64 2]), (5, .agg #[.string ⟨#[100]⟩, .int .i64 3]), (6, .agg #[.string ⟨#[120]⟩, .int .i64 2])]) (by simp only [z0i, ASt.ev, zl, ↓reduceIte, reduceIte, Option.some.injEq, Nat.reduceEqDiff]) zxr) ?_;refine z6v ?_;refine OpsL.c2 (hf := z1l) (hc := (z5Z W0 _ _ zom zom)) (h := ?_);rintro v nx1 H1 ⟨rfl, rfl, rfl⟩;have m5 := Int.emod_nonneg m (by omega : (5 : Int) ≠ 0);have m5' := Int.emod_lt_of_pos m (by omega : (0 : Int) < 5)
 repeat (first | (refine zd (by first | exact omv | exact z0y | exact z5G) ?_) | refine Trip.seq ?_ | refine zk ?_ | (refine OpsL.nil ?_; (change Trip _ _ _ _ _)))
 refine OpsL.c2 (hf := z1l) (hc := (z5Z W0 _ _ zom zom)) (h := ?_);rintro v nx1 H1 ⟨rfl, rfl, rfl⟩
 have hall : ∀ (i : Nat) (h : i < z31.length) (k : Nat), k = i * 2 → z0A (H.put nx (.cells z7r 2 none false (some 47))) ⟨nx, k, none⟩ 2 = some [.string z31[i].1, .int .i64 z31[i].2] := by
  intro i h k hk;subst hk;have : i = 0 ∨ i = 1 ∨ i = 2 ∨ i = 3 ∨ i = 4 ∨ i = 5 ∨ i = 6 := by simp [z31] at h; omega
  rcases this with rfl | rfl | rfl | rfl | rfl | rfl | rfl <;> (rw [z01 (by decide)]; rfl)
 repeat (first | refine zd (by exact zfr) ?_ | refine Trip.seq ?_ | refine z1u (fun _ => ?_) (fun _ => ?_) | (refine OpsL.nil ?_; (change Trip _ _ _ _ _)))
 ·rename_i h7;refine OpsL.drawn krf krf krf ?_
  repeat (refine zd (by first | exact omv | exact z2Z) ?_)
  refine zd (zg (k := 2) evr zxr rfl zxr (hall 2 (by decide) _ zxr)) ?_
  repeat (refine zd (by first | exact omv | exact z2Z) ?_)
  refine zd (zg (k := 2) evr zxr rfl zxr (hall 1 (by decide) _ zxr)) ?_
  repeat (refine zd (by first | exact omv | exact z2Z) ?_)
  refine zd (zg (k := 2) evr zxr rfl zxr (hall 0 (by decide) _ zxr)) ?_
  refine OpsL.new (o := .cells [.string ⟨#[98]⟩, .int .i64 3, .string ⟨#[97]⟩, .int .i64 2, .string ⟨#[97]⟩, .int .i64 1] 2 none false (some 47)) zsd
   (zq (l := [(0, .agg #[.string ⟨#[98]⟩, .int .i64 3]), (1, .agg #[.string ⟨#[97]⟩, .int .i64 2]), (2, .agg #[.string ⟨#[97]⟩, .int .i64 1])]) (by simp only [z0i, ASt.ev, zl, ↓reduceIte, reduceIte, Option.some.injEq, Nat.reduceEqDiff]; rfl) zxr) ?_
  refine zhP ?_;refine ⟨.inr rfl, _, zy, ?_, ⟨by show nx ≤ nx + 1 + 1; omega, fun i hi => by rw [za zom, za zom]⟩⟩;have hsy : z4x m ns = [(⟨#[98]⟩, 3), (⟨#[97]⟩, 2), (⟨#[97]⟩, 1)] := by unfold z4x; rw [if_pos h7]
  rw [hsy];refine ⟨⟨nx + 1, 0, none⟩, 3, by simp [zl], fun i hi => ?_⟩;have : i = 0 ∨ i = 1 ∨ i = 2 := by simp at hi; omega
  rcases this with rfl | rfl | rfl <;> (rw [z01 (by show 0 + _ * 2 + 2 ≤ 6; decide)]; rfl)
 ·rename_i h7;refine zdV ?_;refine OpsL.c2 (hf := z1l) (hc := (z5Z W0 _ _ zom zom)) (h := ?_);rintro v nx1 H1 ⟨rfl, rfl, rfl⟩
  repeat' (first | (refine zd (by first | exact omv | exact zj4 | exact zfr | exact z1D | exact z3i | exact z2Y) ?_) | refine Trip.seq ?_ | refine zk ?_ | refine z1u (fun _ => ?_) (fun _ => ?_) | (refine Trip.skip ?_; (change Trip _ _ _ _ _)) | (refine OpsL.nil ?_; (change Trip _ _ _ _ _)) | refine zA ?_ | refine zW ?_ | refine z54 (fun _ => ?_) (fun _ => ?_))
  ·rename_i h11 hlen;obtain ⟨x, ns, rfl⟩ : ∃ x l, ns = x :: l := by cases ns with | nil => simp at hlen | cons x l => exact ⟨x, l, rfl⟩
   obtain ⟨p, rfl, hc⟩ := hn.get (i := 0) (by simp)
   replace hc : zh (H.put nx (.cells z7r 2 none false (some 47))) ⟨p.block, p.off + (0 : Int).toNat * 1, p.spot⟩ (.int .i64 x) := by
    obtain ⟨o, ho⟩ := z1J hc;have := hok _ _ ho;unfold zh at *;rw [zez (by simp only at this ⊢; omega)];exact hc
   have x7 := Int.emod_nonneg x (by omega : (7 : Int) ≠ 0);have x7' := Int.emod_lt_of_pos x (by omega : (0 : Int) < 7)
   repeat (refine zd (by first | exact z2Z | exact old) ?_)
   refine OpsL.c2 (hf := z1l) (hc := (z5Z W0 _ _ zom zom)) (h := ?_);rintro v nx1 H1 ⟨rfl, rfl, rfl⟩;refine zcu ?_;have h7l : (x % 7).toNat < z31.length := by show _ < 7; omega
   refine zd (zg (k := 2) evr zxr rfl zxr (hall (x % 7).toNat h7l _ (by show 0 + _ * 2 = _; omega))) ?_
   refine OpsL.new (o := .cells [.string z31[(x % 7).toNat].1, .int .i64 z31[(x % 7).toNat].2] 2 none false (some 47)) zsd
    (zq (l := [(0, .agg [.string z31[(x % 7).toNat].1, .int .i64 z31[(x % 7).toNat].2].toArray)]) (by simp only [z0i, ASt.ev, zl, ↓reduceIte, reduceIte, Option.some.injEq, Nat.reduceEqDiff]) zxr) ?_
   refine zhP ?_;refine ⟨.inr rfl, _, zy, ?_, ⟨by show nx ≤ nx + 1 + 1; omega, fun i hi => by rw [za zom, za zom]⟩⟩
   have hsy : z4x m (x :: ns) = [z31[(x % 7).toNat]] := by
    unfold z4x;rw [if_neg h7];simp only [h11, if_true];rw [List.take_one, List.head?_drop, List.getElem?_eq_getElem h7l];rfl
   rw [hsy];refine ⟨⟨nx + 1, 0, none⟩, 1, by simp [zl], fun i hi => ?_⟩;have : i = 0 := by simp at hi; omega
   subst this;rw [z01 (by show 0 + 0 * 2 + 2 ≤ 2; omega)];rfl
  all_goals
   try refine z0h ?_
   refine zdV ?_
   refine zd (z06 (a := none) (b := some (.int .i64 (3 + m % 5))) (c := none) evr rfl (by simp only [z2d, ASt.ev, zl, ↓reduceIte, reduceIte, Option.some.injEq, Nat.reduceEqDiff, Option.map_some]) rfl
    (z5s (l := 0) (h := (3 + m % 5).toNat) (sz := 2) zxr zxr zb rfl rfl (.inl ⟨rfl, rfl⟩) (.inr ⟨.i64, by congr 2; omega⟩) zom zom)) ?_
   refine zhP ?_;refine ⟨.inr rfl, _, zy, ?_, ⟨by show nx ≤ nx + 1; omega, fun i hi => by rw [za zom]⟩⟩
   have hsy : z4x m ns = z31.take (3 + m % 5).toNat := by
    unfold z4x;rw [if_neg h7];cases ns with
    | nil => rfl
    | cons x l => simp_all
   have hlen : (z31.take (3 + m % 5).toNat).length = (3 + m % 5).toNat := by
    rw [List.length_take]; show min _ 7 = _; omega
   rw [hsy];refine ⟨⟨nx, 0, none⟩, 7, by rw [hlen]; simp [zl], fun i hi => ?_⟩;rw [hlen] at hi;rw [List.getElem_take];exact hall i (by show i < 7; omega) _ (by show 0 + i * 2 = _; omega)
end Go.Proofs.YteplpegfcpmflaaGreat
namespace Go.Am
open Go.RowKit
section
variable {P : Program} {W0 : World} {ops : Array Oper} {H : Heap} {nx n : Nat} {type : TypeId} {pos : String} {after : Array Edge} {l : List Oper} {tm : Nat → Value} {QQ : ASt → Prop} {d : Tmp} {ts : Array TypeId} {f : FuncId} {R : Value → Nat → Heap → Prop}
theorem z0V {c x : Operand} {a : Value} {cap : Array Value} (hd : d < n) (hc : ASt.ev ⟨tm, n, H, nx⟩ c = some (.func (.func f) #[] cap)) (hx : ASt.ev ⟨tm, n, H, nx⟩ x = some a) (hf : z0O P f) (hcall : ACalls P W0 f (a :: cap.toList) nx H R) (h : ∀ v nx' H', R v nx' H' → OpsL P W0 ops l ⟨zl tm (some d) v, n, H', nx'⟩ QQ) :
  OpsL P W0 ops (⟨some d, .call ⟨.value c, #[x], ts⟩, type, pos, after, none⟩ :: l) ⟨tm, n, H, nx⟩ QQ :=
 OpsL.call R (by simp [z16, hd]) rfl (by simp [z0R, hc, z0B, hx]) hf hcall h
theorem z4q {c x y : Operand} {a b : Value} {cap : Array Value} (hd : d < n) (hc : ASt.ev ⟨tm, n, H, nx⟩ c = some (.func (.func f) #[] cap)) (hx : ASt.ev ⟨tm, n, H, nx⟩ x = some a) (hy : ASt.ev ⟨tm, n, H, nx⟩ y = some b) (hf : z0O P f) (hcall : ACalls P W0 f (a :: b :: cap.toList) nx H R) (h : ∀ v nx' H', R v nx' H' → OpsL P W0 ops l ⟨zl tm (some d) v, n, H', nx'⟩ QQ) :
  OpsL P W0 ops (⟨some d, .call ⟨.value c, #[x, y], ts⟩, type, pos, after, none⟩ :: l) ⟨tm, n, H, nx⟩ QQ :=
 OpsL.call R (by simp [z16, hd]) rfl (by simp [z0R, hc, z0B, hx, hy]) hf hcall h
theorem z2c {ev : Operand → Option Value} {dst : Option Tmp} {guard : Option (Nat × Bool)} {fn : Fn} {first cap : Array Operand} {a b : List Value} (h1 : z0B ev first.toList = some a) (h2 : z0B ev cap.toList = some b) :
  aop P H nx ev ⟨dst, .makeFunc fn first cap, type, pos, after, guard⟩ = some (.func fn a.toArray b.toArray, .none) := by simp [aop, h1, h2]
end
theorem ze {H : Heap} {b e k : Nat} {cs : List Value} {tg : Option Nat} {ro : Bool} {q : Option TypeId} {v : Value} (hH : H b = some (.cells cs e tg ro q)) (h : cs[k]? = some v) : zh H ⟨b, k, tg⟩ v := by
 obtain ⟨hk, rfl⟩ := List.getElem?_eq_some_iff.1 h;exact z3e hH hk
theorem zH {H : Heap} {b e : Nat} {cs : List Value} {tg : Option Nat} {ro : Bool} {q : Option TypeId} {m : Nat} (hH : H b = some (.cells cs e tg ro q)) (h : cs.length = m) : z0A H ⟨b, 0, tg⟩ m = some cs := by
 unfold z0A;simp only [hH];rw [if_pos ⟨trivial, zom⟩];simp [← h]
theorem zN {nx nx' : Nat} {H H' : Heap} {a : Addr} {v : Value} (h : Ext nx H nx' H') (hok : ∀ id o, H id = some o → id < nx) (hc : zh H a v) : zh H' a v := z1r h hok hc
theorem zX {α : Type} {enc : α → List Value} {sz : Nat} {H : Heap} {a : Option Addr} {c : Nat} {l : List α} (h : RowsAt enc sz H (.slice a l.length c) l) {i : Nat} (hi : i < l.length) : ∃ p, a = some p ∧ z0A H ⟨p.block, p.off + (i : Int).toNat * sz, p.spot⟩ sz = some (enc l[i]) := by
 rcases h with ⟨c', h1, rfl⟩ | ⟨p, c', h1, hs⟩
 ·exact absurd hi (by simp)
 ·obtain ⟨rfl, _, _⟩ := Value.slice.inj h1;exact ⟨p, rfl, by rw [Int.toNat_natCast]; exact hs i hi⟩
theorem z0g {H : Heap} {a : Option Addr} {c : Nat} {l : List Int} (h : IntsAt H (.slice a l.length c) l) {i : Nat} (hi : i < l.length) : ∃ p, a = some p ∧ zh H ⟨p.block, p.off + (i : Int).toNat * 1, p.spot⟩ (.int .i64 l[i]) := by
 obtain ⟨p, h1, h2⟩ := h.get hi;exact ⟨p, h1, by simpa using h2⟩
abbrev R4 := Int × Int × Int × Int
abbrev R3 := Int × Int × Int
def e4 (r : R4) : List Value := [.int .i64 r.1, .int .i64 r.2.1, .int .i64 r.2.2.1, .int .i64 r.2.2.2]
def e3 (r : R3) : List Value := [.int .i64 r.1, .int .i64 r.2.1, .int .i64 r.2.2]
structure Aut where
 N : Int
 G : Int
 init : List Int
 final : List Int
 opens : List R4
 closes : List R4
 inners : List R3
def zz (a : Aut) (vi vf vo vc vn : Value) : List Value := [.int .i64 a.N, .int .i64 a.G, vi, vf, vo, vc, vn]
structure AutIn (H : Heap) (a : Aut) (vi vf vo vc vn : Value) : Prop where
 init : IntsAt H vi a.init
 final : IntsAt H vf a.final
 opens : RowsAt e4 4 H vo a.opens
 closes : RowsAt e4 4 H vc a.closes
 inners : RowsAt e3 3 H vn a.inners
theorem AutIn.ext {nx nx' : Nat} {H H' : Heap} {a : Aut} {vi vf vo vc vn : Value} (h : Ext nx H nx' H') (hok : ∀ id o, H id = some o → id < nx) (ha : AutIn H a vi vf vo vc vn) : AutIn H' a vi vf vo vc vn :=
 ⟨ha.init.ext h hok, ha.final.ext h hok, ha.opens.ext h hok, ha.closes.ext h hok, ha.inners.ext h hok⟩
structure AutLen (a : Aut) : Prop where
 init : a.init.length ≤ 1000
 final : a.final.length ≤ 1000
 opens : a.opens.length ≤ 1000
 closes : a.closes.length ≤ 1000
 inners : a.inners.length ≤ 1000
def btF (n a b : Int) : Bool := decide (a ≤ n) && decide (n ≤ b)
def stF (N s : Int) : Bool := decide (0 ≤ s) && decide (s < N)
def kdF (ss : List (ByteArray × Int)) (s k : Int) : Bool := decide (0 ≤ s) && decide (s < ss.length) && (match ss[s.toNat]? with | some x => decide (x.2 = k) | none => false)
def okO (ss : List (ByteArray × Int)) (a : Aut) (r : R4) : Bool := stF a.N r.1 && kdF ss r.2.1 1 && stF a.N r.2.2.1 && btF r.2.2.2 1 a.G
def okC (ss : List (ByteArray × Int)) (a : Aut) (r : R4) : Bool := stF a.N r.1 && kdF ss r.2.1 2 && stF a.N r.2.2.2 && btF r.2.2.1 0 a.G
def okI (ss : List (ByteArray × Int)) (a : Aut) (r : R3) : Bool := stF a.N r.1 && kdF ss r.2.1 3 && stF a.N r.2.2
def z9D (a : Aut) : Bool := btF a.N 0 200 && btF a.G 0 10000 && decide (((a.opens.length : Int) + a.closes.length) + a.inners.length ≤ 100000)
def z2I (ss : List (ByteArray × Int)) (a : Aut) : Bool := z9D a && a.init.all (stF a.N) && a.final.all (stF a.N) && a.opens.all (okO ss a) && a.closes.all (okC ss a) && a.inners.all (okI ss a)
theorem z5M {α : Type} {p : α → Bool} {l : List α} {i : Nat} (h : i < l.length) (ht : (l.take i).all p = true) (hi : p l[i] = true) : (l.take (i + 1)).all p = true := by
 rw [List.take_succ_eq_append_getElem h, List.all_append, ht];simp [hi]
theorem zaO {α : Type} {p : α → Bool} {l : List α} {i : Nat} (h : i < l.length) (hi : p l[i] = false) : l.all p = false := by
 rw [List.all_eq_false];exact ⟨_, List.getElem_mem h, by simp [hi]⟩
end Go.Am
namespace Go.Proofs.YteplpegfcpmflaaGreat
open Go.Am Go.RowKit
attribute [local irreducible] aop OpsL Trip zI z2r
theorem z2p : Am.z0O Tryz.prog 36 := ⟨Tryz.f36, Tryz.func36, by kernel_rfl, by kernel_rfl⟩
theorem z1b : Am.z0O Tryz.prog 33 := ⟨Tryz.f33, Tryz.func33, by kernel_rfl, by kernel_rfl⟩
theorem z5b : Am.z0O Tryz.prog 34 := ⟨Tryz.f34, Tryz.func34, by kernel_rfl, by kernel_rfl⟩
theorem zbY : Am.z0O Tryz.prog 35 := ⟨Tryz.f35, Tryz.func35, by kernel_rfl, by kernel_rfl⟩
theorem zao : Am.z0O Tryz.prog 37 := ⟨Tryz.f37, Tryz.func37, by kernel_rfl, by kernel_rfl⟩
theorem zbW : Am.z0O Tryz.prog 38 := ⟨Tryz.f38, Tryz.func38, by kernel_rfl, by kernel_rfl⟩
theorem zbX : Am.z0O Tryz.prog 39 := ⟨Tryz.f39, Tryz.func39, by kernel_rfl, by kernel_rfl⟩
theorem z6e : Am.z0O Tryz.prog 29 := ⟨Tryz.f29, Tryz.func29, by kernel_rfl, by kernel_rfl⟩
theorem z6k : Am.z0O Tryz.prog 16 := ⟨Tryz.f16, Tryz.func16, by kernel_rfl, by kernel_rfl⟩
theorem z5L (W0 : World) {nx : Nat} {H : Heap} (x a b : Int) :
  ACalls Tryz.prog W0 36 [.int .i64 x, .int .i64 a, .int .i64 b] nx H fun v nx' H' => v = .bool (btF x a b) ∧ nx' = nx ∧ H' = H := by
 refine zm (fn := Tryz.f36) (c := _) Tryz.func36 rfl (fun tm n hn0 htm => ?_);have e0 : tm 0 = .int .i64 x := htm 0;have e1 : tm 1 = .int .i64 a := htm 1;have e2 : tm 2 = .int .i64 b := htm 2;clear htm;replace hn0 : n = 15 := hn0
 repeat' (first | (refine zd (by first | exact omv | exact z0y | exact zgr | exact z3i | exact z2Y) ?_) | refine Trip.seq ?_ | refine zk ?_ | (refine Trip.ret ?_; (dsimp only)) | (refine OpsL.nil ?_; (change Trip _ _ _ _ _)) | refine zA ?_ | refine zW ?_ | refine z54 (fun _ => ?_) (fun _ => ?_))
 all_goals (exact ⟨.inr rfl, _, zy, by simp [zl, btF, *], rfl, rfl⟩)
theorem z5k (W0 : World) {nx : Nat} {H : Heap} {b : Nat} {N : Int} (s : Int) (hN : zh H ⟨b, 0, none⟩ (.int .i64 N)) :
  ACalls Tryz.prog W0 33 [.int .i64 s, .pointer (some ⟨b, 0, none⟩)] nx H fun v nx' H' => v = .bool (stF N s) ∧ nx' = nx ∧ H' = H := by
 refine zm (fn := Tryz.f33) (c := _) Tryz.func33 rfl (fun tm n hn0 htm => ?_);have e0 : tm 0 = .int .i64 s := htm 0;have e1 : tm 1 = .pointer (some ⟨b, 0, none⟩) := htm 1;clear htm;replace hn0 : n = 12 := hn0
 repeat' (first | (refine zd (by first | exact omv | exact z0y | exact zaH | exact zgr | exact ofa | exact old | exact z3i | exact z2Y) ?_) | refine Trip.seq ?_ | refine zk ?_ | (refine Trip.ret ?_; (dsimp only)) | (refine OpsL.nil ?_; (change Trip _ _ _ _ _)) | refine zA ?_ | refine zW ?_ | refine z54 (fun _ => ?_) (fun _ => ?_))
 all_goals (exact ⟨.inr rfl, _, zy, by simp [zl, stF, *], rfl, rfl⟩)
theorem zfI (W0 : World) {nx : Nat} {H : Heap} {b : Nat} {lv : Value} {ss : List (ByteArray × Int)} (s k : Int) (hc : zh H ⟨b, 0, none⟩ lv) (hl : SymsAt H lv ss) (hss : ss.length ≤ 1000) :
  ACalls Tryz.prog W0 34 [.int .i64 s, .int .i64 k, .pointer (some ⟨b, 0, none⟩)] nx H fun v nx' H' => v = .bool (kdF ss s k) ∧ nx' = nx ∧ H' = H := by
 obtain ⟨la, lc, rfl, hl⟩ := hl;refine zm (fn := Tryz.f34) (c := _) Tryz.func34 rfl (fun tm n hn0 htm => ?_);have e0 : tm 0 = .int .i64 s := htm 0;have e1 : tm 1 = .int .i64 k := htm 1;have e2 : tm 2 = .pointer (some ⟨b, 0, none⟩) := htm 2;clear htm;replace hn0 : n = 23 := hn0;by_cases h0 : 0 ≤ s
 ·obtain ⟨i, rfl⟩ : ∃ i : Nat, s = i := ⟨s.toNat, zom⟩;by_cases h1 : i < ss.length
  ·have hc1 := z2W (hl i h1);dsimp only at hc1;have hc2 : zh H ⟨la.block, la.off + (i : Int).toNat * 2 + 1, la.spot⟩ (.int .i64 ss[i].2) := by simpa using hc1
   have hk : kdF ss i k = decide (ss[i].2 = k) := by
    unfold kdF;rw [Int.toNat_natCast, List.getElem?_eq_getElem h1];simp [h1]
   repeat' (first | (refine zd (by first | exact omv | exact z0y | exact zaH | exact zgr | exact zfr | exact z1D | exact z2Z | exact ofa | exact old | exact z3i | exact z2Y) ?_) | refine Trip.seq ?_ | refine zk ?_ | (refine Trip.ret ?_; (dsimp only)) | (refine OpsL.nil ?_; (change Trip _ _ _ _ _)) | refine zA ?_ | refine zW ?_ | refine z54 (fun _ => ?_) (fun _ => ?_))
   all_goals first | omega | skip
   all_goals (exact ⟨.inr rfl, _, zy, by rw [hk]; simp [zl, *], rfl, rfl⟩)
  ·have hk : kdF ss i k = false := by
    unfold kdF;simp [h1]
   repeat' (first | (refine zd (by first | exact omv | exact z0y | exact zaH | exact zgr | exact z1D | exact z2Z | exact ofa | exact old | exact z3i | exact z2Y) ?_) | refine Trip.seq ?_ | refine zk ?_ | (refine Trip.ret ?_; (dsimp only)) | (refine OpsL.nil ?_; (change Trip _ _ _ _ _)) | refine zA ?_ | refine zW ?_ | refine z54 (fun _ => ?_) (fun _ => ?_))
   all_goals first | omega | skip
   all_goals (exact ⟨.inr rfl, _, zy, by rw [hk]; simp [zl, *], rfl, rfl⟩)
 ·have hk : kdF ss s k = false := by
   unfold kdF;simp [h0]
  repeat' (first | (refine zd (by first | exact omv | exact z0y | exact zgr | exact z2Y) ?_) | refine Trip.seq ?_ | refine zk ?_ | (refine Trip.ret ?_; (dsimp only)) | (refine OpsL.nil ?_; (change Trip _ _ _ _ _)) | refine zW ?_)
  all_goals first | omega | skip
  all_goals (exact ⟨.inr rfl, _, zy, by rw [hk]; simp [zl, *], rfl, rfl⟩)
structure Ctx (H : Heap) (b2 b3 b5 b6 : Nat) (lv : Value) (N G : Int) : Prop where
 c2 : zh H ⟨b2, 0, none⟩ lv
 cN : zh H ⟨b3, 0, none⟩ (.int .i64 N)
 cG : zh H ⟨b3, 1, none⟩ (.int .i64 G)
 c5 : zh H ⟨b5, 0, none⟩ (.func (.func 33) #[] #[.pointer (some ⟨b3, 0, none⟩)])
 c6 : zh H ⟨b6, 0, none⟩ (.func (.func 34) #[] #[.pointer (some ⟨b2, 0, none⟩)])
theorem Ctx.ext {nx nx' : Nat} {H H' : Heap} {b2 b3 b5 b6 : Nat} {lv : Value} {N G : Int} (h : Ext nx H nx' H') (hok : ∀ id o, H id = some o → id < nx) (hc : Ctx H b2 b3 b5 b6 lv N G) : Ctx H' b2 b3 b5 b6 lv N G :=
 ⟨zN h hok hc.c2, zN h hok hc.cN, zN h hok hc.cG, zN h hok hc.c5, zN h hok hc.c6⟩
theorem zio (W0 : World) {nx : Nat} {H : Heap} {b2 b3 b5 b6 : Nat} {lv : Value} {ss : List (ByteArray × Int)} {a : Aut} (r : R4) (hc : Ctx H b2 b3 b5 b6 lv a.N a.G) (hl : SymsAt H lv ss) (hss : ss.length ≤ 1000) :
  ACalls Tryz.prog W0 35 [.agg (e4 r).toArray, .pointer (some ⟨b5, 0, none⟩), .pointer (some ⟨b6, 0, none⟩), .pointer (some ⟨b3, 0, none⟩)] nx H fun v nx' H' => v = .bool (okO ss a r) ∧ Ext nx H nx' H' := by
 refine zm (fn := Tryz.f35) (c := _) Tryz.func35 rfl (fun tm n hn0 htm => ?_);have e0 : tm 0 = .agg (e4 r).toArray := htm 0;have e1 : tm 1 = .pointer (some ⟨b5, 0, none⟩) := htm 1;have e2 : tm 2 = .pointer (some ⟨b6, 0, none⟩) := htm 2;have e3 : tm 3 = .pointer (some ⟨b3, 0, none⟩) := htm 3;clear htm;replace hn0 : n = 29 := hn0;refine Trip.ok fun hok => ?_;replace hok : ∀ id o, H id = some o → id < nx := hok;refine z5h ?_;refine OpsL.new zsd (z0a evr) ?_;obtain ⟨F, hF⟩ : ∃ F, F = H.put nx (.cells (Value.agg (e4 r).toArray).cells.toList 0 none false (some 43)) := ⟨_, rfl⟩;have hx0 : Ext nx H (nx + 1) F := by rw [hF]; exact zj
 have hFn : F nx = some (.cells (e4 r) 0 none false (some 43)) := by rw [hF, zb]; rfl
 obtain ⟨c2, cN, cG, c5, c6⟩ := hc.ext hx0 hok;replace hl := hl.ext hx0 hok;have g0 : zh F ⟨nx, 0, none⟩ (.int .i64 r.1) := ze hFn rfl;have g1 : zh F ⟨nx, 1, none⟩ (.int .i64 r.2.1) := ze hFn rfl;have g2 : zh F ⟨nx, 2, none⟩ (.int .i64 r.2.2.1) := ze hFn rfl;have g3 : zh F ⟨nx, 3, none⟩ (.int .i64 r.2.2.2) := ze hFn rfl;rw [← hF];clear hF;refine zhL ?_;refine z0V (cap := #[.pointer (some ⟨b3, 0, none⟩)]) zsd evd evr z1b (z5k W0 _ cN) ?_;rintro v2 n2 H2 ⟨rfl, rfl, rfl⟩;cases hs1 : stF a.N r.1
 ·repeat' (first | (refine zd (by first | exact omv | exact z0y | exact z2Y) ?_) | (refine Trip.ret ?_; (dsimp only)) | (refine OpsL.nil ?_; (change Trip _ _ _ _ _)) | refine zW ?_)
  exact ⟨.inr rfl, _, zy, by simp [zl, okO, *], hx0⟩
 repeat' (first | (refine zd (by first | exact omv | exact ofa | exact old) ?_) | refine zA ?_)
 refine z4q (cap := #[.pointer (some ⟨b2, 0, none⟩)]) zsd evd evr evr z5b (zfI W0 _ _ c2 hl hss) ?_;rintro v2 n2 H2 ⟨rfl, rfl, rfl⟩;cases hs2 : kdF ss r.2.1 1
 ·repeat' (first | (refine zd (by first | exact omv | exact z0y | exact z3i | exact z2Y) ?_) | (refine Trip.ret ?_; (dsimp only)) | (refine OpsL.nil ?_; (change Trip _ _ _ _ _)) | refine zW ?_)
  exact ⟨.inr rfl, _, zy, by simp [zl, okO, *], hx0⟩
 repeat' (first | (refine zd (by first | exact omv | exact ofa | exact old | exact z3i) ?_) | refine zA ?_)
 refine z0V (cap := #[.pointer (some ⟨b3, 0, none⟩)]) zsd evd evr z1b (z5k W0 _ cN) ?_;rintro v2 n2 H2 ⟨rfl, rfl, rfl⟩;cases hs3 : stF a.N r.2.2.1
 ·repeat' (first | (refine zd (by first | exact omv | exact z0y | exact z3i | exact z2Y) ?_) | (refine Trip.ret ?_; (dsimp only)) | (refine OpsL.nil ?_; (change Trip _ _ _ _ _)) | refine zW ?_)
  exact ⟨.inr rfl, _, zy, by simp [zl, okO, *], hx0⟩
 repeat' (first | (refine zd (by first | exact omv | exact ofa | exact old | exact z3i) ?_) | refine zA ?_)
 refine z2T (hf := z2p) (hc := (z5L W0 _ _ _)) (h := ?_);rintro v2 n2 H2 ⟨rfl, rfl, rfl⟩
 repeat' (first | (refine zd (by first | exact z0y | exact z3i) ?_) | (refine Trip.ret ?_; (dsimp only)) | (refine OpsL.nil ?_; (change Trip _ _ _ _ _)))
 exact ⟨.inr rfl, _, zy, by simp [zl, okO, *], hx0⟩
theorem zhB (W0 : World) {nx : Nat} {H : Heap} {b2 b3 b5 b6 : Nat} {lv : Value} {ss : List (ByteArray × Int)} {a : Aut} (r : R4) (hc : Ctx H b2 b3 b5 b6 lv a.N a.G) (hl : SymsAt H lv ss) (hss : ss.length ≤ 1000) :
  ACalls Tryz.prog W0 37 [.agg (e4 r).toArray, .pointer (some ⟨b5, 0, none⟩), .pointer (some ⟨b6, 0, none⟩), .pointer (some ⟨b3, 0, none⟩)] nx H fun v nx' H' => v = .bool (okC ss a r) ∧ Ext nx H nx' H' := by
 refine zm (fn := Tryz.f37) (c := _) Tryz.func37 rfl (fun tm n hn0 htm => ?_);have e0 : tm 0 = .agg (e4 r).toArray := htm 0;have e1 : tm 1 = .pointer (some ⟨b5, 0, none⟩) := htm 1;have e2 : tm 2 = .pointer (some ⟨b6, 0, none⟩) := htm 2;have e3 : tm 3 = .pointer (some ⟨b3, 0, none⟩) := htm 3;clear htm;replace hn0 : n = 29 := hn0;refine Trip.ok fun hok => ?_;replace hok : ∀ id o, H id = some o → id < nx := hok;refine z5h ?_;refine OpsL.new zsd (z0a evr) ?_;obtain ⟨F, hF⟩ : ∃ F, F = H.put nx (.cells (Value.agg (e4 r).toArray).cells.toList 0 none false (some 45)) := ⟨_, rfl⟩;have hx0 : Ext nx H (nx + 1) F := by rw [hF]; exact zj
 have hFn : F nx = some (.cells (e4 r) 0 none false (some 45)) := by rw [hF, zb]; rfl
 obtain ⟨c2, cN, cG, c5, c6⟩ := hc.ext hx0 hok;replace hl := hl.ext hx0 hok;have g0 : zh F ⟨nx, 0, none⟩ (.int .i64 r.1) := ze hFn rfl;have g1 : zh F ⟨nx, 1, none⟩ (.int .i64 r.2.1) := ze hFn rfl;have g2 : zh F ⟨nx, 2, none⟩ (.int .i64 r.2.2.1) := ze hFn rfl;have g3 : zh F ⟨nx, 3, none⟩ (.int .i64 r.2.2.2) := ze hFn rfl;rw [← hF];clear hF;refine zhL ?_;refine z0V (cap := #[.pointer (some ⟨b3, 0, none⟩)]) zsd evd evr z1b (z5k W0 _ cN) ?_;rintro v2 n2 H2 ⟨rfl, rfl, rfl⟩;cases hs1 : stF a.N r.1
 ·repeat' (first | (refine zd (by first | exact omv | exact z0y | exact z2Y) ?_) | (refine Trip.ret ?_; (dsimp only)) | (refine OpsL.nil ?_; (change Trip _ _ _ _ _)) | refine zW ?_)
  exact ⟨.inr rfl, _, zy, by simp [zl, okC, *], hx0⟩
 repeat' (first | (refine zd (by first | exact omv | exact ofa | exact old) ?_) | refine zA ?_)
 refine z4q (cap := #[.pointer (some ⟨b2, 0, none⟩)]) zsd evd evr evr z5b (zfI W0 _ _ c2 hl hss) ?_;rintro v2 n2 H2 ⟨rfl, rfl, rfl⟩;cases hs2 : kdF ss r.2.1 2
 ·repeat' (first | (refine zd (by first | exact omv | exact z0y | exact z3i | exact z2Y) ?_) | (refine Trip.ret ?_; (dsimp only)) | (refine OpsL.nil ?_; (change Trip _ _ _ _ _)) | refine zW ?_)
  exact ⟨.inr rfl, _, zy, by simp [zl, okC, *], hx0⟩
 repeat' (first | (refine zd (by first | exact omv | exact ofa | exact old | exact z3i) ?_) | refine zA ?_)
 refine z0V (cap := #[.pointer (some ⟨b3, 0, none⟩)]) zsd evd evr z1b (z5k W0 _ cN) ?_;rintro v2 n2 H2 ⟨rfl, rfl, rfl⟩;cases hs3 : stF a.N r.2.2.2
 ·repeat' (first | (refine zd (by first | exact omv | exact z0y | exact z3i | exact z2Y) ?_) | (refine Trip.ret ?_; (dsimp only)) | (refine OpsL.nil ?_; (change Trip _ _ _ _ _)) | refine zW ?_)
  exact ⟨.inr rfl, _, zy, by simp [zl, okC, *], hx0⟩
 repeat' (first | (refine zd (by first | exact omv | exact ofa | exact old | exact z3i) ?_) | refine zA ?_)
 refine z2T (hf := z2p) (hc := (z5L W0 _ _ _)) (h := ?_);rintro v2 n2 H2 ⟨rfl, rfl, rfl⟩
 repeat' (first | (refine zd (by first | exact z0y | exact z3i) ?_) | (refine Trip.ret ?_; (dsimp only)) | (refine OpsL.nil ?_; (change Trip _ _ _ _ _)))
 exact ⟨.inr rfl, _, zy, by simp [zl, okC, *], hx0⟩
theorem zik (W0 : World) {nx : Nat} {H : Heap} {b2 b3 b5 b6 : Nat} {lv : Value} {ss : List (ByteArray × Int)} {a : Aut} (r : R3) (hc : Ctx H b2 b3 b5 b6 lv a.N a.G) (hl : SymsAt H lv ss) (hss : ss.length ≤ 1000) :
  ACalls Tryz.prog W0 38 [.agg (e3 r).toArray, .pointer (some ⟨b5, 0, none⟩), .pointer (some ⟨b6, 0, none⟩)] nx H fun v nx' H' => v = .bool (okI ss a r) ∧ Ext nx H nx' H' := by
 refine zm (fn := Tryz.f38) (c := _) Tryz.func38 rfl (fun tm n hn0 htm => ?_);have e0 : tm 0 = .agg (e3 r).toArray := htm 0;have e1 : tm 1 = .pointer (some ⟨b5, 0, none⟩) := htm 1;have e2 : tm 2 = .pointer (some ⟨b6, 0, none⟩) := htm 2;clear htm;replace hn0 : n = 21 := hn0;refine Trip.ok fun hok => ?_;replace hok : ∀ id o, H id = some o → id < nx := hok;refine z5h ?_;refine OpsL.new zsd (z0a evr) ?_;obtain ⟨F, hF⟩ : ∃ F, F = H.put nx (.cells (Value.agg (e3 r).toArray).cells.toList 0 none false (some 51)) := ⟨_, rfl⟩;have hx0 : Ext nx H (nx + 1) F := by rw [hF]; exact zj
 have hFn : F nx = some (.cells (e3 r) 0 none false (some 51)) := by rw [hF, zb]; rfl
 obtain ⟨c2, cN, cG, c5, c6⟩ := hc.ext hx0 hok;replace hl := hl.ext hx0 hok;have g0 : zh F ⟨nx, 0, none⟩ (.int .i64 r.1) := ze hFn rfl;have g1 : zh F ⟨nx, 1, none⟩ (.int .i64 r.2.1) := ze hFn rfl;have g2 : zh F ⟨nx, 2, none⟩ (.int .i64 r.2.2) := ze hFn rfl;rw [← hF];clear hF;refine zhL ?_;refine z0V (cap := #[.pointer (some ⟨b3, 0, none⟩)]) zsd evd evr z1b (z5k W0 _ cN) ?_;rintro v2 n2 H2 ⟨rfl, rfl, rfl⟩;cases hs1 : stF a.N r.1
 ·repeat' (first | (refine zd (by first | exact omv | exact z0y | exact z2Y) ?_) | (refine Trip.ret ?_; (dsimp only)) | (refine OpsL.nil ?_; (change Trip _ _ _ _ _)) | refine zW ?_)
  exact ⟨.inr rfl, _, zy, by simp [zl, okI, *], hx0⟩
 repeat' (first | (refine zd (by first | exact omv | exact ofa | exact old) ?_) | refine zA ?_)
 refine z4q (cap := #[.pointer (some ⟨b2, 0, none⟩)]) zsd evd evr evr z5b (zfI W0 _ _ c2 hl hss) ?_;rintro v2 n2 H2 ⟨rfl, rfl, rfl⟩;cases hs2 : kdF ss r.2.1 3
 ·repeat' (first | (refine zd (by first | exact omv | exact z0y | exact z3i | exact z2Y) ?_) | (refine Trip.ret ?_; (dsimp only)) | (refine OpsL.nil ?_; (change Trip _ _ _ _ _)) | refine zW ?_)
  exact ⟨.inr rfl, _, zy, by simp [zl, okI, *], hx0⟩
 repeat' (first | (refine zd (by first | exact omv | exact ofa | exact old | exact z3i) ?_) | refine zA ?_)
 refine z0V (cap := #[.pointer (some ⟨b3, 0, none⟩)]) zsd evd evr z1b (z5k W0 _ cN) ?_;rintro v2 n2 H2 ⟨rfl, rfl, rfl⟩;cases hs3 : stF a.N r.2.2
 all_goals
  repeat' (first | (refine zd (by first | exact z0y | exact z3i) ?_) | (refine Trip.ret ?_; (dsimp only)) | (refine OpsL.nil ?_; (change Trip _ _ _ _ _)))
  exact ⟨.inr rfl, _, zy, by simp [zl, okI, *], hx0⟩
end Go.Proofs.YteplpegfcpmflaaGreat
