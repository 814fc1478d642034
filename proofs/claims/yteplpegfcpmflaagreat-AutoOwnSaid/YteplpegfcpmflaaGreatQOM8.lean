import Derived.Sort.Grow
import Derived.Deep.Draws
import Derived.Test.YteplpegfcpmflaaGreatRows
import Derived.Shelf.SlicesG.Cmp
import Derived.Shelf.Lay
import Derived.Ground.SlgcProg
import Derived.Shelf.SlSortCmp.WholeK
import Derived.Shelf.SlSortCmp.Whole1
import Derived.Test.YteplpegfcpmflaaGreatQOM7
set_option linter.unusedSimpArgs false
set_option linter.unusedVariables false
set_option maxRecDepth 100000
set_option maxHeartbeats 64000000
namespace Go.Am
open Go.RowKit
section
variable {α : Type} [DecidableEq α]
def z3P (l : List α) : List α := l.foldl (fun acc x => if acc.getLast? = some x then acc else acc ++ [x]) []
theorem z8M (p : List α) (x : α) : z3P (p ++ [x]) = if (z3P p).getLast? = some x then z3P p else z3P p ++ [x] := by
 unfold z3P;rw [List.foldl_append];rfl
theorem zdu (l : List α) : (z3P l).getLast? = l.getLast? := by
 rcases List.eq_nil_or_concat l with rfl | ⟨p, x, rfl⟩
 ·rfl
 ·rw [List.concat_eq_append, z8M];split
  ·rename_i h; rw [h]; simp
  ·simp
theorem zc4 (p : List α) (x : α) : z3P (p ++ [x]) = if p.getLast? = some x then z3P p else z3P p ++ [x] := by rw [z8M, zdu]
theorem z29 (l : List α) {m : Nat} (h0 : 0 < m) (h : m < l.length) : z3P (l.take (m + 1)) = if l[m - 1] = l[m] then z3P (l.take m) else z3P (l.take m) ++ [l[m]] := by
 rw [List.take_add_one, List.getElem?_eq_getElem h, Option.toList_some, zc4]
 have : (l.take m).getLast? = some l[m - 1] := by
  rw [List.getLast?_eq_getElem?, List.length_take, Nat.min_eq_left zom, List.getElem?_take, if_pos zom, List.getElem?_eq_getElem]
 rw [this];simp
theorem z4D (l : List α) (h : l.length ≤ 1) : z3P l = l := by
 match l, h with
 | [], _ => rfl
 | [x], _ => rfl
theorem z36 (l : List α) : ∀ m, m ≤ l.length → (∀ i (h : i < l.length), 0 < i → i < m → l[i - 1] ≠ l[i]) → z3P (l.take m) = l.take m := by
 intro m
 induction m with
 | zero => intro _ _; rfl
 | succ m ih =>
  intro hm h;by_cases h0 : 0 < m
  ·rw [z29 l h0 zom, if_neg (h m zom h0 (Nat.lt_succ_self _)), ih zom (fun i hi a b => h i hi a zom), List.take_add_one, List.getElem?_eq_getElem (by omega : m < l.length)];rfl
  ·have : m = 0 := by omega
   subst this;exact z4D _ (by simp; omega)
theorem z7E (l : List α) (x : α) : x ∈ z3P l ↔ x ∈ l := by
 have : ∀ l : List α, ∀ acc : List α, x ∈ l.foldl (fun acc x => if acc.getLast? = some x then acc else acc ++ [x]) acc ↔ x ∈ acc ∨ x ∈ l := by
  intro l
  induction l with
  | nil => intro acc; simp
  | cons y l ih =>
   intro acc;rw [List.foldl_cons, ih];split
   ·rename_i h;have := List.mem_of_getLast? h;constructor
    ·rintro (h1 | h1)
     ·exact .inl h1
     ·exact .inr (List.mem_cons_of_mem _ h1)
    ·rintro (h1 | h1)
     ·exact .inl h1
     ·rcases List.mem_cons.1 h1 with rfl | h1
      ·exact .inl this
      ·exact .inr h1
   ·simp only [List.mem_append, List.mem_cons, List.not_mem_nil, or_false];constructor
    ·rintro ((h1 | h1) | h1)
     ·exact .inl h1
     ·exact .inr (.inl h1)
     ·exact .inr (.inr h1)
    ·rintro (h1 | h1 | h1)
     ·exact .inl (.inl h1)
     ·exact .inl (.inr h1)
     ·exact .inr h1
 have h := this l [];simpa [z3P] using h
end
section
variable {α : Type} {enc : α → List Value} {sz : Nat} {H : Heap}
theorem zeA (hk : ∀ x, (enc x).length = sz) : ∀ (l : List α) (i : Nat) (x : α), i < l.length → (l.flatMap enc).take (i * sz) ++ enc x ++ (l.flatMap enc).drop (i * sz + sz) = (l.set i x).flatMap enc := by
 intro l
 induction l with
 | nil => intro i x h; simp at h
 | cons y l ih =>
  intro i x h;cases i with
  | zero =>
   rw [Nat.zero_mul, Nat.zero_add, List.take_zero, List.nil_append, List.flatMap_cons, List.set_cons_zero, List.flatMap_cons];rw [show sz = (enc y).length from (hk y).symm, List.drop_left]
  | succ i =>
   have := ih i x (by simpa using h);rw [List.flatMap_cons, List.set_cons_succ, List.flatMap_cons, ← this];rw [Nat.add_mul, Nat.one_mul];rw [List.take_append, List.drop_append, hk, List.take_of_length_le (by rw [hk]; omega), List.drop_eq_nil_of_le (by rw [hk]; omega)];rw [show i * sz + sz - sz = i * sz by omega, show i * sz + sz + sz - sz = i * sz + sz by omega];simp
theorem z64 (hk : ∀ x, (enc x).length = sz) (h1 : ∀ x, (enc x).all (·.oneCell') = true) {b t : Nat} {el : TypeId} {l : List α} {rest : List Value} {i : Nat} {x : α} (hH : H b = some (.cells (l.flatMap enc ++ rest) sz (some t) false (some el))) (hi : i < l.length) :
  z5j H ⟨b, 0 + i * sz, some t⟩ (enc x) = some (.cells ((l.set i x).flatMap enc ++ rest) sz (some t) false (some el)) := by
 have hfl := z0j hk l;have hle : (i + 1) * sz ≤ l.length * sz := Nat.mul_le_mul_right sz hi;rw [Nat.add_mul, Nat.one_mul] at hle;have hone := h1 x;unfold z5j;simp only [hH, Nat.zero_add];rw [if_pos ⟨trivial, by rw [List.length_append, hfl, hk]; omega, trivial, hone⟩];rw [hk, List.take_append_of_le_length (by rw [hfl]; omega), List.drop_append_of_le_length (by rw [hfl]; omega), ← List.append_assoc, ← zeA hk l i x hi]
theorem z0G (hk : ∀ x, (enc x).length = sz) {b t : Nat} {el : TypeId} {l : List α} {rest : List Value} {i : Nat} (hH : H b = some (.cells (l.flatMap enc ++ rest) sz (some t) false (some el))) (hi : i < l.length) : z0A H ⟨b, 0 + i * sz, some t⟩ sz = some (enc l[i]) := by
 have hfl := z0j hk l;have hle : (i + 1) * sz ≤ l.length * sz := Nat.mul_le_mul_right sz hi;rw [Nat.add_mul, Nat.one_mul] at hle;unfold z0A;simp only [hH, Nat.zero_add];rw [if_pos ⟨trivial, by rw [List.length_append, hfl]; omega⟩, List.drop_append_of_le_length (by rw [hfl]; omega), List.take_append_of_le_length (by rw [List.length_drop, hfl]; omega), z53 hk l i hi]
theorem zbz {z : List Value} (n : Nat) : (z0p z n).length = n * z.length := by
 induction n with
 | zero => simp [z0p, rep]
 | succ n ih => simp_all [z0p, rep, List.replicate_succ, Nat.add_mul]; omega
theorem zby {z : List Value} (h : z.all (·.oneCell') = true) (n : Nat) : (z0p z n).all (·.oneCell') = true := by
 induction n with
 | zero => simp [z0p, rep]
 | succ n ih => simp_all [z0p, rep, List.replicate_succ]
theorem z7t (hk : ∀ x, (enc x).length = sz) {b t k : Nat} {el : TypeId} {l : List α} {rest z : List Value} (hz : z.length = sz) (hz1 : z.all (·.oneCell') = true) (hH : H b = some (.cells (l.flatMap enc ++ rest) sz (some t) false (some el))) (hkl : k ≤ l.length) :
  ∃ rest', z5j H ⟨b, 0 + k * sz, some t⟩ (z0p z (l.length - k)) = some (.cells ((l.take k).flatMap enc ++ rest') sz (some t) false (some el)) := by
 have hfl := z0j hk l;have hft := z0j hk (l.take k);have hsplit : l.flatMap enc = (l.take k).flatMap enc ++ (l.drop k).flatMap enc := by rw [← List.flatMap_append, List.take_append_drop]
 have hmul : (l.length - k) * sz + k * sz = l.length * sz := by rw [← Nat.add_mul]; congr 1; omega
 refine ⟨z0p z (l.length - k) ++ ((l.flatMap enc ++ rest).drop (k * sz + (z0p z (l.length - k)).length)), ?_⟩;unfold z5j;simp only [hH, Nat.zero_add];rw [if_pos ⟨trivial, by rw [List.length_append, hfl, zbz, hz]; omega, trivial, zby hz1 _⟩]
 have ht : (l.flatMap enc ++ rest).take (k * sz) = (l.take k).flatMap enc := by
  rw [hsplit, List.append_assoc, List.take_append_of_le_length (by rw [hft, List.length_take, Nat.min_eq_left hkl]; exact Nat.le_refl _), List.take_of_length_le (by rw [hft, List.length_take, Nat.min_eq_left hkl]; exact Nat.le_refl _)]
 rw [ht, List.append_assoc]
end
section
variable {P : Program} {W0 : World} {H : Heap} {nx n : Nat} {type : TypeId} {pos : String} {after : Array Edge} {ops : Array Oper} {l : List Oper} {tm : Nat → Value} {QQ : ASt → Prop}
theorem OpsL.clear {t el : TypeId} {x : Operand} {a : Addr} {m c : Nat} {z : List Value} {o : AObj} (hx : ASt.ev ⟨tm, n, H, nx⟩ x = some (.slice (some a) m c)) (hu : P.underlying t = some (.slice el)) (hz : z0D P el = some z) (hm : m ≠ 0) (hs : z5j H a (z0p z m) = some o) (h : OpsL P W0 ops l ⟨tm, n, H.put a.block o, nx⟩ QQ) :
  OpsL P W0 ops (⟨none, .call ⟨.builtin .clear, #[x], #[t]⟩, type, pos, after, none⟩ :: l) ⟨tm, n, H, nx⟩ QQ := by
 refine OpsL.upd (v := .tuple #[]) ?_ h;have hc : z8v P H #[t] (.slice (some a) m c) = none := by simp [z8v, hu]
 simp [aop, z0B, hx, z0F, hc, z7o, hu, hm, hz, hs]
end
end Go.Am
namespace Go.Am
section
variable {α : Type} {lt : α → α → Prop}
def z0P (lt : α → α → Prop) (l : List α) : Prop := l.Pairwise lt
def z3l (lt : α → α → Prop) (l : List α) : Prop := l.Pairwise fun x y => ¬ lt y x
structure OrdL (lt : α → α → Prop) : Prop where
 irr : ∀ x, ¬ lt x x
 tr : ∀ {x y z}, lt x y → lt y z → lt x z
 tot : ∀ {x y}, ¬ lt x y → ¬ lt y x → x = y
theorem z4i (ho : OrdL lt) : ∀ (l r : List α), z0P lt l → z0P lt r → (∀ x, x ∈ l ↔ x ∈ r) → l = r := by
 intro l
 induction l with
 | nil =>
  intro r _ _ h;cases r with
  | nil => rfl
  | cons y r => exact absurd ((h y).2 List.mem_cons_self) (by simp)
 | cons x l ih =>
  intro r hl hr h;cases r with
  | nil => exact absurd ((h x).1 List.mem_cons_self) (by simp)
  | cons y r =>
   unfold z0P at *;rw [List.pairwise_cons] at hl hr
   have hxy : x = y := by
    rcases List.mem_cons.1 ((h x).1 List.mem_cons_self) with e | hx
    ·exact e
    ·rcases List.mem_cons.1 ((h y).2 List.mem_cons_self) with e | hy
     ·exact e.symm
     ·exact absurd (ho.tr (hr.1 x hx) (hl.1 y hy)) (ho.irr _)
   subst hxy;congr 1;refine ih r hl.2 hr.2 fun z => ?_;constructor
   ·intro hz;rcases List.mem_cons.1 ((h z).1 (List.mem_cons_of_mem _ hz)) with e | hz'
    ·subst e; exact absurd (hl.1 z hz) (ho.irr _)
    ·exact hz'
   ·intro hz;rcases List.mem_cons.1 ((h z).2 (List.mem_cons_of_mem _ hz)) with e | hz'
    ·subst e; exact absurd (hr.1 z hz) (ho.irr _)
    ·exact hz'
variable [DecidableEq α]
theorem z9R (ho : OrdL lt) (l : List α) (h : z3l lt l) : z0P lt (z3P l) := by
 have key : ∀ n, n ≤ l.length → z0P lt (z3P (l.take n)) ∧ ∀ x ∈ z3P (l.take n), ∀ j (hj : j < l.length), n ≤ j → ¬ lt l[j] x := by
  have hmem : ∀ n, ∀ x ∈ z3P (l.take n), ∀ j (hj : j < l.length), n ≤ j → ¬ lt l[j] x := fun n x hx j hj hnj => by
   rw [z7E] at hx;obtain ⟨i, hi, rfl⟩ := List.getElem_of_mem hx;rw [List.length_take] at hi;rw [List.getElem_take];exact List.pairwise_iff_getElem.1 h i j zom hj zom
  intro n
  induction n with
  | zero => intro _; exact ⟨List.Pairwise.nil, fun x hx => by cases hx⟩
  | succ n ih =>
   intro hn;refine ⟨?_, hmem (n + 1)⟩;obtain ⟨i1, i2⟩ := ih zom;by_cases h0 : 0 < n
   ·rw [z29 l h0 zom];split
    ·exact i1
    ·rename_i hne;refine List.pairwise_append.2 ⟨i1, List.pairwise_singleton _ _, fun x hx y hy => ?_⟩;rw [List.mem_singleton] at hy;subst hy;by_cases hlt : lt x l[n]
     ·exact hlt
     ·have hxe : x = l[n] := ho.tot hlt (i2 x hx n zom (Nat.le_refl _));rw [z7E] at hx;obtain ⟨i, hi, hxi⟩ := List.getElem_of_mem hx;rw [List.length_take] at hi;rw [List.getElem_take] at hxi;exfalso
      have h1 : ¬ lt l[n - 1] l[i] := by
       by_cases e : i = n - 1
       ·subst e; exact ho.irr _
       ·exact List.pairwise_iff_getElem.1 h i (n - 1) zom zom zom
      have h2 : ¬ lt l[n] l[n - 1] := List.pairwise_iff_getElem.1 h (n - 1) n zom zom zom;have e1 : l[i] = l[n] := hxi.trans hxe;rw [e1] at h1;exact hne (ho.tot h1 h2)
   ·have : n = 0 := by omega
    subst this;rw [z4D _ (by simp; omega)]
    match l.take 1, (by simp; omega : (l.take 1).length ≤ 1) with
    | [], _ => exact List.Pairwise.nil
    | [x], _ => exact List.pairwise_singleton _ _
 have := (key l.length (Nat.le_refl _)).1
 rwa [List.take_length] at this
def zcn (lt : α → α → Prop) [DecidableRel lt] (x : α) : List α → List α
 | [] => [x]
 | y :: l => if lt x y then x :: y :: l else if x = y then y :: l else y :: zcn lt x l
def zB (lt : α → α → Prop) [DecidableRel lt] (l : List α) : List α := l.foldr (zcn lt) []
variable [DecidableRel lt]
theorem zba (x z : α) (l : List α) : z ∈ zcn lt x l ↔ z = x ∨ z ∈ l := by
 induction l with
 | nil => simp [zcn]
 | cons y l ih =>
  unfold zcn;split
  ·simp
  ·split
   ·rename_i h; subst h; simp
   ·simp only [List.mem_cons, ih];constructor
    ·rintro (h | h | h)
     ·exact .inr (.inl h)
     ·exact .inl h
     ·exact .inr (.inr h)
    ·rintro (h | h | h)
     ·exact .inr (.inl h)
     ·exact .inl h
     ·exact .inr (.inr h)
theorem z9Z (ho : OrdL lt) (x : α) {l : List α} (h : z0P lt l) : z0P lt (zcn lt x l) := by
 induction l with
 | nil => exact List.pairwise_singleton _ _
 | cons y l ih =>
  unfold z0P at h;rw [List.pairwise_cons] at h;unfold zcn;split
  ·rename_i hxy
   exact List.pairwise_cons.2 ⟨fun z hz => by
    rcases List.mem_cons.1 hz with rfl | hz
    ·exact hxy
    ·exact ho.tr hxy (h.1 z hz), List.pairwise_cons.2 h⟩
  ·split
   ·exact List.pairwise_cons.2 h
   ·rename_i h1 h2;refine List.pairwise_cons.2 ⟨fun z hz => ?_, ih h.2⟩;rcases (zba x z l).1 hz with rfl | hz
    ·by_cases h3 : lt y z
     ·exact h3
     ·exact absurd (ho.tot h1 h3) h2
    ·exact h.1 z hz
theorem z2L (ho : OrdL lt) (l : List α) : z0P lt (zB lt l) := by
 induction l with
 | nil => exact List.Pairwise.nil
 | cons x l ih => exact z9Z ho x ih
theorem z34 (x : α) (l : List α) : x ∈ zB lt l ↔ x ∈ l := by
 induction l with
 | nil => exact Iff.rfl
 | cons y l ih =>
  show x ∈ zcn lt y (zB lt l) ↔ _;rw [zba, ih, List.mem_cons]
theorem z2J (ho : OrdL lt) {l r : List α} (h1 : z0P lt r) (h2 : ∀ x, x ∈ r ↔ x ∈ l) : r = zB lt l :=
 z4i ho _ _ h1 (z2L ho l) fun x => by rw [h2, z34]
theorem zey (x : α) (l : List α) : (zcn lt x l).length ≤ l.length + 1 := by
 induction l with
 | nil => simp [zcn]
 | cons y l ih =>
  unfold zcn;split
  ·simp
  ·split
   ·simp
   ·simp only [List.length_cons]; omega
theorem zK (l : List α) : (zB lt l).length ≤ l.length := by
 induction l with
 | nil => exact Nat.le_refl _
 | cons y l ih =>
  have := zey (lt := lt) y (zB lt l);show (zcn lt y (zB lt l)).length ≤ l.length + 1;omega
end
def lt4 (x y : R4) : Prop := x.1 < y.1 ∨ (x.1 = y.1 ∧ (x.2.1 < y.2.1 ∨ (x.2.1 = y.2.1 ∧ (x.2.2.1 < y.2.2.1 ∨ (x.2.2.1 = y.2.2.1 ∧ x.2.2.2 < y.2.2.2)))))
def lt3 (x y : R3) : Prop := x.1 < y.1 ∨ (x.1 = y.1 ∧ (x.2.1 < y.2.1 ∨ (x.2.1 = y.2.1 ∧ x.2.2 < y.2.2)))
def lt1 (x y : Int) : Prop := x < y
instance : DecidableRel lt4 := fun x y => by unfold lt4; infer_instance
instance : DecidableRel lt3 := fun x y => by unfold lt3; infer_instance
instance : DecidableRel lt1 := fun x y => by unfold lt1; infer_instance
theorem zaG : OrdL lt4 where
 irr x := by unfold lt4; omega
 tr h1 h2 := by unfold lt4 at *; omega
 tot {x y} h1 h2 := by
  obtain ⟨a, b, c, d⟩ := x;obtain ⟨a2, b2, c2, d2⟩ := y;unfold lt4 at *;simp only at *;have e1 : a = a2 := by omega
  have e2 : b = b2 := by omega
  have e3 : c = c2 := by omega
  have e4 : d = d2 := by omega
  rw [e1, e2, e3, e4]
theorem zhS : OrdL lt3 where
 irr x := by unfold lt3; omega
 tr h1 h2 := by unfold lt3 at *; omega
 tot {x y} h1 h2 := by
  obtain ⟨a, b, c⟩ := x;obtain ⟨a2, b2, c2⟩ := y;unfold lt3 at *;simp only at *;have e1 : a = a2 := by omega
  have e2 : b = b2 := by omega
  have e3 : c = c2 := by omega
  rw [e1, e2, e3]
theorem zbq : OrdL lt1 where
 irr x := by unfold lt1; omega
 tr h1 h2 := by unfold lt1 at *; omega
 tot h1 h2 := by unfold lt1 at *; omega
def orF : List Int → Int
 | [] => 0
 | x :: l => if x ≠ 0 then x else orF l
def zM (a : Aut) : Aut := ⟨a.N, a.G, zB lt1 a.init, zB lt1 a.final, zB lt4 a.opens, zB lt4 a.closes, zB lt3 a.inners⟩
end Go.Am
namespace Go.Am
open Go.RowKit
open Go.Sort hiding Below
theorem za0 {W w' : World} (h : BelD W.heap.size W w') : ∃ q os', w' = grow (W.drewN q) os' := by
 refine ⟨w'.drawn - W.drawn, w'.heap.extract W.heap.size w'.heap.size, ?_⟩;have hd := h.drawn
 have hh : w'.heap = W.heap ++ w'.heap.extract W.heap.size w'.heap.size := by
  apply Array.ext_getElem?;intro i;by_cases hi : i < W.heap.size
  ·rw [Array.getElem?_append_left hi, h.block i hi]
  ·rw [Array.getElem?_append_right zom, Array.getElem?_extract];have hs := h.size;by_cases h2 : i < w'.heap.size
   ·rw [if_pos zom];congr 1; omega
   ·rw [if_neg zom, Array.getElem?_eq_none zom]
 obtain ⟨h1, h2, h3, h4, h5, h6⟩ := h;cases w';simp only [grow, World.drewN] at *;subst h1 h2 h3;congr 1;omega
def zf9 : Value → Bool
 | .agg a => a.toList.all zL
 | v => zL v
theorem zdi {nx : Nat} {H : Heap} {C : Corr} {v : Value} (h : zf9 v = true) : VR nx H C v v := by
 cases v with
 | agg a =>
  refine .agg a a rfl fun i p q => z1I (List.all_eq_true.1 h _ ?_);simp
 | _ => exact z1I h
variable {P : Program}
theorem z2V {f : FuncId} {args : List Value} {r : Value} (ha : args.all zf9 = true) (hr : zL r = true)
  (h : ∀ w nx H, ACalls P w f args nx H fun v _ _ => v = r) (W : World) : Calls P f args.toArray W fun e w' => e = .returned r ∧ ∃ q os', w' = grow (W.drewN q) os' := by
 refine (h W NG (z2u []).get (z3p W) W args (z7I Tabs.nil (BelD.refl _ _)) ⟨rfl, fun i p _ => zdi (List.all_eq_true.1 ha _ (List.getElem_mem p))⟩).mono ?_;rintro e w' ⟨v, v', C', nx', H', rfl, rfl, hR', hv, hS⟩;refine ⟨?_, za0 hR'.below⟩;cases hv <;> first | rfl | (simp [zL] at hr)
theorem ACalls.weaken {P : Program} {W0 : World} {nx : Nat} {H : Heap} {f : FuncId} {args : List Value} {R R' : Value → Nat → Heap → Prop} (h : ACalls P W0 f args nx H R) (hq : ∀ v n G, R v n G → R' v n G) : ACalls P W0 f args nx H R' := fun C w args' hR ha => by
 refine (h C w args' hR ha).mono ?_;rintro e w' ⟨v, v', C', nx', H', h1, h2, h3⟩;exact ⟨v, v', C', nx', H', h1, hq _ _ _ h2, h3⟩
end Go.Am
namespace Go.Proofs.YteplpegfcpmflaaGreat
open Go.Shelf Go.RowKit Go.Lib Go.Am
open Go.Sort hiding Below
shelf_lay_g SlLaysC2.n5 Slgc 5 at Tryz 45 as cmpIntL
abbrev zS : R4 → List Value := e4
abbrev z0Y : R3 → List Value := e3
abbrev z9x : Int → List Value := z5v
theorem z4J (l : List Int) : l.flatMap z9x = l.map (.int .i64 ·) := by
 induction l with
 | nil => rfl
 | cons x l ih => rw [List.flatMap_cons, ih]; rfl
theorem z0f (x : R4) : (zS x).length = 4 := rfl
theorem z13 (x : R3) : (z0Y x).length = 3 := rfl
theorem z04 (x : Int) : (z9x x).length = 1 := rfl
theorem z3n (x : R4) : (zS x).all (·.oneCell') = true := rfl
theorem z7D (x : R3) : (z0Y x).all (·.oneCell') = true := rfl
theorem z2k (x : Int) : (z9x x).all (·.oneCell') = true := rfl
theorem z0q : Tryz.prog.follows .mixedOrders = true := by kernel_rfl
theorem z65 {α : Type} {enc : α → List Value} {sz : Nat} {H : Heap} {a : Option Addr} {c : Nat} {l : List α} (h : RowsAt enc sz H (.slice a l.length c) l) {i : Nat} (h0 : 0 < i) (hi : i ≤ l.length) : ∃ p, a = some p ∧ z0A H ⟨p.block, p.off + ((i : Int) - 1).toNat * sz, p.spot⟩ sz = some (enc (l[i - 1]'zom)) := by
 obtain ⟨p, h1, h2⟩ := zX h (show i - 1 < l.length by omega);refine ⟨p, h1, ?_⟩;rw [show ((i : Int) - 1).toNat = ((i - 1 : Nat) : Int).toNat by omega];exact h2
def z2g (nx : Nat) (H : Heap) (nx' : Nat) (H' : Heap) (ob : Option (Nat × Nat)) : Prop := Ext nx H nx' H' ∧ ∀ b t, ob = some (b, t) → nx ≤ b ∧ b < nx'
def zco (x y : R4) : Int := orF [Lib.compareInt x.1 y.1, Lib.compareInt x.2.1 y.2.1, Lib.compareInt x.2.2.1 y.2.2.1, Lib.compareInt x.2.2.2 y.2.2.2]
def zf4 (x y : R3) : Int := orF [Lib.compareInt x.1 y.1, Lib.compareInt x.2.1 y.2.1, Lib.compareInt x.2.2 y.2.2]
theorem z6l (x y : Int) : (x < y ∧ Lib.compareInt x y = -1) ∨ (x = y ∧ Lib.compareInt x y = 0) ∨ (y < x ∧ Lib.compareInt x y = 1) := by
 unfold Lib.compareInt;by_cases h : x < y
 ·exact .inl ⟨h, by simp [h]⟩
 ·by_cases h2 : y < x
  ·exact .inr (.inr ⟨h2, by simp [h, h2]⟩)
  ·exact .inr (.inl ⟨zom, by simp [h, h2]⟩)
theorem z7k (x y : Int) : Lib.compareInt x y < 0 ↔ lt1 x y := by
 unfold lt1;rcases z6l x y with ⟨h, e⟩ | ⟨h, e⟩ | ⟨h, e⟩ <;> rw [e] <;> omega
theorem z1v (x y : Int) (l : List Int) : orF (Lib.compareInt x y :: l) < 0 ↔ x < y ∨ (x = y ∧ orF l < 0) := by
 have e0 : orF (Lib.compareInt x y :: l) = if Lib.compareInt x y ≠ 0 then Lib.compareInt x y else orF l := rfl
 rw [e0];rcases z6l x y with ⟨h, e⟩ | ⟨h, e⟩ | ⟨h, e⟩ <;> rw [e] <;> simp <;> omega
theorem z62 (x y : R4) : zco x y < 0 ↔ lt4 x y := by
 unfold zco lt4;rw [z1v, z1v, z1v, z1v];simp [orF]
theorem z7j (x y : R3) : zf4 x y < 0 ↔ lt3 x y := by
 unfold zf4 lt3;rw [z1v, z1v, z1v];simp [orF]
theorem zc5 (x y : Int) (W : World) : Calls Tryz.prog 45 #[.int .i64 x, .int .i64 y] W fun e w' => e = .returned (.int .i64 (Lib.compareInt x y)) ∧ ∃ q os', w' = grow (W.drewN q) os' := by
 have h1 := AnyG.cmp_Compare_int cmpIntL x y W;refine h1.mono ?_;rintro e w' ⟨h2, h3⟩;exact ⟨h2, 0, #[], by rw [h3]; simp [grow, World.drewN]⟩
theorem z1y : Am.z0O Tryz.prog 45 := ⟨Tryz.f45, Tryz.func45, by kernel_rfl, by kernel_rfl⟩
theorem z9F (W0 : World) {nx : Nat} {H : Heap} (x y : Int) : ACalls Tryz.prog W0 45 [.int .i64 x, .int .i64 y] nx H fun v nx' H' => v = .int .i64 (Lib.compareInt x y) ∧ nx' = nx ∧ H' = H :=
 (z3u (W0 := W0) (P := Tryz.prog) (f := 45) (args := [.int .i64 x, .int .i64 y]) (r := .int .i64 (Lib.compareInt x y)) z1y rfl rfl (fun w => (AnyG.cmp_Compare_int cmpIntL x y w).mono (by
  rintro e w' ⟨h1, h2⟩;subst h2;exact ⟨h1, BelD.refl _ _⟩))).2 nx H
theorem zd1 {A : Prop} (h : A := by
 have h1 : Tryz.prog.stoodInHeld zp0 = false := by kernel_rfl
 obtain ⟨a, b, c, d⟩ := x;obtain ⟨a2, b2, c2, d2⟩ := y
 have key : aEq Tryz.prog H 60 zp0 (.agg (zS (a, b, c, d)).toArray) (.agg (zS (a2, b2, c2, d2)).toArray) = some ((a == a2) && (b == b2) && (c == c2) && (d == d2)) := by
  cases h : (a == a2) <;> cases h2 : (b == b2) <;> cases h3 : (c == c2) <;> cases h4 : (d == d2) <;> simp [zS, e4, aEq, z20, z0C, z2t, h, h2, h3, h4, h1, zp1, Tryz.underlying3]
 rw [key, ← hr];congr 1;rw [Bool.eq_iff_iff];simp [and_assoc]) : A := h
namespace zd1a
noncomputable section
abbrev zp0 := 43
abbrev zp1 := @Tryz.underlying43
end
end zd1a
open zd1a in
theorem eqO (H : Heap) (x y : R4) (r : Bool) (hr : decide (x = y) = r) : aEq Tryz.prog H 60 43 (.agg (zS x).toArray) (.agg (zS y).toArray) = some r := zd1
namespace zd1b
noncomputable section
abbrev zp0 := 45
abbrev zp1 := @Tryz.underlying45
end
end zd1b
open zd1b in
theorem eqC (H : Heap) (x y : R4) (r : Bool) (hr : decide (x = y) = r) : aEq Tryz.prog H 60 45 (.agg (zS x).toArray) (.agg (zS y).toArray) = some r := zd1
theorem eqN (H : Heap) (x y : R3) (r : Bool) (hr : decide (x = y) = r) : aEq Tryz.prog H 60 51 (.agg (z0Y x).toArray) (.agg (z0Y y).toArray) = some r := by
 have h1 : Tryz.prog.stoodInHeld 51 = false := by kernel_rfl
 obtain ⟨a, b, c⟩ := x;obtain ⟨a2, b2, c2⟩ := y
 have key : aEq Tryz.prog H 60 51 (.agg (z0Y (a, b, c)).toArray) (.agg (z0Y (a2, b2, c2)).toArray) = some ((a == a2) && (b == b2) && (c == c2)) := by
  cases h : (a == a2) <;> cases h2 : (b == b2) <;> cases h3 : (c == c2) <;> simp [z0Y, e3, aEq, z20, z0C, z2t, h, h2, h3, h1, Tryz.underlying51, Tryz.underlying3]
 rw [key, ← hr];congr 1;rw [Bool.eq_iff_iff];simp [and_assoc]
end Go.Proofs.YteplpegfcpmflaaGreat
namespace Go.Proofs.YteplpegfcpmflaaGreat
open Go.RowKit Go.Am
attribute [local irreducible] aop OpsL Trip zI z2r OpsK OpsR
abbrev AtO (H : Heap) (v : Value) (l : List (R4)) : Prop := RowsAt zS 4 H v l
abbrev zaJ (H : Heap) (ob : Option (Nat × Nat)) (v : Value) (l : List (R4)) : Prop := OwnOf zS 4 43 H ob v l
theorem zab : Am.z0O Tryz.prog 83 := ⟨Tryz.f83, Tryz.func83, by kernel_rfl, by kernel_rfl⟩
theorem zag : Am.z0O Tryz.prog 67 := ⟨Tryz.f67, Tryz.func67, by kernel_rfl, by kernel_rfl⟩
theorem zd2 {A : Prop} (h : A := by
 refine zm (fn := zp0) (c := _) zp1 rfl (fun tm n hn0 htm => ?_);have e0 : tm 0 = .slice none 0 0 := htm 0;have e1 : tm 1 = .int .i64 m := htm 1;clear htm;replace hn0 : n = 27 := hn0;refine z6v ?_;refine z7a ?_;refine zdV ?_;refine zd (z3S evr zxr) ?_;refine zi4 ?_;by_cases h0 : 0 < m
 ·refine z2y ?_;refine z9o ?_;refine zbs ?_;refine zd (z3S evr zxr) ?_;refine zd (z06 (r := .slice none 0 0) (a := none) (b := some (.int .i64 0)) (c := none) evd rfl (by simp only [z2d, ASt.ev, zl, ↓reduceIte, reduceIte, Option.some.injEq, Nat.reduceEqDiff, Option.map_some]; rfl) rfl (z3f (el := zp2) (sz := 4) zxr zxr (.inl ⟨rfl, rfl⟩) (.inr ⟨.i64, rfl⟩))) ?_;refine z87 ?_;refine OpsL.new zsd (z4n (k := m) (el := zp2) (kd := .i64) (size := 4) (bytes := 32) (z := [.int .i64 0, .int .i64 0, .int .i64 0, .int .i64 0]) evd (by simp only [ASt.ev, zl, ↓reduceIte, reduceIte, Nat.reduceEqDiff, zL, *]; simp) zxr zxr zxr zxr zxr rfl h0 zom zom) ?_
  repeat (refine zd (by first | exact omv | exact z1D) ?_)
  refine zd (z06 (r := .slice (some ⟨nx, 0, some nx⟩) 0 0) (a := none) (b := some (.int .i64 0)) (c := none) evr rfl (by simp only [z2d, ASt.ev, zl, ↓reduceIte, reduceIte, Option.some.injEq, Nat.reduceEqDiff, Option.map_some]; rfl) rfl (by
   have := z03 (P := Tryz.prog) (H := H.put nx (.cells (z0p [.int .i64 0, .int .i64 0, .int .i64 0, .int .i64 0] m) 4 (some nx) false (some zp2))) (t := zp3) (el := zp2) (sz := 4) (a := ⟨nx, 0, some nx⟩) (len := m) (cap := m) (l := 0) (h := 0) (tg := nx) (lo := none) (hi := some (.int .i64 0)) zxr zxr zb rfl rfl rfl (.inl ⟨rfl, rfl⟩) (.inr ⟨.i64, rfl⟩) (Nat.le_refl _) (Nat.zero_le _);simpa using this)) ?_
  refine zcr ?_;refine ⟨.inr rfl, _, zy, some (nx, nx), ?_, ⟨zj, fun b t h => by cases h; exact ⟨Nat.le_refl _, Nat.lt_succ_self _⟩⟩⟩;refine ⟨by simp [zl], rfl, z0p [.int .i64 0, .int .i64 0, .int .i64 0, .int .i64 0] m, ?_⟩;rw [zb];simp
 ·refine z1L ?_;refine zi6 ?_;refine ⟨.inr rfl, _, zy, none, ⟨stp, rfl, rfl⟩, Ext.refl, fun b t h => by cases h⟩) : A := h
namespace zd2a
noncomputable section
abbrev zp0 := @Tryz.f83
abbrev zp1 := @Tryz.func83
abbrev zp2 := 43
abbrev zp3 := 26
end
end zd2a
open zd2a in
theorem zhk (W0 : World) {nx m : Nat} {H : Heap} (hm : m ≤ 1000000) :
  ACalls Tryz.prog W0 83 [.slice none 0 0, .int .i64 m] nx H fun v nx' H' => ∃ ob, zaJ H' ob v [] ∧ z2g nx H nx' H' ob := zd2
def zcZ (H : Heap) (v : Value) (ls : List (Value × List (R4))) : Prop :=
 ∃ a, v = .slice (some ⟨a, 0, none⟩) ls.length ls.length ∧ H a = some (.cells (ls.map (·.1)) 1 none false (some 26)) ∧ ∀ x ∈ ls, AtO H x.1 x.2
def z5X (ls : List (Value × List (R4))) : List (R4) := ls.flatMap (·.2)
theorem zau (ls : List (Value × List (R4))) {i : Nat} (h : i < ls.length) : z5X (ls.take (i + 1)) = z5X (ls.take i) ++ ls[i].2 := by
 unfold z5X;rw [List.take_add_one, List.getElem?_eq_getElem h, Option.toList_some, List.flatMap_append];simp
theorem zd3 {A : Prop} (h : A := by
 obtain ⟨a, rfl, hH, hrows⟩ := hr;refine zm (fn := zp0) (c := _) zp1 rfl (fun tm n hn0 htm => ?_);have e0 : tm 0 = .slice (some ⟨a, 0, none⟩) ls.length ls.length := htm 0;clear htm;replace hn0 : n = 36 := hn0;refine Trip.ok fun hok => ?_;replace hok : ∀ id o, H id = some o → id < nx := hok
 have hcell : ∀ (G : Heap), G a = some (.cells (ls.map (·.1)) 1 none false (some zp2)) → ∀ i (h : i < ls.length), zh G ⟨a, 0 + (i : Int).toNat * 1, none⟩ ls[i].1 := fun G hG i h => by
  have := z3e (off := i) hG (by simpa using h);simpa using this
 have hlen : ∀ i, i ≤ ls.length → (zp3 (ls.take i)).length ≤ (zp3 ls).length := fun i hi => by
  have h1 : zp3 ls = zp3 (ls.take i) ++ zp3 (ls.drop i) := by
   unfold zp3;rw [← List.flatMap_append, List.take_append_drop]
  rw [h1, List.length_append]; omega
 refine zaF ?_;refine zu (fun (i : Nat) st => ∃ (tm : Nat → Value), st = ⟨tm, n, H, nx⟩ ∧ tm 0 = .slice (some ⟨a, 0, none⟩) ls.length ls.length ∧ tm 9 = .slice (some ⟨a, 0, none⟩) ls.length ls.length ∧ tm 10 = .int .i64 ls.length ∧ tm 11 = .int .i64 i ∧ tm 3 = .int .i64 (zp3 (ls.take i)).length ∧ i ≤ ls.length) (fun i => ls.length - i) 0 ?_ ?_
 ·exact ⟨_, rfl, stp, stp, stp, stp, by simp [zl, zp3], zom⟩
 ·clear e0;rintro i st ⟨tm, rfl, e0, e9, e10, e11, e3, hi⟩;by_cases hlt : i < ls.length
  ·have hc := hcell H hH i hlt;obtain ⟨ua, uc, hu⟩ := (hrows _ (List.getElem_mem hlt)).slice;have hst := zp4 ls hlt;have hl1 := hlen (i + 1) zom;rw [hst, List.length_append] at hl1;rw [hu] at hc;generalize ls[i].2 = us at *;generalize zp3 (ls.take i) = zs at *;refine zi7 ?_;exact ⟨i + 1, ⟨_, rfl, stp, stp, stp, stp, by rw [hst]; simp [zl, *], zom⟩, zom⟩
  ·have hin : i = ls.length := by omega
   subst hin;rw [List.take_length] at e3;refine zcl ?_;refine zfo ?_;refine OpsL.c2 (hf := zp5) (hc := (zp6 W0 (m := (zp3 ls).length) zom).ok) (h := ?_);rintro gv nx1 H1 ⟨⟨ob1, ho1, hx1, hob1⟩, hok1⟩;refine zaF ?_;refine zu (fun (i : Nat) st => ∃ (tm : Nat → Value) (nx' : Nat) (H' : Heap) (ob : Option (Nat × Nat)) (v : Value), st = ⟨tm, n, H', nx'⟩ ∧ z2g nx H nx' H' ob ∧ (∀ id o, H' id = some o → id < nx') ∧ zp7 H' ob v (zp3 (ls.take i)) ∧ tm 25 = .slice (some ⟨a, 0, none⟩) ls.length ls.length ∧ tm 26 = .int .i64 ls.length ∧ tm 27 = .int .i64 i ∧ tm 6 = v ∧ i ≤ ls.length) (fun i => ls.length - i) 0 ?_ ?_
   ·exact ⟨_, _, _, ob1, gv, rfl, ⟨hx1, hob1⟩, hok1, ho1, stp, stp, stp, stp, zom⟩
   ·clear e0 e9 e10 e11 e3 ho1 hx1 hob1 hok1;rintro i st ⟨tm, nx', H', ob, v, rfl, ⟨hx, hob⟩, hok', hown, e25, e26, e27, e6, hi⟩;by_cases hlt : i < ls.length
    ·have hst := zp4 ls hlt;have hl1 := hlen (i + 1) zom;rw [hst, List.length_append] at hl1;have hrow := (hrows _ (List.getElem_mem hlt)).ext hx hok;have hc := hcell H' (by rw [hx.2 a (hok _ _ hH)]; exact hH) i hlt;obtain ⟨ua, uc, hu⟩ := hrow.slice;rw [hu] at hc hrow;generalize ls[i].2 = us at *;generalize zp3 (ls.take i) = zs at *;refine zfp ?_;refine zO (bytes := 32) (z := [.int .i64 0, .int .i64 0, .int .i64 0, .int .i64 0]) z0f z3n zom zsd hown hrow evd evd (fun b t h => (hob b t h).2) zxr zxr zxr zxr zxr rfl zom zom ?_;intro v' nx2 H2 ob2 hA;refine zg7 ?_;refine ⟨i + 1, ⟨_, nx2, H2, ob2, v', rfl, ⟨⟨by have := hx.1; have := hA.le; omega, fun j hj => ?_⟩, fun b t h => ?_⟩, ?_, by rw [hst]; exact hA.own, stp, stp, stp, stp, zom⟩, zom⟩
     ·rw [hA.same j (by have := hx.1; omega) (fun b t h => by have := (hob b t h).1; omega), hx.2 j hj]
     ·obtain ⟨q1, q2⟩ := hA.blk b t h;refine ⟨?_, q1⟩;rcases q2 with rfl | ⟨t', h'⟩
      ·exact hx.1
      ·exact (hob _ _ h').1
     ·exact hA.ok (fun b t h => (hob b t h).2) hok'
    ·have hin : i = ls.length := by omega
     subst hin;rw [List.take_length] at hown;refine zcl ?_;refine z9w ?_;exact ⟨.inr rfl, _, zy, ob, stp, hx, hob⟩) : A := h
namespace zd3a
noncomputable section
abbrev zp0 := @Tryz.f67
abbrev zp1 := @Tryz.func67
abbrev zp2 := 26
end
end zd3a
open zd3a in
open Go.Proofs.YteplpegfcpmflaaGreat renaming z5X → zp3, zau → zp4, zab → zp5, zhk → zp6, zaJ → zp7 in
theorem zht (W0 : World) {nx : Nat} {H : Heap} {v : Value} {ls : List (Value × List (R4))} (hr : zcZ H v ls) (hm : (z5X ls).length ≤ 100000) (hl : ls.length ≤ 100) :
  ACalls Tryz.prog W0 67 [v] nx H fun v nx' H' => ∃ ob, zaJ H' ob v (z5X ls) ∧ z2g nx H nx' H' ob := zd3
end Go.Proofs.YteplpegfcpmflaaGreat
namespace Go.Proofs.YteplpegfcpmflaaGreat
open Go.RowKit Go.Am
attribute [local irreducible] aop OpsL Trip zI z2r OpsK OpsR
theorem zak : Am.z0O Tryz.prog 69 := ⟨Tryz.f69, Tryz.func69, by kernel_rfl, by kernel_rfl⟩
theorem zhZ {A : Prop} (h : A := by
 refine zg7 ?_;refine ⟨k2 + 1, ⟨_, _, A.set kk l[k + k2], rest', kk + 1, rfl, zb, by rw [List.length_set]; exact hAl, fun i hi => by show Heap.put H' b _ i = _; rw [za hi]; exact hsame i hi, stp, stp, stp, stp, zom, zom, zom, zom, ?_, ?_⟩, zom⟩
 ·rw [show k + (k2 + 1) = k + k2 + 1 by omega, hstep, ← hta, List.take_add_one, List.getElem?_set_self zom, List.take_set_of_le (Nat.le_refl _)];rfl
 ·rw [List.drop_set_of_lt zom];exact hdn) : A := h
theorem zd4 {A : Prop} (h : A := by
 have hrow := h.at z0f;obtain ⟨va, vc, rfl⟩ := hrow.slice;refine zm (fn := zp0) (c := _) zp1 rfl (fun tm n hn0 htm => ?_);have e0 : tm 0 = .slice va l.length vc := htm 0;clear htm;replace hn0 : n = 61 := hn0;by_cases hsh : l.length < 2
 ·repeat (first | (refine zd (by first | exact omv | exact z0y | exact z1D) ?_) | refine Trip.seq ?_ | refine zk ?_ | (refine OpsL.nil ?_; (change Trip _ _ _ _ _)))
  refine z6z ?_;refine zcr ?_;exact ⟨.inr rfl, _, zy, rfl, by rw [z4D l zom]; simp [zl, *], fun _ _ => rfl⟩
 ·obtain ⟨b, t, rfl⟩ : ∃ b t, ob = some (b, t) := by
   cases ob with
   | none => obtain ⟨_, _, h2⟩ := h; omega
   | some bt => exact ⟨_, _, rfl⟩
  obtain ⟨hv, _, rest, hH⟩ := h;obtain ⟨rfl, _, rfl⟩ := Value.slice.inj hv
  have hS : ∀ (G : Heap) (A rest : List Value), G b = some (.cells (A ++ rest) 4 (some t) false (some zp2)) → ∀ k, k < l.length → z0E Tryz.prog G zp3 (.slice (some ⟨b, 0, some t⟩) l.length l.length) (some (.int .i64 k)) none none = some (.slice (some ⟨b, 0 + k * 4, some t⟩) (l.length - k) (l.length - k)) := fun G A rest hG k hk => by
   have := z03 (P := Tryz.prog) (H := G) (t := zp3) (el := zp2) (sz := 4) (a := ⟨b, 0, some t⟩) (len := l.length) (cap := l.length) (l := k) (h := l.length) (tg := t) (lo := some (.int .i64 k)) (hi := none) zxr zxr hG rfl rfl rfl (.inr ⟨.i64, rfl⟩) (.inl ⟨rfl, rfl⟩) zom (Nat.le_refl _);rw [if_neg zom] at this;exact this
  have hS2 : ∀ (G : Heap) (A rest : List Value), G b = some (.cells (A ++ rest) 4 (some t) false (some zp2)) → ∀ k, k ≤ l.length → z0E Tryz.prog G zp3 (.slice (some ⟨b, 0, some t⟩) l.length l.length) none (some (.int .i64 k)) none = some (.slice (some ⟨b, 0, some t⟩) k k) := fun G A rest hG k hk => by
   have := z03 (P := Tryz.prog) (H := G) (t := zp3) (el := zp2) (sz := 4) (a := ⟨b, 0, some t⟩) (len := l.length) (cap := l.length) (l := 0) (h := k) (tg := t) (lo := none) (hi := some (.int .i64 k)) zxr zxr hG rfl rfl rfl (.inl ⟨rfl, rfl⟩) (.inr ⟨.i64, rfl⟩) (Nat.zero_le _) hk;simpa using this
  refine zgl ?_;refine z7a ?_;refine zdM ?_;refine zu (fun (k : Nat) st => ∃ (tm : Nat → Value), st = ⟨tm, n, H, nx⟩ ∧ tm 0 = .slice (some ⟨b, 0, some t⟩) l.length l.length ∧ tm 3 = .int .i64 k ∧ 1 ≤ k ∧ k ≤ l.length ∧ ∀ i (h : i < l.length), 0 < i → i < k → l[i - 1] ≠ l[i]) (fun k => l.length - k) 1 ?_ ?_
  ·exact ⟨_, rfl, stp, by simp [zl], zom, zom, fun i h h0 h1 => by omega⟩
  ·clear e0;rintro k st ⟨tm, rfl, e0, e3, hk1, hk2, hne⟩;by_cases hlt : k < l.length
   ·repeat (first | (refine zd (by first | exact omv | exact z1D) ?_) | refine Trip.seq ?_ | refine zk ?_)
    refine z9r ?_;have g1 := z0G z0f hH hlt;have g2 := z0G z0f hH (show k - 1 < l.length by omega);refine Trip.mono (Q := fun e st => e = .normal ∧ ∃ (tm' : Nat → Value), st = ⟨tm', n, H, nx⟩ ∧ tm' 25 = .bool (decide (l[k] = l[k - 1])) ∧ tm' 0 = .slice (some ⟨b, 0, some t⟩) l.length l.length ∧ tm' 3 = .int .i64 k) ?_ ?_
    ·refine OpsK.drawn (K := fun _ _ => True) z0q krf krf trivial ?_;refine zeW ?_;refine zd (zg (k := 4) (vs := zS l[k]) evr zxr rfl zxr (by show z0A H ⟨b, 0 + (k : Int).toNat * 4, some t⟩ 4 = _; rw [Int.toNat_natCast]; exact g1)) ?_;refine z4X ?_;refine zgm ?_;refine zd (zg (k := 4) (vs := zS l[k - 1]) evr zxr rfl zxr (by show z0A H ⟨b, 0 + ((k : Int) - 1).toNat * 4, some t⟩ 4 = _; rw [show ((k : Int) - 1).toNat = k - 1 by omega]; exact g2)) ?_;refine z88 ?_;refine zd (zbg (r := decide (l[k] = l[k - 1])) evd evd krf (zp4 _ _ _ _ rfl)) ?_;refine z5S ?_;exact ⟨rfl, _, rfl, by simp [zl], stp, stp⟩
    ·rintro e st ⟨rfl, tm', rfl, e25, e0, e3⟩;dsimp only;clear g1 g2;by_cases heq : l[k] = l[k - 1]
     ·rw [decide_eq_true heq] at e25
      repeat fail
      refine z11 ?_;refine zaD ?_;refine zd (z06 (a := some (.int .i64 k)) (b := none) (c := none) evd zer rfl rfl (hS H _ _ hH k hlt)) ?_;refine zg9 ?_
      have hd0 : z3P (l.take (k + 1)) = l.take k := by
       rw [z29 l zom hlt, if_pos heq.symm];exact z36 l k zom (fun i hi a c => hne i hi a c)
      refine zu (fun (k2 : Nat) st => ∃ (tm : Nat → Value) (H' : Heap) (A : List (R4)) (rest : List Value) (kk : Nat), st = ⟨tm, n, H', nx⟩ ∧ H' b = some (.cells (A.flatMap zS ++ rest) 4 (some t) false (some zp2)) ∧ A.length = l.length ∧ (∀ i, i ≠ b → H' i = H i) ∧ tm 0 = .slice (some ⟨b, 0, some t⟩) l.length l.length ∧ tm 3 = .int .i64 kk ∧ tm 4 = .slice (some ⟨b, 0 + k * 4, some t⟩) (l.length - k) (l.length - k) ∧ tm 5 = .int .i64 k2 ∧
       1 ≤ kk ∧ kk ≤ k + k2 - 1 ∧ 1 ≤ k2 ∧ k2 ≤ l.length - k ∧ A.take kk = z3P (l.take (k + k2)) ∧ A.drop (k + k2 - 1) = l.drop (k + k2 - 1)) (fun k2 => l.length - k - k2) 1 ?_ ?_
      ·exact ⟨_, H, l, rest, k, rfl, hH, rfl, fun _ _ => rfl, stp, stp, stp, stp, zom, zom, zom, zom, hd0.symm, rfl⟩
      ·clear e0 e3 e25;rintro k2 st ⟨tm, H', A, rest', kk, rfl, hG, hAl, hsame, e0, e3, e4, e5, k1, k3, k4, k5, hta, hda⟩;by_cases hlt2 : k + k2 < l.length
       ·have hA1 : A[k + k2]'zom = l[k + k2] := by
         have : (A.drop (k + k2 - 1))[1]? = (l.drop (k + k2 - 1))[1]? := by rw [hda]
         rw [List.getElem?_drop, List.getElem?_drop, show k + k2 - 1 + 1 = k + k2 by omega, List.getElem?_eq_getElem zom, List.getElem?_eq_getElem hlt2] at this;exact Option.some.inj this
        have hA2 : A[k + k2 - 1]'zom = l[k + k2 - 1] := by
         have : (A.drop (k + k2 - 1))[0]? = (l.drop (k + k2 - 1))[0]? := by rw [hda]
         rw [List.getElem?_drop, List.getElem?_drop, Nat.add_zero, List.getElem?_eq_getElem zom, List.getElem?_eq_getElem zom] at this;exact Option.some.inj this
        have hstep := z29 l (m := k + k2) zom hlt2
        have hdn : A.drop (k + (k2 + 1) - 1) = l.drop (k + (k2 + 1) - 1) := by
         have := congrArg (List.drop 1) hda;rw [List.drop_drop, List.drop_drop] at this;rw [show k + (k2 + 1) - 1 = k + k2 - 1 + 1 by omega]; exact this
        have g1 := z0G z0f hG (show k + k2 < A.length by omega);have g2 := z0G z0f hG (show k + k2 - 1 < A.length by omega);rw [hA1] at g1;rw [hA2] at g2
        replace g1 : z0A H' ⟨b, 0 + k * 4 + (k2 : Int).toNat * 4, some t⟩ 4 = some (zS l[k + k2]) := by
         rw [Int.toNat_natCast, show 0 + k * 4 + k2 * 4 = 0 + (k + k2) * 4 by omega]; exact g1
        replace g2 : z0A H' ⟨b, 0 + k * 4 + ((k2 : Int) - 1).toNat * 4, some t⟩ 4 = some (zS l[k + k2 - 1]) := by
         rw [show 0 + k * 4 + ((k2 : Int) - 1).toNat * 4 = 0 + (k + k2 - 1) * 4 by omega]; exact g2
        refine z4s ?_;refine z9r ?_;refine Trip.mono (Q := fun e st => e = .normal ∧ ∃ (tm' : Nat → Value), st = ⟨tm', n, H', nx⟩ ∧ tm' 44 = .bool (!decide (l[k + k2] = l[k + k2 - 1])) ∧ tm' 0 = .slice (some ⟨b, 0, some t⟩) l.length l.length ∧ tm' 3 = .int .i64 kk ∧ tm' 4 = .slice (some ⟨b, 0 + k * 4, some t⟩) (l.length - k) (l.length - k) ∧ tm' 5 = .int .i64 k2) ?_ ?_
        ·refine OpsK.drawn (K := fun _ _ => True) z0q krf krf trivial ?_;refine zeW ?_;refine zd (zg (k := 4) (vs := zS l[k + k2]) evr zxr rfl zxr g1) ?_;refine z4X ?_;refine zgm ?_;refine zd (zg (k := 4) (vs := zS l[k + k2 - 1]) evr zxr rfl zxr g2) ?_;refine z88 ?_;refine zd (z3Q (r := decide (l[k + k2] = l[k + k2 - 1])) evd evd krf (zp4 _ _ _ _ rfl)) ?_;refine z5S ?_;exact ⟨rfl, _, rfl, by simp [zl], stp, stp, stp, stp⟩
        ·rintro e st ⟨rfl, tm', rfl, e44, e0, e3, e4, e5⟩;dsimp only;by_cases he2 : l[k + k2] = l[k + k2 - 1]
         ·rw [decide_eq_true he2] at e44;rw [if_pos he2.symm] at hstep
          repeat fail
          refine zg4 ?_;exact ⟨k2 + 1, ⟨_, H', A, rest', kk, rfl, hG, hAl, hsame, stp, stp, stp, stp, k1, zom, zom, zom, by rw [hta, ← hstep]; rfl, hdn⟩, zom⟩
         ·rw [decide_eq_false he2] at e44;rw [if_neg (fun h => he2 h.symm)] at hstep
          repeat fail
          refine z11 ?_;refine zfl ?_;refine zd (zg (k := 4) (vs := zS l[k + k2]) evr zxr rfl zxr g1) ?_;refine zcu ?_
          refine OpsL.upd (zw (u := .agg (zS l[k + k2]).toArray) (o := .cells ((A.set kk l[k + k2]).flatMap zS ++ rest') 4 (some t) false (some zp2)) evr evd zxr rfl (by
           have := z64 (x := l[k + k2]) z0f z3n hG (show kk < A.length by omega);show z5j H' ⟨b, 0 + (kk : Int).toNat * 4, some t⟩ (zS l[k + k2]) = _;rw [Int.toNat_natCast]; exact this)) ?_
          exact zhZ
       ·have hk2 : k2 = l.length - k := by omega
        rw [show k + k2 = l.length by omega, List.take_length] at hta;refine z4s ?_;refine z7a ?_;refine zfo ?_;refine zd (z06 (a := some (.int .i64 kk)) (b := none) (c := none) evd zer rfl rfl (hS H' _ _ hG kk zom)) ?_;obtain ⟨rest2, hend⟩ := z7t (k := kk) (z := [.int .i64 0, .int .i64 0, .int .i64 0, .int .i64 0]) z0f rfl rfl hG zom;rw [hAl, hta] at hend;refine OpsL.clear (z := [.int .i64 0, .int .i64 0, .int .i64 0, .int .i64 0]) evr zxr zxr zom hend ?_;refine zaE ?_;have hlen : (z3P l).length = kk := by rw [← hta, List.length_take]; omega
        refine zd (z06 (a := none) (b := some (.int .i64 kk)) (c := none) evd rfl zer rfl (hS2 _ _ rest2 zb kk zom)) ?_;refine zi2 ?_;refine ⟨.inr rfl, _, zy, rfl, ?_, fun i hi => ?_⟩
        ·refine ⟨by simp [zl, hlen], by rw [z0j z0f], rest2, zb⟩
        ·show Heap.put H' b _ i = _;rw [za (hi b t rfl)];exact hsame i (hi b t rfl)
     ·rw [decide_eq_false heq] at e25
      repeat fail
      refine zg4 ?_;refine ⟨k + 1, ⟨_, rfl, stp, stp, zom, zom, fun i hi h0 h1 => ?_⟩, zom⟩;by_cases hik : i = k
      ·subst hik;exact fun hh => heq hh.symm
      ·exact hne i hi h0 zom
   ·repeat (first | (refine zd (by first | exact omv | exact z1D) ?_) | refine Trip.seq ?_ | refine zk ?_)
    refine z7a ?_;refine z9w ?_;have hd := z36 l l.length (Nat.le_refl _) (fun i hi a c => hne i hi a zom);rw [List.take_length] at hd;refine ⟨.inr rfl, _, zy, rfl, ?_, fun _ _ => rfl⟩;rw [hd];exact ⟨stp, by rw [z0j z0f], rest, hH⟩) : A := h
namespace zd4a
noncomputable section
abbrev zp0 := @Tryz.f69
abbrev zp1 := @Tryz.func69
abbrev zp2 := 43
abbrev zp3 := 26
end
end zd4a
open zd4a in
open Go.Proofs.YteplpegfcpmflaaGreat renaming eqO → zp4 in
theorem zhx (W0 : World) {nx : Nat} {H : Heap} {ob : Option (Nat × Nat)} {v : Value} {l : List (R4)} (h : zaJ H ob v l) (hl : l.length ≤ 100000) :
  ACalls Tryz.prog W0 69 [v] nx H fun v' nx' H' => nx' = nx ∧ zaJ H' ob v' (z3P l) ∧ ∀ i, (∀ b t, ob = some (b, t) → i ≠ b) → H' i = H i := zd4
end Go.Proofs.YteplpegfcpmflaaGreat
namespace Go.Proofs.YteplpegfcpmflaaGreat
open Go.RowKit Go.Am
open Go.Sort hiding Below
attribute [local irreducible] aop OpsL Trip zI z2r OpsK OpsR
theorem zbc : Am.z0O Tryz.prog 70 := ⟨Tryz.f70, Tryz.func70, by kernel_rfl, by kernel_rfl⟩
theorem zb1 {xs : List Int} : ∀ i, i ≤ xs.length → (∀ j (h : j < xs.length), j < i → xs[j] = 0) → orF xs = orF (xs.drop i) := by
 induction xs with
 | nil => intro i _ _; simp
 | cons x xs ih =>
  intro i hi h;cases i with
  | zero => rfl
  | succ i =>
   have h0 : x = 0 := h 0 (by simp) (Nat.succ_pos _);rw [List.drop_succ_cons, ← ih i (by simpa using hi) (fun j hj hji => h (j + 1) (by simpa using hj) zom)];simp [orF, h0]
theorem orC (W0 : World) {nx : Nat} {H : Heap} {v : Value} {xs : List Int} (hr : IntsAt H v xs) (hm : xs.length ≤ 1000) :
  ACalls Tryz.prog W0 70 [v] nx H fun v nx' H' => v = .int .i64 (orF xs) ∧ nx' = nx ∧ H' = H := by
 obtain ⟨va, vc, rfl⟩ := hr.slice;refine zm (fn := Tryz.f70) (c := _) Tryz.func70 rfl (fun tm n hn0 htm => ?_);have e0 : tm 0 = .slice va xs.length vc := htm 0;clear htm;replace hn0 : n = 18 := hn0;refine zaF ?_;refine zu (fun (i : Nat) st => ∃ (tm : Nat → Value), st = ⟨tm, n, H, nx⟩ ∧ tm 3 = .int .i64 0 ∧ tm 6 = .slice va xs.length vc ∧ tm 7 = .int .i64 xs.length ∧ tm 8 = .int .i64 i ∧ i ≤ xs.length ∧ ∀ j (h : j < xs.length), j < i → xs[j] = 0) (fun i => xs.length - i) 0 ?_ ?_
 ·exact ⟨_, rfl, stp, stp, stp, stp, zom, fun j _ h => by omega⟩
 ·clear e0;rintro i st ⟨tm, rfl, e3, e6, e7, e8, hi, hz⟩;by_cases hlt : i < xs.length
  ·obtain ⟨p, rfl, g⟩ := z0g hr hlt;refine zfp ?_;by_cases hx : xs[i] = 0
   ·refine z1p ?_ (c := hx);refine z9s ?_;refine zck ?_;refine ⟨i + 1, ⟨_, rfl, stp, stp, stp, stp, zom, fun j hj hji => ?_⟩, zom⟩;by_cases e : j = i
    ·subst e; exact hx
    ·exact hz j hj zom
   ·refine z1o ?_ (c := hx);refine z9o ?_
    repeat (first | (refine zd (by first | exact omv | exact z0y) ?_) | refine Trip.seq ?_ | refine zk ?_ | (refine Trip.ret ?_; ((repeat (refine z0W ?_)); dsimp only)) | (refine OpsL.nil ?_; (change Trip _ _ _ _ _)))
    refine ⟨.inr rfl, _, zy, ?_, rfl, rfl⟩;rw [zb1 i hi hz, List.drop_eq_getElem_cons hlt];simp [zl, orF, hx]
  ·have hin : i = xs.length := by omega
   subst hin;refine zcl ?_;refine z9w ?_;refine ⟨.inr rfl, _, zy, ?_, rfl, rfl⟩;rw [zb1 xs.length (Nat.le_refl _) hz];simp [zl, orF, *]
theorem zd5 {A : Prop} (h : A := by
 refine zm (fn := zp0) (c := _) zp1 rfl (fun tm n hn0 htm => ?_);have e0 : tm 0 = .agg (zS x).toArray := htm 0;have e1 : tm 1 = .agg (zS y).toArray := htm 1;clear htm;replace hn0 : n = 27 := hn0;refine Trip.ok fun hok => ?_;replace hok : ∀ id o, H id = some o → id < nx := hok;refine z5h ?_;refine OpsL.new zsd (z0a evr) ?_;refine OpsL.new zsd (z0a evr) ?_;obtain ⟨G, hG⟩ : ∃ G, G = (H.put nx (.cells (Value.agg (zS x).toArray).cells.toList 0 none false (some zp2))).put (nx + 1) (.cells (Value.agg (zS y).toArray).cells.toList 0 none false (some zp2)) := ⟨_, rfl⟩;have hx0 : Ext nx H (nx + 1 + 1) G := by rw [hG]; exact zj.trans zj
 have hokG : ∀ id o, G id = some o → id < nx + 1 + 1 := by rw [hG]; exact zF (zF hok)
 have gx : G nx = some (.cells (zS x) 0 none false (some zp2)) := by rw [hG, za zom, zb]; rfl
 have gy : G (nx + 1) = some (.cells (zS y) 0 none false (some zp2)) := by rw [hG, zb]; rfl
 rw [← hG];clear hG;have cx0 : zh G ⟨nx, 0 + 0, none⟩ (.int .i64 x.1) := by rw [Nat.zero_add]; exact ze gx rfl
 have cy0 : zh G ⟨nx + 1, 0 + 0, none⟩ (.int .i64 y.1) := by rw [Nat.zero_add]; exact ze gy rfl
 have cx1 : zh G ⟨nx, 0 + 1, none⟩ (.int .i64 x.2.1) := by rw [Nat.zero_add]; exact ze gx rfl
 have cy1 : zh G ⟨nx + 1, 0 + 1, none⟩ (.int .i64 y.2.1) := by rw [Nat.zero_add]; exact ze gy rfl
 have cx2 : zh G ⟨nx, 0 + 2, none⟩ (.int .i64 x.2.2.1) := by rw [Nat.zero_add]; exact ze gx rfl
 have cy2 : zh G ⟨nx + 1, 0 + 2, none⟩ (.int .i64 y.2.2.1) := by rw [Nat.zero_add]; exact ze gy rfl
 have cx3 : zh G ⟨nx, 0 + 3, none⟩ (.int .i64 x.2.2.2) := by rw [Nat.zero_add]; exact ze gx rfl
 have cy3 : zh G ⟨nx + 1, 0 + 3, none⟩ (.int .i64 y.2.2.2) := by rw [Nat.zero_add]; exact ze gy rfl
 clear gx gy;refine zfm ?_;refine zG [4, 9, 14, 19, 20, 21] (K := fun nx1 H1 => Ext (nx + 1 + 1) G nx1 H1) z0q krf krf [0, 1, 2, 3, 5, 6, 7, 8, 10, 11, 12, 13, 15, 16, 17, 18, 4, 9, 14, 19, 20, 21, 22] krf Ext.refl ?_;refine zg1 ?_;refine zx (v := .int .i64 x.1) rfl krf zsd Ext.refl (fun H2 nx2 hK => zp evr zxr rfl (zN hK hokG cx0)) ?_;refine zg1 ?_;refine zx (v := .int .i64 y.1) rfl krf zsd Ext.refl (fun H2 nx2 hK => zp evr zxr rfl (zN hK hokG cy0)) ?_;refine zg1 ?_;refine zx (v := .int .i64 x.2.1) rfl krf zsd Ext.refl (fun H2 nx2 hK => zp evr zxr rfl (zN hK hokG cx1)) ?_;refine zg1 ?_;refine zx (v := .int .i64 y.2.1) rfl krf zsd Ext.refl (fun H2 nx2 hK => zp evr zxr rfl (zN hK hokG cy1)) ?_;refine zg1 ?_;refine zx (v := .int .i64 x.2.2.1) rfl krf zsd Ext.refl (fun H2 nx2 hK => zp evr zxr rfl (zN hK hokG cx2)) ?_;refine zg1 ?_;refine zx (v := .int .i64 y.2.2.1) rfl krf zsd Ext.refl (fun H2 nx2 hK => zp evr zxr rfl (zN hK hokG cy2)) ?_;refine zg1 ?_;refine zx (v := .int .i64 x.2.2.2) rfl krf zsd Ext.refl (fun H2 nx2 hK => zp evr zxr rfl (zN hK hokG cx3)) ?_;refine zg1 ?_;refine zx (v := .int .i64 y.2.2.2) rfl krf zsd Ext.refl (fun H2 nx2 hK => zp evr zxr rfl (zN hK hokG cy3)) ?_;refine z05 krf (zZ rfl rfl zsd zxr evd evd z1y (z9F W0 x.1 y.1) ?_);rintro v3 nx3 H3 ⟨rfl, rfl, hG3⟩;have hG3' := hG3.symm;subst hG3';refine ⟨Ext.refl, ?_⟩;refine z05 krf (zZ rfl rfl zsd zxr evd evd z1y (z9F W0 x.2.1 y.2.1) ?_);rintro v4 nx4 H4 ⟨rfl, rfl, hG4⟩;have hG4' := hG4.symm;subst hG4';refine ⟨Ext.refl, ?_⟩;refine z05 krf (zZ rfl rfl zsd zxr evd evd z1y (z9F W0 x.2.2.1 y.2.2.1) ?_);rintro v5 nx5 H5 ⟨rfl, rfl, hG5⟩;have hG5' := hG5.symm;subst hG5';refine ⟨Ext.refl, ?_⟩;refine z05 krf (zZ rfl rfl zsd zxr evd evd z1y (z9F W0 x.2.2.2 y.2.2.2) ?_);rintro v6 nx6 H6 ⟨rfl, rfl, hG6⟩;have hG6' := hG6.symm;subst hG6';refine ⟨Ext.refl, ?_⟩;refine zg6 ?_;refine OpsL.new zsd (zq (l := [(0, .int .i64 (Lib.compareInt x.1 y.1)), (1, .int .i64 (Lib.compareInt x.2.1 y.2.1)), (2, .int .i64 (Lib.compareInt x.2.2.1 y.2.2.1)), (3, .int .i64 (Lib.compareInt x.2.2.2 y.2.2.2))]) (r := (.slice (some ⟨nx + 1 + 1, 0, none⟩) 4 4, .new (.cells [.int .i64 (Lib.compareInt x.1 y.1), .int .i64 (Lib.compareInt x.2.1 y.2.1), .int .i64 (Lib.compareInt x.2.2.1 y.2.2.1), .int .i64 (Lib.compareInt x.2.2.2 y.2.2.2)] 1 none false (some 3)))) zeq krf) ?_
 have hone : IntsAt (G.put (nx + 1 + 1) (.cells [.int .i64 (Lib.compareInt x.1 y.1), .int .i64 (Lib.compareInt x.2.1 y.2.1), .int .i64 (Lib.compareInt x.2.2.1 y.2.2.1), .int .i64 (Lib.compareInt x.2.2.2 y.2.2.2)] 1 none false (some 3))) (.slice (some ⟨nx + 1 + 1, 0, none⟩) 4 4) [Lib.compareInt x.1 y.1, Lib.compareInt x.2.1 y.2.1, Lib.compareInt x.2.2.1 y.2.2.1, Lib.compareInt x.2.2.2 y.2.2.2] := by
  have hcell : (G.put (nx + 1 + 1) (.cells [.int .i64 (Lib.compareInt x.1 y.1), .int .i64 (Lib.compareInt x.2.1 y.2.1), .int .i64 (Lib.compareInt x.2.2.1 y.2.2.1), .int .i64 (Lib.compareInt x.2.2.2 y.2.2.2)] 1 none false (some 3))) (nx + 1 + 1) = some (.cells (([Lib.compareInt x.1 y.1, Lib.compareInt x.2.1 y.2.1, Lib.compareInt x.2.2.1 y.2.2.1, Lib.compareInt x.2.2.2 y.2.2.2] : List Int).map (.int .i64 ·)) 1 none false (some 3)) := zb;refine .inr ⟨⟨nx + 1 + 1, 0, none⟩, 4, rfl, fun j hj => ?_⟩;have := ze hcell (k := j) (v := .int .i64 (([Lib.compareInt x.1 y.1, Lib.compareInt x.2.1 y.2.1, Lib.compareInt x.2.2.1 y.2.2.1, Lib.compareInt x.2.2.2 y.2.2.2] : List Int)[j])) (by rw [List.getElem?_map, List.getElem?_eq_getElem hj]; rfl);simpa using this
 have hx2 : Ext (nx + 1 + 1) G (nx + 1 + 1 + 1) (G.put (nx + 1 + 1) (.cells [.int .i64 (Lib.compareInt x.1 y.1), .int .i64 (Lib.compareInt x.2.1 y.2.1), .int .i64 (Lib.compareInt x.2.2.1 y.2.2.1), .int .i64 (Lib.compareInt x.2.2.2 y.2.2.2)] 1 none false (some 3))) := zj;generalize G.put (nx + 1 + 1) (.cells [.int .i64 (Lib.compareInt x.1 y.1), .int .i64 (Lib.compareInt x.2.1 y.2.1), .int .i64 (Lib.compareInt x.2.2.1 y.2.2.1), .int .i64 (Lib.compareInt x.2.2.2 y.2.2.2)] 1 none false (some 3)) = G2 at *;refine OpsL.nil ⟨hx2, ?_⟩;refine z05 krf (z0w rfl rfl zsd zxr evd zbc (orC W0 hone (by simp)) ?_);rintro v9 nx9 H9 ⟨rfl, rfl, h9⟩;have h9' := h9.symm;subst h9';refine ⟨hx2, ?_⟩;refine zbo ?_
 (change Trip _ _ _ _ _)
 refine z9z ?_;exact ⟨.inr rfl, _, zy, by simp [zl, zco], hx0.trans hx2⟩) : A := h
namespace zd5a
noncomputable section
abbrev zp0 := @Tryz.f47
abbrev zp1 := @Tryz.func47
abbrev zp2 := 43
end
end zd5a
open zd5a in
theorem zgc (W0 : World) {nx : Nat} {H : Heap} (x y : R4) :
  ACalls Tryz.prog W0 47 [.agg (zS x).toArray, .agg (zS y).toArray] nx H fun v nx' H' => v = .int .i64 (zco x y) ∧ Ext nx H nx' H' := zd5
theorem z97 (x y : R4) (W : World) : Calls Tryz.prog 47 #[.agg (zS x).toArray, .agg (zS y).toArray] W fun e w' => e = .returned (.int .i64 (zco x y)) ∧ ∃ q os', w' = grow (W.drewN q) os' :=
 z2V (args := [.agg (zS x).toArray, .agg (zS y).toArray]) rfl rfl (fun w nx H => ACalls.weaken (zgc w x y) fun _ _ _ h => h.1) W
namespace zd5b
noncomputable section
abbrev zp0 := @Tryz.f49
abbrev zp1 := @Tryz.func49
abbrev zp2 := 45
end
end zd5b
open zd5b in
theorem zeH (W0 : World) {nx : Nat} {H : Heap} (x y : R4) :
  ACalls Tryz.prog W0 49 [.agg (zS x).toArray, .agg (zS y).toArray] nx H fun v nx' H' => v = .int .i64 (zco x y) ∧ Ext nx H nx' H' := zd5
theorem z7R (x y : R4) (W : World) : Calls Tryz.prog 49 #[.agg (zS x).toArray, .agg (zS y).toArray] W fun e w' => e = .returned (.int .i64 (zco x y)) ∧ ∃ q os', w' = grow (W.drewN q) os' :=
 z2V (args := [.agg (zS x).toArray, .agg (zS y).toArray]) rfl rfl (fun w nx H => ACalls.weaken (zeH w x y) fun _ _ _ h => h.1) W
theorem zeG (W0 : World) {nx : Nat} {H : Heap} (x y : R3) :
  ACalls Tryz.prog W0 51 [.agg (z0Y x).toArray, .agg (z0Y y).toArray] nx H fun v nx' H' => v = .int .i64 (zf4 x y) ∧ Ext nx H nx' H' := by
 refine zm (fn := Tryz.f51) (c := _) Tryz.func51 rfl (fun tm n hn0 htm => ?_);have e0 : tm 0 = .agg (z0Y x).toArray := htm 0;have e1 : tm 1 = .agg (z0Y y).toArray := htm 1;clear htm;replace hn0 : n = 22 := hn0;refine Trip.ok fun hok => ?_;replace hok : ∀ id o, H id = some o → id < nx := hok;refine z5h ?_;refine OpsL.new zsd (z0a evr) ?_;refine OpsL.new zsd (z0a evr) ?_;obtain ⟨G, hG⟩ : ∃ G, G = (H.put nx (.cells (Value.agg (z0Y x).toArray).cells.toList 0 none false (some 51))).put (nx + 1) (.cells (Value.agg (z0Y y).toArray).cells.toList 0 none false (some 51)) := ⟨_, rfl⟩;have hx0 : Ext nx H (nx + 1 + 1) G := by rw [hG]; exact zj.trans zj
 have hokG : ∀ id o, G id = some o → id < nx + 1 + 1 := by rw [hG]; exact zF (zF hok)
 have gx : G nx = some (.cells (z0Y x) 0 none false (some 51)) := by rw [hG, za zom, zb]; rfl
 have gy : G (nx + 1) = some (.cells (z0Y y) 0 none false (some 51)) := by rw [hG, zb]; rfl
 rw [← hG];clear hG;have cx0 : zh G ⟨nx, 0 + 0, none⟩ (.int .i64 x.1) := by rw [Nat.zero_add]; exact ze gx rfl
 have cy0 : zh G ⟨nx + 1, 0 + 0, none⟩ (.int .i64 y.1) := by rw [Nat.zero_add]; exact ze gy rfl
 have cx1 : zh G ⟨nx, 0 + 1, none⟩ (.int .i64 x.2.1) := by rw [Nat.zero_add]; exact ze gx rfl
 have cy1 : zh G ⟨nx + 1, 0 + 1, none⟩ (.int .i64 y.2.1) := by rw [Nat.zero_add]; exact ze gy rfl
 have cx2 : zh G ⟨nx, 0 + 2, none⟩ (.int .i64 x.2.2) := by rw [Nat.zero_add]; exact ze gx rfl
 have cy2 : zh G ⟨nx + 1, 0 + 2, none⟩ (.int .i64 y.2.2) := by rw [Nat.zero_add]; exact ze gy rfl
 clear gx gy;refine zfm ?_;refine zG [4, 9, 14, 15, 16] (K := fun nx1 H1 => Ext (nx + 1 + 1) G nx1 H1) z0q krf krf [0, 1, 2, 3, 5, 6, 7, 8, 10, 11, 12, 13, 4, 9, 14, 15, 16, 17] krf Ext.refl ?_;refine zg1 ?_;refine zx (v := .int .i64 x.1) rfl krf zsd Ext.refl (fun H2 nx2 hK => zp evr zxr rfl (zN hK hokG cx0)) ?_;refine zg1 ?_;refine zx (v := .int .i64 y.1) rfl krf zsd Ext.refl (fun H2 nx2 hK => zp evr zxr rfl (zN hK hokG cy0)) ?_;refine zg1 ?_;refine zx (v := .int .i64 x.2.1) rfl krf zsd Ext.refl (fun H2 nx2 hK => zp evr zxr rfl (zN hK hokG cx1)) ?_;refine zg1 ?_;refine zx (v := .int .i64 y.2.1) rfl krf zsd Ext.refl (fun H2 nx2 hK => zp evr zxr rfl (zN hK hokG cy1)) ?_;refine zg1 ?_;refine zx (v := .int .i64 x.2.2) rfl krf zsd Ext.refl (fun H2 nx2 hK => zp evr zxr rfl (zN hK hokG cx2)) ?_;refine zg1 ?_;refine zx (v := .int .i64 y.2.2) rfl krf zsd Ext.refl (fun H2 nx2 hK => zp evr zxr rfl (zN hK hokG cy2)) ?_;refine z05 krf (zZ rfl rfl zsd zxr evd evd z1y (z9F W0 x.1 y.1) ?_);rintro v3 nx3 H3 ⟨rfl, rfl, hG3⟩;have hG3' := hG3.symm;subst hG3';refine ⟨Ext.refl, ?_⟩;refine z05 krf (zZ rfl rfl zsd zxr evd evd z1y (z9F W0 x.2.1 y.2.1) ?_);rintro v4 nx4 H4 ⟨rfl, rfl, hG4⟩;have hG4' := hG4.symm;subst hG4';refine ⟨Ext.refl, ?_⟩;refine z05 krf (zZ rfl rfl zsd zxr evd evd z1y (z9F W0 x.2.2 y.2.2) ?_);rintro v5 nx5 H5 ⟨rfl, rfl, hG5⟩;have hG5' := hG5.symm;subst hG5';refine ⟨Ext.refl, ?_⟩;refine zg6 ?_;refine OpsL.new zsd (zq (l := [(0, .int .i64 (Lib.compareInt x.1 y.1)), (1, .int .i64 (Lib.compareInt x.2.1 y.2.1)), (2, .int .i64 (Lib.compareInt x.2.2 y.2.2))]) (r := (.slice (some ⟨nx + 1 + 1, 0, none⟩) 3 3, .new (.cells [.int .i64 (Lib.compareInt x.1 y.1), .int .i64 (Lib.compareInt x.2.1 y.2.1), .int .i64 (Lib.compareInt x.2.2 y.2.2)] 1 none false (some 3)))) zeq krf) ?_
 have hone : IntsAt (G.put (nx + 1 + 1) (.cells [.int .i64 (Lib.compareInt x.1 y.1), .int .i64 (Lib.compareInt x.2.1 y.2.1), .int .i64 (Lib.compareInt x.2.2 y.2.2)] 1 none false (some 3))) (.slice (some ⟨nx + 1 + 1, 0, none⟩) 3 3) [Lib.compareInt x.1 y.1, Lib.compareInt x.2.1 y.2.1, Lib.compareInt x.2.2 y.2.2] := by
  have hcell : (G.put (nx + 1 + 1) (.cells [.int .i64 (Lib.compareInt x.1 y.1), .int .i64 (Lib.compareInt x.2.1 y.2.1), .int .i64 (Lib.compareInt x.2.2 y.2.2)] 1 none false (some 3))) (nx + 1 + 1) = some (.cells (([Lib.compareInt x.1 y.1, Lib.compareInt x.2.1 y.2.1, Lib.compareInt x.2.2 y.2.2] : List Int).map (.int .i64 ·)) 1 none false (some 3)) := zb;refine .inr ⟨⟨nx + 1 + 1, 0, none⟩, 3, rfl, fun j hj => ?_⟩;have := ze hcell (k := j) (v := .int .i64 (([Lib.compareInt x.1 y.1, Lib.compareInt x.2.1 y.2.1, Lib.compareInt x.2.2 y.2.2] : List Int)[j])) (by rw [List.getElem?_map, List.getElem?_eq_getElem hj]; rfl);simpa using this
 have hx2 : Ext (nx + 1 + 1) G (nx + 1 + 1 + 1) (G.put (nx + 1 + 1) (.cells [.int .i64 (Lib.compareInt x.1 y.1), .int .i64 (Lib.compareInt x.2.1 y.2.1), .int .i64 (Lib.compareInt x.2.2 y.2.2)] 1 none false (some 3))) := zj;generalize G.put (nx + 1 + 1) (.cells [.int .i64 (Lib.compareInt x.1 y.1), .int .i64 (Lib.compareInt x.2.1 y.2.1), .int .i64 (Lib.compareInt x.2.2 y.2.2)] 1 none false (some 3)) = G2 at *;refine OpsL.nil ⟨hx2, ?_⟩;refine z05 krf (z0w rfl rfl zsd zxr evd zbc (orC W0 hone (by simp)) ?_);rintro v9 nx9 H9 ⟨rfl, rfl, h9⟩;have h9' := h9.symm;subst h9';refine ⟨hx2, ?_⟩;refine zbo ?_
 (change Trip _ _ _ _ _)
 refine z9z ?_;exact ⟨.inr rfl, _, zy, by simp [zl, zf4], hx0.trans hx2⟩
theorem z7Q (x y : R3) (W : World) : Calls Tryz.prog 51 #[.agg (z0Y x).toArray, .agg (z0Y y).toArray] W fun e w' => e = .returned (.int .i64 (zf4 x y)) ∧ ∃ q os', w' = grow (W.drewN q) os' :=
 z2V (args := [.agg (z0Y x).toArray, .agg (z0Y y).toArray]) rfl rfl (fun w nx H => ACalls.weaken (zeG w x y) fun _ _ _ h => h.1) W
end Go.Proofs.YteplpegfcpmflaaGreat
namespace Go.Am
open Go.RowKit Go.Proofs
open Go.Sort hiding Below
section
variable {P : Program} {W0 : World} {C : Corr} {nx : Nat} {H : Heap} {w : World}
def IntV (v : Value) : Prop := ∃ k n, v = .int k n
theorem IntV.refl {v : Value} (h : IntV v) : VR nx H C v v := by obtain ⟨k, n, rfl⟩ := h; exact .int k n
theorem IntV.eq {v v' : Value} (h : IntV v) (hv : VR nx H C v v') : v' = v := by obtain ⟨k, n, rfl⟩ := h; cases hv; rfl
theorem z66 (hR : Rel W0 C nx H w) {b e : Nat} {t : Option Nat} {q : Option TypeId} {cs rest : List Value} (ho : H b = some (.cells (cs ++ rest) e t false q)) (hi : ∀ v ∈ cs, IntV v) : Holds id w (C.loc b).1 (C.loc b).2 cs.toArray := by
 obtain ⟨Cc, el, fr, h1, h2, h3, h4, h5⟩ := hR.obj _ _ ho;intro j hj;have hj' : j < cs.length := by simpa using hj
 have hlt : (C.loc b).2 + j < Cc.size := by simp at h3; omega
 have hv := h4 j (by simp; omega) hlt;rw [List.getElem_append_left hj'] at hv;have he := (hi _ (List.getElem_mem hj')).eq hv;constructor
 ·simp only [World.cell?, h1];rw [Array.getElem?_eq_getElem hlt, he];simp [hj']
 ·have := h5.1 rfl ((C.loc b).2 + j) hlt;simp only [World.frozen?, h1];simp only [Bool.and_eq_false_iff, decide_eq_false_iff_not];omega
theorem zcM (C : Corr) (b : Nat) : C.put b (C.loc b) (C.siz b) = C := by
 unfold Corr.put;cases C with
 | mk l s => congr 1 <;> (funext i; simp; intro h; rw [h])
theorem z9I (hR : Rel W0 C nx H w) {b e : Nat} {t : Option Nat} {q : Option TypeId} {cs cs' rest : List Value} (ho : H b = some (.cells (cs ++ rest) e t false q)) (hl : cs'.length = cs.length) (hi : ∀ v ∈ cs', IntV v) (m : Nat) (os : Array Obj) :
  Rel W0 C nx (H.put b (.cells (cs' ++ rest) e t false q)) (grow (putRow id (Sort.ahead w m) (C.loc b).1 (C.loc b).2 cs'.toArray) os) ∧ Stp nx H C nx (H.put b (.cells (cs' ++ rest) e t false q)) C := by
 obtain ⟨Cc, el, fr, h1, h2, h3, h4, h5⟩ := hR.obj _ _ ho;have hblk := (hR.obj _ _ ho).blk;have hown := hR.own _ _ ho rfl;have hsz : (putRow id (Sort.ahead w m) (C.loc b).1 (C.loc b).2 cs'.toArray).heap.size = w.heap.size := by simp [putRow, mapBlock, Sort.ahead]
 have hold : ∀ k, k < w.heap.size → (grow (putRow id (Sort.ahead w m) (C.loc b).1 (C.loc b).2 cs'.toArray) os).heap[k]? = (w.heap.modify (C.loc b).1 (onCells (putCells id (C.loc b).2 cs'.toArray)))[k]? := fun k hk => by
  rw [heap_grow_old _ _ (by rw [hsz]; exact hk)];rfl
 have hother : ∀ k, k < w.heap.size → k ≠ (C.loc b).1 → (grow (putRow id (Sort.ahead w m) (C.loc b).1 (C.loc b).2 cs'.toArray) os).heap[k]? = w.heap[k]? := fun k hk hne => by
  rw [hold k hk, Array.getElem?_modify];simp [Ne.symm hne]
 have hthis : (grow (putRow id (Sort.ahead w m) (C.loc b).1 (C.loc b).2 cs'.toArray) os).heap[(C.loc b).1]? = some (.cells (putCells id (C.loc b).2 cs'.toArray Cc) el fr) := by
  rw [hold _ hblk, Array.getElem?_modify];simp [h1, onCells]
 have hbel : BelD W0.heap.size W0 (grow (putRow id (Sort.ahead w m) (C.loc b).1 (C.loc b).2 cs'.toArray) os) := hR.below.trans ⟨rfl, rfl, rfl, by simp [grow, putRow, mapBlock, Sort.ahead], fun k hk => hother k (by have := hR.below.size; omega) zom, by simp [grow, putRow, mapBlock, Sort.ahead]⟩;have key := hR.set (w' := grow (putRow id (Sort.ahead w m) (C.loc b).1 (C.loc b).2 cs'.toArray) os) b _ (.cells (cs' ++ rest) e t false q) (C.loc b) (C.siz b) ho rfl (Nat.le_refl _) (.inl ⟨rfl, rfl, rfl, rfl⟩) (.inl rfl) (fun _ => rfl) hbel hother ?_
 ·rw [zcM] at key;exact key
 ·rintro C' rfl hst;rw [zcM] at hst ⊢;have hsz2 : (putCells id (C.loc b).2 cs'.toArray Cc).size = Cc.size := by simp [putCells]
  refine ⟨_, el, fr, hthis, by rw [hsz2, h2], ?_, ?_, ⟨fun _ => (by rw [hsz2]; exact h5.1 rfl), h5.2.1, fun _ ht => (by
   obtain ⟨q1, q2⟩ := h5.2.2.1 rfl ht;refine ⟨q1, ?_⟩;rw [hsz2, q2]; simp; omega), h5.2.2.2⟩⟩
  ·rw [hsz2]; simp at h3 ⊢; omega
  ·intro i hi1 hi2;have hi3 : (C.loc b).2 + i < Cc.size := by rw [hsz2] at hi2; exact hi2
   have hget : (putCells id (C.loc b).2 cs'.toArray Cc)[(C.loc b).2 + i] = if i < cs'.length then cs'.toArray[i]! else Cc[(C.loc b).2 + i] := by
    simp only [putCells, Array.getElem_mapIdx, id];by_cases hc : i < cs'.length
    ·rw [if_pos (by simp; omega), if_pos hc]; congr 1; omega
    ·rw [if_neg (by simp; omega), if_neg hc]
   rw [hget];by_cases hc : i < cs'.length
   ·rw [if_pos hc, List.getElem_append_left hc];have e1 : cs'.toArray[i]! = cs'[i] := by simp [hc]
    rw [e1];exact (hi _ (List.getElem_mem hc)).refl
   ·rw [if_neg hc, List.getElem_append_right zom];have := (h4 i (by simp at hi1 ⊢; omega) hi3).mono hst;rw [List.getElem_append_right zom] at this;have e2 : rest[i - cs'.length]'(by simp at hi1; omega) = rest[i - cs.length]'(by simp at hi1; omega) := by congr 1; omega
    rw [e2];exact this
theorem z70 {α : Type} [Inhabited α] (enc : α → List Value) (k : Nat) (hk : ∀ x, (enc x).length = k) (l : List α) : (flatK enc k l.toArray).toList = l.flatMap enc := by
 apply List.ext_getElem?;intro i
 have hlen : (l.flatMap enc).length = l.length * k := by
  induction l with
  | nil => simp
  | cons x l ih => simp only [List.flatMap_cons, List.length_append, hk, ih, List.length_cons, Nat.add_mul]; omega
 by_cases hi : i < l.length * k
 ·have hk0 : 0 < k := by
   rcases Nat.eq_zero_or_pos k with h | h
   ·subst h; simp at hi
   ·exact h
  have hq : i / k < l.length := by rw [Nat.div_lt_iff_lt_mul hk0]; exact hi
  have e1 : (flatK enc k l.toArray).toList[i]? = some ((enc l[i / k])[i % k]!) := by
   rw [Array.getElem?_toList, Array.getElem?_eq_getElem (by simpa using hi)];simp [flatK, hq]
  rw [e1]
  have gen : ∀ (l : List α) (i : Nat), i < l.length * k → (h : i / k < l.length) → (l.flatMap enc)[i]? = some ((enc l[i / k])[i % k]!) := by
   intro l
   induction l with
   | nil => intro i hi; simp at hi
   | cons x l ih =>
    intro i hi h;rw [List.flatMap_cons];by_cases hik : i < k
    ·rw [List.getElem?_append_left (by rw [hk]; exact hik)];have e0 : i / k = 0 := Nat.div_eq_of_lt hik;have e2 : i % k = i := Nat.mod_eq_of_lt hik;simp only [e0, e2, List.getElem_cons_zero];rw [List.getElem?_eq_getElem (by rw [hk]; exact hik)];simp [hk, hik]
    ·rw [List.getElem?_append_right (by rw [hk]; omega), hk];have hi' : i - k < l.length * k := by simp only [List.length_cons, Nat.add_mul] at hi; omega
     have ed : i / k = (i - k) / k + 1 := by
      rw [Nat.div_eq_sub_div hk0 zom]
     have em : i % k = (i - k) % k := Nat.mod_eq_sub_mod zom;have hq' : (i - k) / k < l.length := by rw [Nat.div_lt_iff_lt_mul hk0]; exact hi'
     rw [ih (i - k) hi' hq'];simp only [ed, em, List.getElem_cons_succ]
  exact (gen l i hi hq).symm
 ·rw [List.getElem?_eq_none (by simp; omega), List.getElem?_eq_none (by rw [hlen]; omega)]
theorem z8C {α : Type} [Inhabited α] {l l' : List α} (h : PermIn 0 l.length l.toArray l'.toArray) : l'.Perm l := by
 obtain ⟨h1, _, h2⟩ := h;have e : l'.length = l.length := by simpa using h1
 have e1 : l'.toArray.extract 0 l.length = l'.toArray := by rw [← e]; simp
 have e2 : l.toArray.extract 0 l.length = l.toArray := by simp
 rw [e1, e2] at h2;simpa using h2
theorem z6b {α : Type} [Inhabited α] {cf : α → α → Int} {l : List α} (h : SortedIn (ltOf cf) 0 l.length l.toArray) : l.Pairwise (fun x y => ¬ cf y x < 0) := by
 rw [List.pairwise_iff_getElem];intro i j hi hj hij;have := h i j (Nat.zero_le _) hij hj;simp [hi, hj, ltOf] at this;omega
theorem z4k {α : Type} [Inhabited α] {enc : α → List Value} {k : Nat} (hk : ∀ x, (enc x).length = k) (hi : ∀ x, ∀ v ∈ enc x, IntV v) {cf : α → α → Int} {f g : FuncId}
  (hs : ∀ (blk off cap : Nat) (d : Array α) (w : World), HoldsK enc k w blk off d → blk < w.heap.size → d.size < 4611686018427387904 → Calls P f #[.slice (some ⟨blk, off, none⟩) d.size cap, .func (.func g) #[] #[]] w fun e w' => e = .returned (.tuple #[]) ∧ ∃ d' n os, PermIn 0 d.size d d' ∧ SortedIn (ltOf cf) 0 d.size d' ∧ w' = sortWorldK enc k w blk off n d' os)
  {b t e : Nat} {q : Option TypeId} {l : List α} {rest : List Value} {c : Nat} (ho : H b = some (.cells (l.flatMap enc ++ rest) e (some t) false q)) (hl : l.length < 4611686018427387904) :
  ACalls P W0 f [.slice (some ⟨b, 0, some t⟩) l.length c, .func (.func g) #[] #[]] nx H fun v nx' H' => v = .tuple #[] ∧ nx' = nx ∧ ∃ l' : List α, l'.Perm l ∧ l'.Pairwise (fun x y => ¬ cf y x < 0) ∧ H' = H.put b (.cells (l'.flatMap enc ++ rest) e (some t) false q) := by
 intro C w args' hR ha
 have hI : ∀ l : List α, ∀ v ∈ l.flatMap enc, IntV v := fun l v hv => by
  obtain ⟨x, _, hx⟩ := List.mem_flatMap.1 hv;exact hi x v hx
 have hlen : ∀ l : List α, (l.flatMap enc).length = l.length * k := fun l => by
  induction l with
  | nil => simp
  | cons x l ih => simp only [List.flatMap_cons, List.length_append, hk, ih, List.length_cons, Nat.add_mul]; omega
 obtain ⟨h1, h2⟩ := ha
 obtain ⟨v1, v2, rfl⟩ : ∃ v1 v2, args' = [v1, v2] := by
  match args', h1 with
  | [v1, v2], _ => exact ⟨v1, v2, rfl⟩
 have hv1 := h2 0 (by simp) (by simp);have hv2 := h2 1 (by simp) (by simp);simp only [List.getElem_cons_zero, List.getElem_cons_succ] at hv1 hv2
 obtain ⟨cap', rfl⟩ : ∃ cap', v1 = .slice (some ⟨(C.loc b).1, (C.loc b).2, none⟩) l.length cap' := by
  cases hv1 with
  | slc _ _ _ b' cap' k1 k2 =>
   obtain ⟨e1, _⟩ := k2 _ ho rfl;exact ⟨cap', by rw [e1]; simp [Corr.at]⟩
 obtain rfl : v2 = .func (.func g) #[] #[] := by
  cases hv2 with
  | func _ _ a' _ b' ha hb _ _ =>
   have : a' = #[] := by apply Array.eq_empty_of_size_eq_zero; simpa using ha.symm
   have : b' = #[] := by apply Array.eq_empty_of_size_eq_zero; simpa using hb.symm
   subst_vars; rfl
 have hH : HoldsK enc k w (C.loc b).1 (C.loc b).2 l.toArray := by
  unfold HoldsK;have := z66 hR ho (hI l)
  rwa [← z70 enc k hk l, Array.toArray_toList] at this
 refine (hs (C.loc b).1 (C.loc b).2 cap' l.toArray w hH (hR.obj _ _ ho).blk (by simpa using hl)).mono ?_;rintro e' w' ⟨rfl, d', n, os, hp, hso, rfl⟩;obtain ⟨l', rfl⟩ : ∃ l' : List α, d' = l'.toArray := ⟨d'.toList, by simp⟩;have hsize : l'.length = l.length := by have := hp.1; simpa using this
 have hput := z9I hR ho (cs' := l'.flatMap enc) (by rw [hlen, hlen, hsize]) (hI l') n os
 have hw : sortWorldK enc k w (C.loc b).1 (C.loc b).2 n l'.toArray os = grow (putRow id (Sort.ahead w n) (C.loc b).1 (C.loc b).2 (l'.flatMap enc).toArray) os := by
  unfold sortWorldK putRowK;rw [← z70 enc k hk l', Array.toArray_toList]
 rw [hw];exact ⟨_, _, C, nx, _, rfl, ⟨rfl, rfl, l', z8C (by simpa using hp), z6b (by rw [hsize]; simpa using hso), rfl⟩, hput.1, .tuple _ _ rfl (fun i h => absurd h (by simp)), hput.2⟩
theorem z8J {α : Type} [Inhabited α] {enc : α → Value} {blk off : Nat} {l : List α} (h : Holds id w blk off (l.map enc).toArray) : Holds enc w blk off l.toArray := by
 intro j hj;have hj' : j < l.length := by simpa using hj
 have := h j (by simpa using hj);simpa [hj'] using this
theorem z6U {α : Type} [Inhabited α] (enc : α → Value) (w : World) (blk off : Nat) (l : List α) : putRow enc w blk off l.toArray = putRow id w blk off (l.map enc).toArray := by
 unfold putRow;congr 1;funext c;unfold putCells;congr 1;funext k x;by_cases h : off ≤ k ∧ k < off + l.length
 ·rw [if_pos (by simpa using h), if_pos (by simpa using h)];have : k - off < l.length := by omega
  simp [this]
 ·rw [if_neg (by simpa using h), if_neg (by simpa using h)]
theorem z9S {α : Type} [Inhabited α] {enc : α → Value} (hi : ∀ x, IntV (enc x)) {cf : α → α → Int} {f g : FuncId}
  (hs : ∀ (blk off cap : Nat) (d : Array α) (w : World), Holds enc w blk off d → blk < w.heap.size → d.size < 4611686018427387904 → Calls P f #[.slice (some ⟨blk, off, none⟩) d.size cap, .func (.func g) #[] #[]] w fun e w' => e = .returned (.tuple #[]) ∧ ∃ d' n os, PermIn 0 d.size d d' ∧ SortedIn (ltOf cf) 0 d.size d' ∧ w' = sortWorld enc w blk off n d' os)
  {b t e : Nat} {q : Option TypeId} {l : List α} {rest : List Value} {c : Nat} (ho : H b = some (.cells (l.map enc ++ rest) e (some t) false q)) (hl : l.length < 4611686018427387904) :
  ACalls P W0 f [.slice (some ⟨b, 0, some t⟩) l.length c, .func (.func g) #[] #[]] nx H fun v nx' H' => v = .tuple #[] ∧ nx' = nx ∧ ∃ l' : List α, l'.Perm l ∧ l'.Pairwise (fun x y => ¬ cf y x < 0) ∧ H' = H.put b (.cells (l'.map enc ++ rest) e (some t) false q) := by
 intro C w args' hR ha
 have hI : ∀ l : List α, ∀ v ∈ l.map enc, IntV v := fun l v hv => by
  obtain ⟨x, _, rfl⟩ := List.mem_map.1 hv;exact hi x
 obtain ⟨h1, h2⟩ := ha
 obtain ⟨v1, v2, rfl⟩ : ∃ v1 v2, args' = [v1, v2] := by
  match args', h1 with
  | [v1, v2], _ => exact ⟨v1, v2, rfl⟩
 have hv1 := h2 0 (by simp) (by simp);have hv2 := h2 1 (by simp) (by simp);simp only [List.getElem_cons_zero, List.getElem_cons_succ] at hv1 hv2
 obtain ⟨cap', rfl⟩ : ∃ cap', v1 = .slice (some ⟨(C.loc b).1, (C.loc b).2, none⟩) l.length cap' := by
  cases hv1 with
  | slc _ _ _ b' cap' k1 k2 =>
   obtain ⟨e1, _⟩ := k2 _ ho rfl;exact ⟨cap', by rw [e1]; simp [Corr.at]⟩
 obtain rfl : v2 = .func (.func g) #[] #[] := by
  cases hv2 with
  | func _ _ a' _ b' ha hb _ _ =>
   have : a' = #[] := by apply Array.eq_empty_of_size_eq_zero; simpa using ha.symm
   have : b' = #[] := by apply Array.eq_empty_of_size_eq_zero; simpa using hb.symm
   subst_vars; rfl
 have hH := z8J (z66 hR ho (hI l));refine (hs (C.loc b).1 (C.loc b).2 cap' l.toArray w hH (hR.obj _ _ ho).blk (by simpa using hl)).mono ?_;rintro e' w' ⟨rfl, d', n, os, hp, hso, rfl⟩;obtain ⟨l', rfl⟩ : ∃ l' : List α, d' = l'.toArray := ⟨d'.toList, by simp⟩;have hsize : l'.length = l.length := by have := hp.1; simpa using this
 have hput := z9I hR ho (cs' := l'.map enc) (by simp [hsize]) (hI l') n os
 have hw : sortWorld enc w (C.loc b).1 (C.loc b).2 n l'.toArray os = grow (putRow id (Sort.ahead w n) (C.loc b).1 (C.loc b).2 (l'.map enc).toArray) os := by
  unfold sortWorld;rw [z6U]
 rw [hw];exact ⟨_, _, C, nx, _, rfl, ⟨rfl, rfl, l', z8C (by simpa using hp), z6b (by rw [hsize]; simpa using hso), rfl⟩, hput.1, .tuple _ _ rfl (fun i h => absurd h (by simp)), hput.2⟩
end
end Go.Am
