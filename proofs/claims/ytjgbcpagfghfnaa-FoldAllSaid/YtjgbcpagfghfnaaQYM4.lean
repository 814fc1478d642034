import Derived.Test.YtjgbcpagfghfnaaQYM3
import Derived.Lib.Strings
set_option linter.unusedVariables false
set_option linter.unusedSimpArgs false
set_option linter.unnecessarySimpa false
namespace Go.Am
open Go.RowKit
section
variable {P : Program} {W0 : World} {C : Corr} {nx : Nat} {H : Heap} {w : World}
def z6x (cells : List Value) (off : Nat) (vs : List Value) : List Value := cells.take off ++ vs ++ cells.drop (off + vs.length)
theorem z9s (off : Nat) : ∀ (l : List Value) (k : Nat) (cs : Array Value), off + k + l.length ≤ cs.size →
  (l.zipIdx k).foldl (fun cs (x : Value × Nat) => cs.setIfInBounds (off + x.2) x.1) cs = (z6x cs.toList (off + k) l).toArray := by
 intro l
 induction l with
 | nil => intro k cs h; apply Array.ext'; simp [z6x]
 | cons v r ih =>
  intro k cs h;simp only [List.length_cons] at h;simp only [List.zipIdx_cons, List.foldl_cons];rw [ih (k + 1) (cs.setIfInBounds (off + k) v) (by simp; omega)];apply Array.ext';simp only [z6x, Array.toList_setIfInBounds];apply List.ext_getElem?;intro i;simp only [List.length_cons];have hcs : cs.toList.length = cs.size := by simp
  have e1 : ((cs.toList.set (off + k) v).take (off + (k + 1))).length = off + k + 1 := by simp; omega
  have e2 : (cs.toList.take (off + k)).length = off + k := by simp; omega
  by_cases c1 : i < off + k
  ·rw [List.append_assoc, List.append_assoc, List.getElem?_append_left (by omega), List.getElem?_append_left (by omega), List.getElem?_take, List.getElem?_take, if_pos (by omega), if_pos c1, List.getElem?_set_ne (by omega)]
  ·by_cases c2 : i = off + k
   ·subst c2;rw [List.append_assoc, List.append_assoc, List.getElem?_append_left (by omega), List.getElem?_take, if_pos (by omega), List.getElem?_append_right (by omega), e2];rw [List.getElem?_set_self (by omega)];simp
   ·have L : (((cs.toList.set (off + k) v).take (off + (k + 1)) ++ r) ++ (cs.toList.set (off + k) v).drop (off + (k + 1) + r.length))[i]? = (r ++ (cs.toList.set (off + k) v).drop (off + (k + 1) + r.length))[i - (off + k + 1)]? := by
     rw [List.append_assoc, List.getElem?_append_right (by omega), e1]
    have R : ((cs.toList.take (off + k) ++ v :: r) ++ cs.toList.drop (off + k + (r.length + 1)))[i]? = (r ++ cs.toList.drop (off + k + (r.length + 1)))[i - (off + k + 1)]? := by
     rw [List.append_assoc, List.getElem?_append_right (by omega), e2];have : i - (off + k) = (i - (off + k + 1)) + 1 := by omega
     rw [this, List.cons_append, List.getElem?_cons_succ]
    rw [L, R];by_cases c3 : i - (off + k + 1) < r.length
    ·rw [List.getElem?_append_left c3, List.getElem?_append_left c3]
    ·rw [List.getElem?_append_right (by omega), List.getElem?_append_right (by omega), List.getElem?_drop, List.getElem?_drop, List.getElem?_set_ne (by omega)];congr 1; omega
def z8H (place : Nat → Option (Nat × Nat)) (cells : List Value) : List (Nat × Value) → Option (List Value)
 | [] => some cells
 | (i, v) :: rest =>
  match place i with
  | none => none
  | some (off, size) => if v.cells.toList.length = size ∧ off + size ≤ cells.length then z8H place (z6x cells off v.cells.toList) rest else none
theorem VRs.splice {a b c d : List Value} (off : Nat) (h : VRs nx H C a b) (k : VRs nx H C c d) : VRs nx H C (z6x a off c) (z6x b off d) := by
 unfold Am.z6x;rw [← k.1];exact ((h.take off).append k).append (h.drop _)
def PRs (nx : Nat) (H : Heap) (C : Corr) : List (Nat × Value) → List (Nat × Value) → Prop
 | [], [] => True
 | (i, v) :: l, (j, v') :: l' => i = j ∧ VR nx H C v v' ∧ PRs nx H C l l'
 | _, _ => False
theorem z4U {place : Nat → Option (Nat × Nat)} : ∀ {parts parts' : List (Nat × Value)} {cells cells' r : List Value}, z8H place cells parts = some r → VRs nx H C cells cells' → PRs nx H C parts parts' →
  ∃ r', Instr.fill place cells'.toArray parts' = some r'.toArray ∧ VRs nx H C r r' := by
 intro parts
 induction parts with
 | nil =>
  intro parts' cells cells' r h hc hp;cases parts' with
  | nil => simp only [z8H, Option.some.injEq] at h; subst h; exact ⟨cells', by simp [Instr.fill], hc⟩
  | cons x y => exact hp.elim
 | cons x l ih =>
  obtain ⟨i, v⟩ := x;intro parts' cells cells' r h hc hp;cases parts' with
  | nil => exact hp.elim
  | cons y l' =>
   obtain ⟨j, v'⟩ := y;obtain ⟨rfl, hv, hp⟩ := hp;simp only [z8H] at h;cases hpl : place i with
   | none => simp [hpl] at h
   | some os =>
    obtain ⟨off, size⟩ := os;simp only [hpl] at h;split at h
    ·rename_i hcond;have hvc := hv.cells;obtain ⟨r', e1, e2⟩ := ih h (hc.splice off hvc) hp;refine ⟨r', ?_, e2⟩;simp only [Instr.fill, hpl];have hs' : v'.cells.size = size := by have := hvc.1; simp at this hcond; omega
     have hl' : cells'.length = cells.length := hc.1.symm;rw [if_neg (by simp [hs', hl', hcond.2])];rw [← e1];congr 1;have := z9s off v'.cells.toList 0 cells'.toArray (by simp [hs', hl', hcond.2]);simp only [Nat.add_zero] at this;rw [← this, ← Array.foldl_toList];congr 1;simp
    ·cases h
theorem zdL {α β : Type} (f : α → Sem β) (g : α → β) (l : Array α) (h : ∀ x ∈ l.toList, ∀ w, (f x).run P w = .ok (g x) w) : (l.mapM f).run P w = .ok (l.map g) w := by
 have key : ∀ (l : List α), (∀ x ∈ l, ∀ w, (f x).run P w = .ok (g x) w) → ∀ w, (l.mapM f).run P w = .ok (l.map g) w := by
  intro l
  induction l with
  | nil => intro _ w; simp
  | cons x r ih =>
   intro hh w;simp only [List.mapM_cons, Sem.run_bind, hh x (List.mem_cons_self ..), Result.andThen_ok, ih (fun y hy => hh y (List.mem_cons_of_mem _ hy)), Sem.run_pure, List.map_cons]
 rw [Array.mapM_eq_mapM_toList, Sem.run_map, key l.toList h w, Result.andThen_ok];congr 1;apply Array.ext';simp
def z4S (P : Program) (fields : Array Field) (i : Nat) : Option (Nat × Nat) :=
 match fields[i]? with
 | some f => (z1W P f.type).map fun n => (f.offset, n)
 | none => none
def zaL (P : Program) (t : TypeId) (parts : List (Nat × Value)) : Option Value :=
 match P.underlying t, z0Y P t with
 | some (.struct fields), some z =>
  if fields.toList.all fun f => (z1W P f.type).isSome then (z8H (z4S P fields) z parts).map fun l => .agg l.toArray else none
 | some (.array _ elem), some z =>
  match z1W P elem with
  | some size => (z8H (fun i => some (i * size, size)) z parts).map fun l => .agg l.toArray
  | none => none
 | _, _ => none
theorem z9L (hR : Rel W0 C nx H w) {t : TypeId} {parts : List (Nat × Value)} {parts' : Array (Nat × Value)} {v : Value} (h : zaL P t parts = some v) (hp : PRs nx H C parts parts'.toList) :
  Snd W0 C nx H ((Instr.build t parts').run P w) v .none := by
 unfold zaL at h;split at h
 ·rename_i fields z hu hz;split at h
  ·rename_i hall;simp only [Option.map_eq_some_iff] at h;obtain ⟨l, hl, rfl⟩ := h;obtain ⟨zv, hzr, hzc, hzp⟩ := z1p hz;obtain ⟨r', e1, e2⟩ := z4U hl (z2f hzp) hp;refine Snd.same hR (v' := .agg r'.toArray) ?_ e2.agg
   have hm : (fields.mapM fun f => (do pure (f.offset, ← sizeOf f.type) : Sem (Nat × Nat))).run P w = .ok (fields.map fun f => (f.offset, (z1W P f.type).getD 0)) w := by
    refine zdL _ _ _ (fun f hf w => ?_);have := List.all_eq_true.1 hall f hf;obtain ⟨n, hn⟩ := Option.isSome_iff_exists.1 this;simp only [Sem.run_bind, z03 hn, Result.andThen_ok, Sem.run_pure, hn, Option.getD_some]
   have hpl : ((fields.map fun f => (f.offset, (z1W P f.type).getD 0))[·]?) = z4S P fields := by
    funext i;simp only [z4S, Array.getElem?_map];cases hf : fields[i]? with
    | none => simp
    | some f =>
     have := List.all_eq_true.1 hall f (by simpa using Array.mem_of_getElem? hf);obtain ⟨n, hn⟩ := Option.isSome_iff_exists.1 this;simp [hn]
   simp only [Instr.build, Sem.run_bind, hzr, Result.andThen_ok, run_underlying hu, hm, hzc];rw [hpl, e1];simp only [Sem.run_pure]
  ·cases h
 ·rename_i n elem z hu hz;split at h
  ·rename_i size hs;simp only [Option.map_eq_some_iff] at h;obtain ⟨l, hl, rfl⟩ := h;obtain ⟨zv, hzr, hzc, hzp⟩ := z1p hz;obtain ⟨r', e1, e2⟩ := z4U hl (z2f hzp) hp;refine Snd.same hR (v' := .agg r'.toArray) ?_ e2.agg;simp only [Instr.build, Sem.run_bind, hzr, Result.andThen_ok, run_underlying hu, z03 hs, hzc];rw [e1];simp only [Sem.run_pure]
  ·cases h
 ·cases h
def rep (n : Nat) (l : List Value) : List Value := (List.replicate n l).flatten
theorem z9q (l : List Value) : ∀ (n i : Nat), i < n * l.length → (rep n l)[i]? = l[i % l.length]? := by
 intro n
 induction n with
 | zero => intro i h; omega
 | succ n ih =>
  intro i h;have e : rep (n + 1) l = l ++ rep n l := by simp [rep, List.replicate_succ]
  rw [e];by_cases c : i < l.length
  ·rw [List.getElem?_append_left c, Nat.mod_eq_of_lt c]
  ·rw [List.getElem?_append_right (by omega), ih _ (by rw [Nat.add_mul] at h; omega)];congr 1;rw [Nat.mod_eq_sub_mod (by omega : i ≥ l.length)]
theorem z1r (l : List Value) (n : Nat) : (rep n l).length = n * l.length := by simp [rep]
theorem z4u (z : Array Value) (n : Nat) : (Array.range (n * z.size)).map (fun i => z[i % z.size]!) = (rep n z.toList).toArray := by
 apply Array.ext';apply List.ext_getElem?;intro i;by_cases hz : z.size = 0
 ·have : z.toList = [] := by simpa using hz
  simp [hz, rep, this]
 ·by_cases h : i < n * z.size
  ·rw [List.toList_toArray, z9q _ n i (by simpa using h)];have hlt : i % z.size < z.size := Nat.mod_lt _ (by omega);simp [h, hlt, getElem!_pos]
  ·rw [List.toList_toArray, List.getElem?_eq_none (by simp; omega), List.getElem?_eq_none (by rw [z1r]; simp; omega)]
def z2q (P : Program) (nx : Nat) (t : TypeId) (len : Nat) (parts : List (Nat × Value)) : Option (Value × Eff) :=
 match P.underlying t with
 | some (.slice elem) =>
  match z1W P elem, z0Y P elem with
  | some size, some z =>
   if len * size ≤ 16777216 ∧ z.length = size then
    (z8H (fun i => some (i * size, size)) (rep len z) parts).map fun l => (.slice (some ⟨nx, 0, none⟩) len len, .new (.cells l size none false (some elem)))
   else none
  | _, _ => none
 | _ => none
theorem z5L (hR : Rel W0 C nx H w) {t : TypeId} {len : Nat} {parts : List (Nat × Value)} {parts' : Array (Nat × Value)} {v : Value} {e : Eff} (h : z2q P nx t len parts = some (v, e)) (hp : PRs nx H C parts parts'.toList) :
  Snd W0 C nx H ((Instr.buildSlice t len parts').run P w) v e := by
 unfold z2q at h;split at h
 ·rename_i elem hu;split at h
  ·rename_i size z hs hz;split at h
   ·rename_i hc;simp only [Option.map_eq_some_iff, Prod.mk.injEq] at h;obtain ⟨l, hl, rfl, rfl⟩ := h;obtain ⟨zv, hzr, hzc, hzp⟩ := z1p hz;have hzs : zv.cells.size = size := by rw [hzc]; simpa using hc.2
    have hrep : VRs nx H C (rep len z) (rep len z) := z2f (by simp only [rep, List.all_flatten, List.all_eq_true, List.mem_replicate]; rintro x ⟨_, rfl⟩; exact List.all_eq_true.1 hzp);obtain ⟨r', e1, e2⟩ := z4U hl hrep hp;obtain ⟨C', hC, h1, h2⟩ := z2g hR e2 elem size [] none (by simp) (fun _ => rfl);refine ⟨.slice (some ⟨w.heap.size, 0, none⟩) len len, w.alloc (.cells (r' ++ []).toArray elem), C', ?_, ?_, h2, ?_⟩
    rotate_left
    ·simpa [Eff.H, Eff.nx] using h1
    ·rw [hC];exact .slc _ _ _ _ _ ⟨by simp [Eff.nx], by simp⟩ (fun o _ _ => ⟨by simp [Corr.at, Corr.put], by simp [z27]⟩)
    ·simp only [Instr.buildSlice, Sem.run_bind, run_underlying hu, Result.andThen_ok, z03 hs];rw [if_neg (by simp; omega)];by_cases h0 : len * size = 0
     ·have hr : rep len z = [] := by rw [← List.length_eq_zero_iff, z1r, hc.2]; exact h0
      rw [hr] at e1;have hr0 : ∀ zero : Array Value, (Array.range 0).map (fun i => zero[i % zero.size]!) = #[] := fun zero => by simp
      simp only [h0, if_true, Sem.run_bind, Sem.run_pure, Result.andThen_ok, hr0];rw [e1];simp [newRow]
     ·have hzc2 := z4u z.toArray len;simp only [List.size_toArray, hc.2] at hzc2;simp only [h0, if_false, Sem.run_bind, hzr, Result.andThen_ok, Sem.run_pure, hzc, List.size_toArray, hc.2, hzc2, List.toList_toArray];rw [e1];simp [newRow]
   ·cases h
  ·cases h
 ·cases h
end
end Go.Am
namespace Go.Am
open Go.RowKit
section
variable {P : Program} {W0 : World} {C : Corr} {nx : Nat} {H : Heap} {w : World}
def z5v (v : Option Value) (dflt : Nat) : Option Nat :=
 match v with
 | none => some dflt
 | some (.int _ i) => if 0 ≤ i then some i.toNat else none
 | some _ => none
def OVR (nx : Nat) (H : Heap) (C : Corr) : Option Value → Option Value → Prop
 | none, none => True
 | some v, some v' => VR nx H C v v'
 | _, _ => False
theorem z2y {v v' : Value} {y n : Nat} (code : BoundsCode) (h : z5v (some v) n = some n) (hd : ∃ k i, v = .int k i) (hv : VR nx H C v v') (hy : n ≤ y) : (Instr.sliceBound v' y code).run P w = .ok n w := by
 obtain ⟨k, i, rfl⟩ := hd;cases hv;simp only [z5v] at h;split at h
 ·rename_i h0;simp only [Option.some.injEq] at h;simp only [Instr.sliceBound, asIntOf, Sem.run_bind, Sem.run_pure, Result.andThen_ok];rw [if_pos (by omega)];simp [h]
 ·cases h
theorem z2B {v : Value} {d n : Nat} (h : z5v (some v) d = some n) : (∃ k i, v = .int k i) ∧ z5v (some v) n = some n := by
 unfold z5v at *;split at h
 ·rename_i h0; cases h0
 ·rename_i k i h0;simp only [Option.some.injEq] at h0;subst h0;exact ⟨⟨_, _, rfl⟩, by simpa using h⟩
 ·cases h
def z40 (len cap : Nat) (lo hi mx : Option Value) : Option (Nat × Nat × Nat) :=
 match z5v mx cap, z5v hi len, z5v lo 0 with
 | some m, some h, some l => if m ≤ cap ∧ h ≤ m ∧ l ≤ h ∧ (mx.isNone ∨ hi.isSome) then some (l, h, m) else none
 | _, _, _ => none
theorem z3l {isSlice : Bool} {len cap : Nat} {lo hi mx lo' hi' mx' : Option Value} {r : Nat × Nat × Nat} (h : z40 len cap lo hi mx = some r)
  (h1 : OVR nx H C lo lo') (h2 : OVR nx H C hi hi') (h3 : OVR nx H C mx mx') : (Instr.sliceBounds isSlice len cap lo' hi' mx').run P w = .ok r w := by
 unfold z40 at h;split at h
 ·rename_i m hh l hm hhh hl;split at h
  ·rename_i hc;simp only [Option.some.injEq] at h;subst h;obtain ⟨c1, c2, c3, c4⟩ := hc
   have hlow : ∀ code, (match lo' with
     | some v => do
      let l ← Instr.sliceBound v hh code
      pure (l, hh, m)
     | none => do
      let l ← pure 0
      pure (l, hh, m) : Sem (Nat × Nat × Nat)).run P w = .ok (l, hh, m) w := by
    intro code;cases lo with
    | none => cases lo' with
     | none => simp only [z5v, Option.some.injEq] at hl; simp [hl]
     | some v => exact h1.elim
    | some v => cases lo' with
     | none => exact h1.elim
     | some v' =>
      simp only [Sem.run_bind];rw [z2y code (z2B hl).2 (z2B hl).1 h1 c3];rfl
   cases mx with
   | none =>
    cases mx' with
    | some v => exact h3.elim
    | none =>
     simp only [z5v, Option.some.injEq] at hm;subst hm;cases hi with
     | none =>
      cases hi' with
      | some v => exact h2.elim
      | none =>
       simp only [z5v, Option.some.injEq] at hhh;subst hhh;simp only [Instr.sliceBounds, Sem.run_bind, Sem.run_pure, Result.andThen_ok];exact hlow _
     | some v =>
      cases hi' with
      | none => exact h2.elim
      | some v' =>
       simp only [Instr.sliceBounds, Sem.run_bind, Sem.run_pure, Result.andThen_ok];rw [z2y _ (z2B hhh).2 (z2B hhh).1 h2 c2];simp only [Result.andThen_ok];exact hlow _
   | some u =>
    cases mx' with
    | none => exact h3.elim
    | some u' =>
     cases hi with
     | none => simp at c4
     | some v =>
      cases hi' with
      | none => exact h2.elim
      | some v' =>
       simp only [Instr.sliceBounds, Sem.run_bind];rw [z2y _ (z2B hm).2 (z2B hm).1 h3 c1];simp only [Result.andThen_ok];rw [z2y _ (z2B hhh).2 (z2B hhh).1 h2 c2];simp only [Result.andThen_ok];exact hlow _
  ·cases h
 ·cases h
def z7T (s : ByteArray) (l h : Nat) : ByteArray := ⟨((s.data.toList.drop l).take (h - l)).toArray⟩
theorem zbF (s : ByteArray) (l h : Nat) : s.extract l h = z7T s l h := by
 have := Lib.extract_data s l h;unfold z7T;rw [← this]
def z4Z (P : Program) (H : Heap) (t : TypeId) (x : Value) (lo hi mx : Option Value) : Option Value :=
 match P.underlying t, x with
 | some .string, .string s =>
  if mx.isSome then none else (z40 s.size s.size lo hi none).map fun (l, h, _) => .string (z7T s l h)
 | some (.slice elem), .slice none len cap => if (z1W P elem).isSome then (z40 len cap lo hi mx).map fun (l, h, m) => .slice none (h - l) (m - l) else none
 | some (.slice elem), .slice (some a) len cap =>
  match z1W P elem, H a.block with
  | some size, some o =>
   if o.tag = a.spot then
    match a.spot with
    | none => (z40 len cap lo hi mx).map fun (l, h, m) => .slice (some (if m = l then a else ⟨a.block, a.off + l * size, none⟩)) (h - l) (m - l)
    | some t =>
     if mx.isSome ∨ o.esz ≠ size then none else (z40 len len lo hi none).map fun (l, h, _) => .slice (some ⟨a.block, a.off + l * size, if l = len ∧ 0 < l then none else some t⟩) (h - l) (h - l)
   else none
  | _, _ => none
 | some (.array n elem), .pointer (some a) =>
  match z1W P elem with
  | some size =>
   if a.spot = none then (z40 n n lo hi mx).map fun (l, h, m) => .slice (some (if m = l then a else ⟨a.block, a.off + l * size, none⟩)) (h - l) (m - l) else none
  | none => none
 | _, _ => none
theorem z9E (hR : Rel W0 C nx H w) {t : TypeId} {x x' v : Value} {lo hi mx lo' hi' mx' : Option Value} (h : z4Z P H t x lo hi mx = some v) (hx : VR nx H C x x')
  (h1 : OVR nx H C lo lo') (h2 : OVR nx H C hi hi') (h3 : OVR nx H C mx mx') : Snd W0 C nx H ((Instr.sliceAt t x' lo' hi' mx').run P w) v .none := by
 unfold z4Z at h;split at h
 ·rename_i s hu;split at h
  ·cases h
  ·rename_i hmx;simp only [Option.map_eq_some_iff] at h;obtain ⟨⟨l, hh, m⟩, hb, rfl⟩ := h;cases hx;have hb' := z3l (P := P) (w := w) (isSlice := false) (mx' := none) hb h1 h2 trivial;refine Snd.same hR (v' := .string (z7T s l hh)) ?_ (.string _)
   have hm' : mx' = none := by
    cases mx with
    | none => cases mx' with
     | none => rfl
     | some v => exact h3.elim
    | some v => simp at hmx
   subst hm';simp only [Instr.sliceAt, Sem.run_bind, run_underlying hu, Result.andThen_ok, Instr.slice, Option.isSome_none, Bool.false_eq_true, if_false, Sem.run_pure, hb', zbF]
 ·rename_i elem len cap hu;split at h
  case isFalse => cases h
  rename_i hsz;obtain ⟨n, hn⟩ := Option.isSome_iff_exists.1 hsz;simp only [Option.map_eq_some_iff] at h;obtain ⟨⟨l, hh, m⟩, hb, rfl⟩ := h;cases hx;have hb' := z3l (P := P) (w := w) (isSlice := true) hb h1 h2 h3;refine Snd.same hR (v' := .slice none (hh - l) (m - l)) ?_ (.nils _ _);simp only [Instr.sliceAt, Sem.run_bind, run_underlying hu, Result.andThen_ok, Instr.slice, hb', z03 hn, Sem.run_pure];simp
 ·rename_i elem a len cap hu;split at h
  ·rename_i size o hs ho;split at h
   ·rename_i htag;split at h
    ·rename_i hsp;simp only [Option.map_eq_some_iff] at h;obtain ⟨⟨l, hh, m⟩, hb, rfl⟩ := h;cases hx with
     | slc _ _ _ b cap' k1 k2 =>
     obtain ⟨rfl, k4⟩ := k2 o ho htag;simp only [z27, hsp] at k4;subst k4;have hb' := z3l (P := P) (w := w) (isSlice := true) hb h1 h2 h3;refine Snd.same hR (v' := .slice (some (if m = l then C.at a else (C.at a).add (l * size))) (hh - l) (m - l)) ?_ ?_
     ·simp only [Instr.sliceAt, Sem.run_bind, run_underlying hu, Result.andThen_ok, Instr.slice, hb', z03 hs, Sem.run_pure];split <;> simp
     ·have hd : (if m = l then a else ⟨a.block, a.off + l * size, none⟩ : Addr).block = a.block := by split <;> rfl
      have hsp2 : (if m = l then a else ⟨a.block, a.off + l * size, none⟩ : Addr).spot = none := by split <;> first | exact hsp | rfl
      refine .slc _ _ _ _ _ ⟨by rw [hd]; exact k1.1, by rw [hsp2]; simp⟩ (fun o' ho' ht' => ⟨?_, by simp only [z27, hsp2]⟩);split
      ·rfl
      ·simp [Corr.at, z0K, Nat.add_assoc]
    ·rename_i tg hsp;split at h
     ·cases h
     ·rename_i hcond;simp only [Option.map_eq_some_iff] at h;obtain ⟨⟨l, hh, m⟩, hb, rfl⟩ := h;cases hx with
      | slc _ _ _ b cap' k1 k2 =>
      obtain ⟨rfl, k4⟩ := k2 o ho htag;simp only [z27, hsp] at k4;obtain ⟨k5, k6⟩ := k4
      have hmx' : mx = none ∧ mx' = none := by
       cases mx with
       | none => cases mx' with
        | none => exact ⟨rfl, rfl⟩
        | some v => exact h3.elim
       | some v => simp at hcond
      obtain ⟨rfl, rfl⟩ := hmx';have hesz : o.esz = size := by simpa using hcond
      have hbb : z40 len cap' lo hi none = some (l, hh, cap') ∧ hh ≤ len ∧ l ≤ hh := by
       unfold z40 at hb ⊢;simp only [z5v] at hb ⊢;split at hb
       ·rename_i m0 h0 l0 e1 e2 e3;simp only [Option.some.injEq] at e1;subst e1;split at hb
        ·rename_i cc;simp only [Option.some.injEq, Prod.mk.injEq] at hb;obtain ⟨rfl, rfl, rfl⟩ := hb;simp only [e2, e3];obtain ⟨c1, c2, c3, c4⟩ := cc;rw [if_pos ⟨Nat.le_refl _, by omega, c3, .inl rfl⟩];exact ⟨rfl, c2, c3⟩
        ·cases hb
       ·cases hb
      obtain ⟨hbb, hle, hle2⟩ := hbb;have hb' := z3l (P := P) (w := w) (isSlice := true) hbb h1 h2 h3;refine Snd.same hR (v' := .slice (some (if cap' = l then C.at a else (C.at a).add (l * size))) (hh - l) (cap' - l)) ?_ ?_
      ·simp only [Instr.sliceAt, Sem.run_bind, run_underlying hu, Result.andThen_ok, Instr.slice, hb', z03 hs, Sem.run_pure];split <;> simp
      ·refine .slc _ _ _ _ _ ⟨k1.1, fun t ht => ?_⟩ (fun o' ho' ht' => ?_)
       ·split at ht
        ·cases ht
        ·cases ht; exact k1.2 _ hsp
       ·simp only at ho' ht';rw [ho] at ho';cases ho';rw [htag, hsp] at ht';split at ht'
        ·cases ht'
        ·rename_i hne;refine ⟨?_, ?_⟩
         ·by_cases hl0 : l = 0
          ·subst hl0;simp only [Nat.zero_mul, Nat.add_zero];have : (C.at a).add 0 = C.at a := by simp [Corr.at, z0K]
           rw [this];split <;> rfl
          ·rw [if_neg (by omega)];simp [Corr.at, z0K, Nat.add_assoc]
         ·simp only [z27];rw [if_neg hne];simp only [hesz] at k6 ⊢;refine ⟨by omega, ?_⟩;have : l * size + (cap' - l) * size = cap' * size := by rw [← Nat.add_mul]; congr 1; omega
          omega
   ·cases h
  ·cases h
 ·rename_i n elem a hu;split at h
  ·rename_i size hs;split at h
   ·rename_i hsp;simp only [Option.map_eq_some_iff] at h;obtain ⟨⟨l, hh, m⟩, hb, rfl⟩ := h;cases hx with
    | ptr _ b k1 k2 =>
    have hb' := z3l (P := P) (w := w) (isSlice := false) hb h1 h2 h3;refine Snd.same hR (v' := .slice (some (if m = l then b else b.add (l * size))) (hh - l) (m - l)) ?_ ?_
    ·simp only [Instr.sliceAt, Instr.sureAddr, Sem.run_bind, run_underlying hu, Result.andThen_ok, hb', z03 hs, Sem.run_pure]
    ·have hd : (if m = l then a else ⟨a.block, a.off + l * size, none⟩ : Addr).block = a.block := by split <;> rfl
     have hsp2 : (if m = l then a else ⟨a.block, a.off + l * size, none⟩ : Addr).spot = none := by split <;> first | exact hsp | rfl
     refine .slc _ _ _ _ _ ⟨by rw [hd]; exact k1.1, by rw [hsp2]; simp⟩ (fun o' ho' ht' => ⟨?_, by simp only [z27, hsp2]⟩);rw [hd] at ho';rw [k2 ⟨o', ho', by rw [ht', hsp2, hsp]⟩];split
     ·rfl
     ·simp [Corr.at, z0K, Nat.add_assoc]
   ·cases h
  ·cases h
 ·cases h
end
end Go.Am
