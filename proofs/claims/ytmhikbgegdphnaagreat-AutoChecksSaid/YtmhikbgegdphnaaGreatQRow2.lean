import Derived.Test.YtmhikbgegdphnaaGreatQAmZS
import Derived.Test.YtmhikbgegdphnaaGreatQAmW
namespace Go.Am
set_option linter.unusedSimpArgs false
set_option linter.unusedVariables false
open Go.RowKit
theorem Ext.newPut {nx : Nat} {H : Heap} {o : AObj} : Ext nx H (nx + 1) (H.put nx o) := (Ext.refl.up (Nat.le_succ _)).put (Nat.le_refl _)
theorem ok_new {H : Heap} {nx : Nat} {o : AObj} (hok : ∀ id o, H id = some o → id < nx) : ∀ id o', (H.put nx o) id = some o' → id < nx + 1 := fun id o' h => by
  by_cases hi : id = nx
  · omega
  · rw [Heap.put_ne hi] at h
    have := hok id o' h
    omega
def RowsAt {α : Type} (enc : α → List Value) (sz : Nat) (H : Heap) (v : Value) (l : List α) : Prop :=
  (∃ c, v = .slice none 0 c ∧ l = []) ∨ ∃ a c, v = .slice (some a) l.length c ∧ ∀ (i : Nat) (h : i < l.length), getc H ⟨a.block, a.off + i * sz, a.spot⟩ sz = some (enc l[i])
section
variable {α : Type} {enc : α → List Value} {sz : Nat} {H H' : Heap} {nx nx' : Nat} {v : Value} {l : List α}
theorem RowsAt.ext (h : Ext nx H nx' H') (hok : ∀ id o, H id = some o → id < nx) (hr : RowsAt enc sz H v l) : RowsAt enc sz H' v l := by
  rcases hr with h1 | ⟨a, c, rfl, hs⟩
  · exact .inl h1
  · exact .inr ⟨a, c, rfl, fun i hi => getc_ext h hok (hs i hi)⟩
theorem RowsAt.slice (h : RowsAt enc sz H v l) : ∃ a c, v = .slice a l.length c := by
  rcases h with ⟨c, rfl, rfl⟩ | ⟨a, c, rfl, _⟩
  · exact ⟨none, c, rfl⟩
  · exact ⟨some a, c, rfl⟩
theorem rows_src (hk : ∀ x, (enc x).length = sz) (h0 : 0 < sz) (h : RowsAt enc sz H v l) : source H sz v none = some (l.length, l.flatMap enc) := by
  rcases h with ⟨c, rfl, rfl⟩ | ⟨a, c, rfl, hs⟩
  · rfl
  · by_cases hl : l.length = 0
    · have : l = [] := List.eq_nil_of_length_eq_zero hl
      subst this
      show (if 0 * sz = 0 then some (0, []) else _) = _
      rw [if_pos (by omega)]
      rfl
    · have key : ∀ m (hm : m ≤ l.length), getc H a (m * sz) = some ((l.take m).flatMap enc) := by
        intro m
        induction m with
        | zero =>
          intro _
          have h1 := hs 0 (by omega)
          unfold getc at h1 ⊢
          split at h1
          · rename_i c' e t r q ho
            simp only [ho]
            split at h1
            · rename_i hc
              simp only [Nat.zero_mul, Nat.add_zero] at hc ⊢
              rw [if_pos ⟨hc.1, by omega⟩]
              rfl
            · cases h1
          all_goals cases h1
        | succ m ih =>
          intro hm
          have h1 := hs m (by omega)
          have h2 := ih (by omega)
          unfold getc at h1 h2 ⊢
          split at h1
          · rename_i c' e t r q ho
            simp only [ho] at h2 ⊢
            split at h1
            · rename_i hc
              split at h2
              · rw [if_pos ⟨hc.1, by have := hc.2; simp only at this; rw [Nat.add_mul]; omega⟩]
                simp only [Option.some.injEq] at h1 h2 ⊢
                rw [Nat.add_mul, Nat.one_mul, List.take_add, h2, List.drop_drop, h1, List.take_add_one (l := l) (i := m), List.getElem?_eq_getElem (by omega : m < l.length)]
                show _ = (l.take m ++ [l[m]]).flatMap enc
                rw [List.flatMap_append]
                simp
              · cases h2
            · cases h1
          all_goals cases h1
      show (if l.length * sz = 0 then some (l.length, []) else (getc H a (l.length * sz)).map (l.length, ·)) = _
      have : l.length * sz ≠ 0 := Nat.mul_ne_zero hl (by omega)
      rw [if_neg this, key l.length (Nat.le_refl _), List.take_length]
      rfl
theorem flat_len (hk : ∀ x, (enc x).length = sz) (l : List α) : (l.flatMap enc).length = l.length * sz := by
  induction l with
  | nil => simp
  | cons x l ih => simp only [List.flatMap_cons, List.length_append, hk, ih, List.length_cons, Nat.add_mul]; omega
theorem flat_at (hk : ∀ x, (enc x).length = sz) : ∀ (l : List α) (i : Nat) (h : i < l.length), ((l.flatMap enc).drop (i * sz)).take sz = enc l[i] := by
  intro l
  induction l with
  | nil => intro i h; simp at h
  | cons x l ih =>
    intro i h
    cases i with
    | zero => simp [← hk x]
    | succ i =>
      rw [List.flatMap_cons, Nat.add_mul, Nat.one_mul, Nat.add_comm, ← List.drop_drop, List.drop_append_of_le_length (by rw [hk]; exact Nat.le_refl _)]
      rw [show (enc x).drop sz = [] by rw [List.drop_eq_nil_of_le]; rw [hk]; exact Nat.le_refl _]
      simpa using ih i (by simpa using h)
def OwnOf (enc : α → List Value) (sz : Nat) (el : TypeId) (H : Heap) (ob : Option (Nat × Nat)) (v : Value) (l : List α) : Prop := OwnRow H ob el sz v (l.flatMap enc) l.length
theorem OwnOf.at (hk : ∀ x, (enc x).length = sz) {el : TypeId} {ob : Option (Nat × Nat)} (h : OwnOf enc sz el H ob v l) : RowsAt enc sz H v l := by
  cases ob with
  | none =>
    obtain ⟨rfl, _, h2⟩ := h
    exact .inl ⟨0, rfl, List.eq_nil_of_length_eq_zero h2⟩
  | some bt =>
    obtain ⟨b, t⟩ := bt
    obtain ⟨rfl, _, rest, ho⟩ := h
    refine .inr ⟨⟨b, 0, some t⟩, l.length, rfl, fun i hi => ?_⟩
    have hfl := flat_len hk l
    have : (i + 1) * sz ≤ l.length * sz := Nat.mul_le_mul_right sz hi
    rw [Nat.add_mul, Nat.one_mul] at this
    unfold getc
    simp only [ho, Nat.zero_add]
    rw [if_pos ⟨trivial, by rw [List.length_append, hfl]; omega⟩, List.drop_append_of_le_length (by rw [hfl]; omega), List.take_append_of_le_length (by rw [List.length_drop, hfl]; omega), flat_at hk l i hi]
theorem OwnOf.ext {el : TypeId} {ob : Option (Nat × Nat)} (hx : Ext nx H nx' H') (hlt : ∀ b t, ob = some (b, t) → b < nx) (h : OwnOf enc sz el H ob v l) : OwnOf enc sz el H' ob v l := OwnRow.ext hx hlt h
end
structure AppO {α : Type} (enc : α → List Value) (sz : Nat) (el : TypeId) (nx : Nat) (H : Heap) (ob : Option (Nat × Nat)) (l : List α) (v' : Value) (nx' : Nat) (H' : Heap) (ob' : Option (Nat × Nat)) : Prop where
  own : OwnOf enc sz el H' ob' v' l
  blk : ∀ b' t', ob' = some (b', t') → b' < nx' ∧ (b' = nx ∨ ∃ t, ob = some (b', t))
  le : nx ≤ nx'
  same : ∀ i, i < nx → (∀ b t, ob = some (b, t) → i ≠ b) → H' i = H i
  ok : (∀ b t, ob = some (b, t) → b < nx) → (∀ id o, H id = some o → id < nx) → ∀ id o, H' id = some o → id < nx'
section
variable {P : Program} {W0 : World} {H : Heap} {nx n : Nat} {ev : Operand → Option Value} {dst : Option Tmp} {type : TypeId} {pos : String} {after : Array Edge} {guard : Option (Nat × Bool)} {ops : Array Oper} {l : List Oper} {tm : Nat → Value} {QQ : ASt → Prop} {d : Tmp}
theorem OpsL.appendO {α : Type} {enc : α → List Value} {sz bytes : Nat} {z : List Value} {el st xt : TypeId} {ob : Option (Nat × Nat)} {v u : Value} {zs us : List α} {x y : Operand} (hk : ∀ x, (enc x).length = sz) (h1 : ∀ x, (enc x).all (·.oneCell') = true) (h0 : 0 < sz) (hd : d < n) (h : OwnOf enc sz el H ob v zs) (hu : RowsAt enc sz H u us) (hx : ASt.ev ⟨tm, n, H, nx⟩ x = some v) (hy : ASt.ev ⟨tm, n, H, nx⟩ y = some u) (hb : ∀ b t, ob = some (b, t) → b < nx)
    (hst : P.underlying st = some (.slice el)) (hxt : P.underlying xt = some (.slice el)) (hsz : szOf P el = some sz) (hby : bytesOfT P el = some bytes) (hz : zeroOf P el = some z) (hzl : z.length = sz) (hle : zs.length + us.length ≤ 1000000) (hbl : bytes ≤ 1000)
    (hc : ∀ v' nx' H' ob', AppO enc sz el nx H ob (zs ++ us) v' nx' H' ob' → OpsL P W0 ops l ⟨tmPut tm (some d) v', n, H', nx'⟩ QQ) :
    OpsL P W0 ops (⟨some d, .call ⟨.builtin .append, #[x, y], #[st, xt]⟩, type, pos, after, none⟩ :: l) ⟨tm, n, H, nx⟩ QQ := by
  have hsrc := rows_src hk h0 hu
  have hall : ∀ l : List α, (l.flatMap enc).all (·.oneCell') = true := fun l => by
    rw [List.all_eq_true]
    intro v hv
    obtain ⟨x, _, hx⟩ := List.mem_flatMap.1 hv
    exact List.all_eq_true.1 (h1 x) v hx
  have hm1 : (2 * (zs.length + us.length) + 192) * bytes ≤ 281474976710656 := by
    have : (2 * (zs.length + us.length) + 192) * bytes ≤ (2 * (zs.length + us.length) + 192) * 1000 := Nat.mul_le_mul_left _ hbl
    omega
  by_cases hl0 : us.length = 0
  · have : us = [] := List.eq_nil_of_length_eq_zero hl0
    subst this
    have hop : aop P H nx (ASt.ev ⟨tm, n, H, nx⟩) ⟨some d, .call ⟨.builtin .append, #[x, y], #[st, xt]⟩, type, pos, after, none⟩ = some (v, .none) := by
      cases ob with
      | none =>
        obtain ⟨rfl, _, hz0⟩ := h
        simp [aop, hx, hy, evAll, aBuiltin, aAppend, hst, hxt, hsz, hby, hz, hzl, hsrc, show notInt (.slice el) = true from rfl]
      | some bt =>
        obtain ⟨b, t⟩ := bt
        obtain ⟨rfl, hc', rest, ho⟩ := h
        simp [aop, hx, hy, evAll, aBuiltin, aAppend, hst, hxt, hsz, hby, hz, hzl, hsrc, ho, show notInt (.slice el) = true from rfl]
    refine OpsL.p hd hop (hc v nx H ob ⟨by rw [List.append_nil]; exact h, fun b' t' e => ⟨hb b' t' e, .inr ⟨t', e⟩⟩, Nat.le_refl _, fun _ _ _ => rfl, fun _ h => h⟩)
  · refine OpsL.append (sz := sz) (bytes := bytes) (k := zs.length) (m := us.length) (cs := zs.flatMap enc) (xs := us.flatMap enc) (ob := ob) (u := u) (xd := .slice el) (v := v) (el := el) (z := z) hd hx hy h hsrc (hall us) hl0 hst hxt rfl hsz hby hz hzl (by omega) hm1 ?_
    refine hc _ _ _ (some (blkOf nx ob, nx)) ⟨?_, ?_, Nat.le_succ _, ?_, ?_⟩
    · refine ⟨by rw [List.length_append], ?_, [], ?_⟩
      · rw [flat_len hk]
      · rw [Heap.put_eq, List.flatMap_append, List.append_nil]
    · intro b' t' e
      cases e
      cases ob with
      | none => exact ⟨Nat.lt_succ_self _, .inl rfl⟩
      | some bt => exact ⟨Nat.lt_succ_of_lt (hb bt.1 bt.2 rfl), .inr ⟨bt.2, rfl⟩⟩
    · intro i hi hib
      refine Heap.put_ne ?_
      cases ob with
      | none => simp only [blkOf]; omega
      | some bt => exact hib bt.1 bt.2 rfl
    · intro hb' hok id o ho
      by_cases e : id = blkOf nx ob
      · subst e
        cases ob with
        | none => exact Nat.lt_succ_self _
        | some bt => exact Nat.lt_succ_of_lt (hb' bt.1 bt.2 rfl)
      · rw [Heap.put_ne e] at ho
        exact Nat.lt_succ_of_lt (hok id o ho)
end
end Go.Am
