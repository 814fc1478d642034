import Derived.Test.YteplpegfcpmflaaGreatRows
import Derived.JoinedCond
import Derived.Test.YteplpegfcpmflaaGreatQKM19
set_option linter.unusedSimpArgs false
set_option linter.unusedVariables false
set_option maxRecDepth 100000
set_option maxHeartbeats 32000000
namespace Go.Am
open Go.RowKit Go.ChangeShapes Go.WideShapes Go.ChangeAt
attribute [local irreducible] aop OpsL Trip zI z2w OpsK OpsR
section
variable {P : Program} {W0 : World} {H : Heap} {nx n : Nat} {type : TypeId} {pos : String} {after : Array Edge} {ops : Array Oper} {l : List Oper} {tm : Nat → Value} {QQ : ASt → Prop} {d : Tmp}
namespace zd0b
noncomputable section
end
end zd0b
open zd0b in
theorem z8r {α : Type} {enc : α → List Value} {sz bytes : Nat} {z : List Value} {el st xt : TypeId} {ob : Option (Nat × Nat)} {v u : Value} {zs us : List α} {x y : Operand} (hk : ∀ x, (enc x).length = sz) (h1 : ∀ x, (enc x).all (·.oneCell') = true) (h0 : 0 < sz) (hd : d < n) (h : OwnOf enc sz el H ob v zs) (hu : RowsAt enc sz H u us) (hx : ASt.ev ⟨tm, n, H, nx⟩ x = some v) (hy : ASt.ev ⟨tm, n, H, nx⟩ y = some u) (hb : ∀ b t, ob = some (b, t) → b < nx)
  (hst : P.underlying st = some (.slice el)) (hxt : P.underlying xt = some (.slice el)) (hsz : z1F P el = some sz) (hby : z0q P el = some bytes) (hz : z0B P el = some z) (hzl : z.length = sz) (hle : zs.length + us.length ≤ 1048576) (hbl : bytes ≤ 1000)
  (hc : ∀ v' nx' H' ob', AppO enc sz el nx H ob (zs ++ us) v' nx' H' ob' → OpsL P W0 ops l ⟨zk tm (some d) v', n, H', nx'⟩ QQ) :
  OpsL P W0 ops (⟨some d, .call ⟨.builtin .append, #[x, y], #[st, xt]⟩, type, pos, after, none⟩ :: l) ⟨tm, n, H, nx⟩ QQ := zd0
theorem z5a {α : Type} {enc : α → List Value} {sz bytes : Nat} {z : List Value} {el st xt : TypeId} {ob : Option (Nat × Nat)} {v u : Value} {zs us : List α} {x y : Operand} (hk : ∀ x, (enc x).length = sz) (h1 : ∀ x, (enc x).all (·.oneCell') = true) (h0 : 0 < sz) (hd : d < n) (h : RowE enc sz el H ob v zs) (hu : RowsAt enc sz H u us) (hx : ASt.ev ⟨tm, n, H, nx⟩ x = some v) (hy : ASt.ev ⟨tm, n, H, nx⟩ y = some u) (hb : ∀ b t, ob = some (b, t) → b < nx)
  (hst : P.underlying st = some (.slice el)) (hxt : P.underlying xt = some (.slice el)) (hsz : z1F P el = some sz) (hby : z0q P el = some bytes) (hz : z0B P el = some z) (hzl : z.length = sz) (hle : zs.length + us.length ≤ 1048576) (hbl : bytes ≤ 1000)
  (hc : ∀ v' nx' H' ob', AppE enc sz el nx H ob (zs ++ us) v' nx' H' ob' → OpsL P W0 ops l ⟨zk tm (some d) v', n, H', nx'⟩ QQ) :
  OpsL P W0 ops (⟨some d, .call ⟨.builtin .append, #[x, y], #[st, xt]⟩, type, pos, after, none⟩ :: l) ⟨tm, n, H, nx⟩ QQ := by
 rcases h with h | ⟨rfl, rfl, b, esz, ro, q, rfl, hH⟩
 ·exact z8r hk h1 h0 hd h hu hx hy hb hst hxt hsz hby hz hzl hle hbl fun v' nx' H' ob' hA => hc v' nx' H' ob' ⟨.inl hA.own, hA.blk, hA.le, hA.same, hA.ok⟩
 ·have hsrc := z5V hk h0 hu
  have hall : (us.flatMap enc).all (·.oneCell') = true := by
   rw [List.all_eq_true];intro v hv;obtain ⟨x, _, hx⟩ := List.mem_flatMap.1 hv;exact List.all_eq_true.1 (h1 x) v hx
  by_cases hl0 : us.length = 0
  ·have : us = [] := List.eq_nil_of_length_eq_zero hl0;subst this;refine z1j hd (z59 hx hy hH hsrc hall hst hxt rfl hsz hby hz hzl) (hc _ _ _ none ⟨.inr ⟨rfl, rfl, b, esz, ro, q, rfl, hH⟩, fun b' t' e => (by cases e), Nat.le_refl _, fun _ _ _ => rfl, fun _ h => h⟩)
  ·have hm1 : (2 * us.length + 192) * bytes ≤ 281474976710656 := by
    simp only [List.length_nil, Nat.zero_add] at hle;have : (2 * us.length + 192) * bytes ≤ (2 * us.length + 192) * 1000 := Nat.mul_le_mul_left _ hbl;omega
   refine OpsL.new hd (z5I hx hy hH hsrc hall hl0 hst hxt rfl hsz hby hz hzl (by simp at hle; omega) hm1) (hc _ _ _ (some (nx, nx)) ⟨.inl ⟨rfl, by rw [List.nil_append, z0i hk], [], by rw [zb, List.append_nil, List.nil_append]⟩, fun b' t' e => ?_, Nat.le_succ _, fun i hi _ => za zom, fun _ hok => zF hok⟩);cases e;exact ⟨Nat.lt_succ_self _, .inl rfl⟩
end
section
variable {P : Program} {E : Type} {enc : TypeId × Value → E} {W : World}
theorem z7u {t e : TypeId} {k : IntKind} {r : Reach} {b0 : Nat} {v : Value} {d : DataW E} {ps : List MemPlace} (ht : P.underlying t = some (.slice e)) (he : P.underlying e = some (.int k)) (hc : P.cellsOf e = 1)
  (hval : Value.okWide P W r b0 t v) (h : DataW.Trod enc P W 0 (fun _ => true) true t v d ps) : ∃ xs, z65 W (.ints k xs) v ∧ (∀ x ∈ xs, (Lit.int k x).wf = true) ∧ ((d = .nil ∧ xs = []) ∨ ∃ sp, d = .slice (lits k xs) sp) := by
 obtain ⟨a0, len0, cap0, rfl⟩ := okWide_slice ht hval;obtain ⟨fuel, hf⟩ := h;simp only [Value.okWide, ht, Cell.okWide] at hval;rcases open_ints ht he hc hf with ⟨h1, hx0⟩ | ⟨a, len, cap, zs, h1, _, hle, hmax, hz, hx, hcell, hwf⟩
 ·simp [Value.cells] at h1;obtain ⟨rfl, rfl, rfl⟩ := h1;exact ⟨[], .inl ⟨rfl, rfl⟩, fun x hx => (by cases hx), .inl ⟨congrArg Prod.fst hx0, rfl⟩⟩
 ·simp [Value.cells] at h1;obtain ⟨rfl, rfl, rfl⟩ := h1;simp only [if_true] at hz
  have hok : len0 ≤ cap0 ∧ (cap0 : Int) ≤ IntKind.i64.max ∧ W.has P r b0 a e cap0 := by
   simpa [Cell.ok, ht] using hval
  obtain ⟨_, _, _, hsp, row, cells, hsh, hlies⟩ := hok;obtain ⟨b, off, sp⟩ := a;simp only at hsp;subst hsp;simp only [World.shape?] at hsh;split at hsh
  case h_2 => cases hsh
  rename_i Cc el fr hw;simp only [Option.some.injEq, Prod.mk.injEq] at hsh;obtain ⟨rfl, rfl⟩ := hsh
  have hoff : off ≤ Cc.size := by
   have h1 := zdS _ _ _ _ _ _ hlies;have h2 := Nat.div_mul_le_self Cc.size (P.cellsOf el);exact Nat.le_trans h1 h2
  have hcells : ∀ i, i < cap0 → Cc[off + i]? = some (.int k (zs.getD i 0)) := fun i hi => by
   have := hcell i zom;simpa [z1C, World.cell?, hw] using this
  have hle2 : off + cap0 ≤ Cc.size := by
   rcases Nat.eq_zero_or_pos cap0 with h0 | h0
   ·omega
   ·have := hcells (cap0 - 1) zom;have := (Array.getElem?_eq_some_iff.1 this).1;omega
  exact ⟨zs.take len0, .inr ⟨b, off, len0, cap0, zs, Cc, el, fr, rfl, hle, hz, rfl, hw, hle2, hcells⟩, fun x hx => hwf x (List.mem_of_mem_take hx), .inr ⟨_, congrArg Prod.fst hx⟩⟩
end
end Go.Am
namespace Go.Proofs.YteplpegfcpmflaaGreat.upto
open Go.ChangeAt Go.ChangeShapes Go.WideShapes
theorem zhA {H : Type} (d : DataW H) : 1 ≤ Rows.uptoBulk d := by
 cases d with
 | lit l => cases l <;> simp [Rows.uptoBulk]
 | nil => simp [Rows.uptoBulk]
 | ptr d => simp [Rows.uptoBulk]
 | slice elems spare => simp [Rows.uptoBulk]
 | agg parts => simp [Rows.uptoBulk]
 | iface t d => simp [Rows.uptoBulk]
 | map entries => simp [Rows.uptoBulk]
 | held h => simp [Rows.uptoBulk]
theorem zdT {H : Type} (l : List (DataW H)) : l.length ≤ Rows.uptoBulkAll l := by
 induction l with
 | nil => simp [Rows.uptoBulkAll]
 | cons x r ih => have := zhA x; simp only [Rows.uptoBulkAll, List.length_cons]; omega
theorem ziE {H : Type} {k : IntKind} {d : DataW H} {xs : List Int} (h : (d = .nil ∧ xs = []) ∨ ∃ sp, d = .slice (lits k xs) sp) : xs.length ≤ Rows.uptoBulk d := by
 rcases h with ⟨rfl, rfl⟩ | ⟨sp, rfl⟩
 ·simp
 ·have h1 := zdT (lits (H := H) k xs);have h2 : (lits (H := H) k xs).length = xs.length := by simp [lits]
  simp only [Rows.uptoBulk];omega
end Go.Proofs.YteplpegfcpmflaaGreat.upto
