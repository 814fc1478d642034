import Derived.Test.YtmhikbgegdphnaaGreatQMkIn3
namespace Go.Proofs.YtmhikbgegdphnaaGreat
set_option linter.unusedSimpArgs false
set_option linter.unusedVariables false
open Go.Am Go.RowKit
attribute [local irreducible] aop OpsL Trip blockExit OpsD OpsK OpsR
variable {W0 : World} {ops : Array Oper} {type : TypeId} {pos : String} {after : Array Edge} {os : List Oper} {tm : Nat → Value} {n : Nat} {d : Tmp} {QQ : ASt → Prop}
theorem lens25 {a b : Aut} (h : a.init.length ≤ 25 ∧ a.final.length ≤ 25 ∧ a.opens.length ≤ 25 ∧ a.closes.length ≤ 25 ∧ a.inners.length ≤ 25)
    (hb : b.init.length ≤ a.init.length + 1 ∧ b.final.length ≤ a.final.length + 1 ∧ b.opens.length ≤ a.opens.length + 1 ∧ b.closes.length ≤ a.closes.length + 1 ∧ b.inners.length ≤ a.inners.length + 1) : AutLen b := ⟨by omega, by omega, by omega, by omega, by omega⟩
set_option maxRecDepth 20000 in
theorem bsO {x : Operand} {r : R4} {H : Heap} {nx : Nat} (hd : d < n) (hx : ASt.ev ⟨tm, n, H, nx⟩ x = some (.agg (e4 r).toArray))
    (hc : ∀ G, Ext nx H (nx + 1) G → RowsAt e4 4 G (.slice (some ⟨nx, 0, none⟩) 1 1) [r] → OpsL Tryz.prog W0 ops os ⟨tmPut tm (some d) (.slice (some ⟨nx, 0, none⟩) 1 1), n, G, nx + 1⟩ QQ) :
    OpsL Tryz.prog W0 ops (⟨some d, .buildSlice 26 1 #[(0, x)], type, pos, after, none⟩ :: os) ⟨tm, n, H, nx⟩ QQ := by
  refine OpsL.new hd (aop_buildSlice (l := [(0, .agg (e4 r).toArray)]) (r := (.slice (some ⟨nx, 0, none⟩) 1 1, .new (.cells (e4 r) 4 none false (some 36)))) (by simp [evParts, hx]) (by kernel_rfl)) ?_
  refine hc _ Ext.newPut (.inr ⟨⟨nx, 0, none⟩, 1, rfl, fun j hj => ?_⟩)
  have : j = 0 := by simpa using hj
  subst this
  exact getc_own (by show 0 + 4 ≤ 4; decide)
set_option maxRecDepth 20000 in
theorem appO {x y : Operand} {r : R4} {H G : Heap} {base A nx : Nat} {a : Aut} {l : List (Option (Nat × Nat))} {vi vf vo vc vn : Value} (hm : MkIn H base A nx a l vi vf vo vc vn) (hl : a.opens.length ≤ 1000) (x4 : Ext nx H (nx + 1) G) (hone : RowsAt e4 4 G (.slice (some ⟨nx, 0, none⟩) 1 1) [r])
    (hd : d < n) (hx : ASt.ev ⟨tm, n, G, nx + 1⟩ x = some vo) (hy : ASt.ev ⟨tm, n, G, nx + 1⟩ y = some (.slice (some ⟨nx, 0, none⟩) 1 1))
    (hc : ∀ (v' : Value) (nx5 : Nat) (H5 : Heap) (l5 : List (Option (Nat × Nat))), H5 A = some (.cells (autV a vi vf vo vc vn) 0 none false (some 30)) →
      MkIn (H5.put A (.cells (autV (putO a r) vi vf v' vc vn) 0 none false (some 30))) base A nx5 (putO a r) l5 vi vf v' vc vn → (∀ i, i < base → i ≠ A → H5 i = H i) → nx ≤ nx5 → v'.cells = #[v'] → v'.oneCell' = true → OpsL Tryz.prog W0 ops os ⟨tmPut tm (some d) v', n, H5, nx5⟩ QQ) :
    OpsL Tryz.prog W0 ops (⟨some d, .call ⟨.builtin .append, #[x, y], #[26, 26]⟩, type, pos, after, none⟩ :: os) ⟨tm, n, G, nx + 1⟩ QQ := by
  obtain ⟨ob, hj, hown⟩ := hm.opens
  have hA := hm.hA
  have hB := hm.hb
  have hbl : ∀ b t, ob = some (b, t) → base ≤ b ∧ b ≠ A ∧ b < nx := fun b t hb => hm.sep.1 2 b t (by rw [hj, hb])
  refine OpsL.appendO (bytes := 32) (z := rep 4 [.int .i64 0]) e4_len e4_one (by omega) hd (hown.ext x4 (fun b t h => (hbl b t h).2.2)) hone hx hy (fun b t h => by have := (hbl b t h).2.2; omega) (by exact rfl) (by exact rfl) (by exact rfl) (by exact rfl) (by exact rfl) rfl (by simp; omega) (by omega) ?_
  intro v' nx5 H5 ob5 hA5
  obtain ⟨b5, t5, hob5⟩ : ∃ b t, ob5 = some (b, t) := by
    cases ob5 with
    | none => exfalso; have := hA5.own.2.2; simp at this
    | some x => exact ⟨x.1, x.2, rfl⟩
  subst hob5
  have hle5 := hA5.le
  have hsame : ∀ i, i < nx → (∀ b t, ob = some (b, t) → i ≠ b) → H5 i = H i := fun i hi hb => by rw [hA5.same i (by omega) hb, x4.2 i hi]
  obtain ⟨k1, k2⟩ := hA5.blk b5 t5 rfl
  have hm2 := hm.putO (p := r) (nx1 := nx5) hj hA5.own (by rcases k2 with k2 | k2; exact .inl (by omega); exact .inr k2) k1 (by omega) hsame
  refine hc v' nx5 H5 _ ((hsame A hA (fun b t hb e => (hbl b t hb).2.1 e.symm)).trans hm.cell) hm2 (fun i hi hi2 => hsame i (by omega) (fun b t hb => by have := hbl b t hb; omega)) (by omega) (by rw [hA5.own.1]; rfl) (by rw [hA5.own.1]; rfl)
set_option maxRecDepth 20000 in
theorem bsC {x : Operand} {r : R4} {H : Heap} {nx : Nat} (hd : d < n) (hx : ASt.ev ⟨tm, n, H, nx⟩ x = some (.agg (e4 r).toArray))
    (hc : ∀ G, Ext nx H (nx + 1) G → RowsAt e4 4 G (.slice (some ⟨nx, 0, none⟩) 1 1) [r] → OpsL Tryz.prog W0 ops os ⟨tmPut tm (some d) (.slice (some ⟨nx, 0, none⟩) 1 1), n, G, nx + 1⟩ QQ) :
    OpsL Tryz.prog W0 ops (⟨some d, .buildSlice 27 1 #[(0, x)], type, pos, after, none⟩ :: os) ⟨tm, n, H, nx⟩ QQ := by
  refine OpsL.new hd (aop_buildSlice (l := [(0, .agg (e4 r).toArray)]) (r := (.slice (some ⟨nx, 0, none⟩) 1 1, .new (.cells (e4 r) 4 none false (some 38)))) (by simp [evParts, hx]) (by kernel_rfl)) ?_
  refine hc _ Ext.newPut (.inr ⟨⟨nx, 0, none⟩, 1, rfl, fun j hj => ?_⟩)
  have : j = 0 := by simpa using hj
  subst this
  exact getc_own (by show 0 + 4 ≤ 4; decide)
set_option maxRecDepth 20000 in
theorem appC {x y : Operand} {r : R4} {H G : Heap} {base A nx : Nat} {a : Aut} {l : List (Option (Nat × Nat))} {vi vf vo vc vn : Value} (hm : MkIn H base A nx a l vi vf vo vc vn) (hl : a.closes.length ≤ 1000) (x4 : Ext nx H (nx + 1) G) (hone : RowsAt e4 4 G (.slice (some ⟨nx, 0, none⟩) 1 1) [r])
    (hd : d < n) (hx : ASt.ev ⟨tm, n, G, nx + 1⟩ x = some vc) (hy : ASt.ev ⟨tm, n, G, nx + 1⟩ y = some (.slice (some ⟨nx, 0, none⟩) 1 1))
    (hc : ∀ (v' : Value) (nx5 : Nat) (H5 : Heap) (l5 : List (Option (Nat × Nat))), H5 A = some (.cells (autV a vi vf vo vc vn) 0 none false (some 30)) →
      MkIn (H5.put A (.cells (autV (putC a r) vi vf vo v' vn) 0 none false (some 30))) base A nx5 (putC a r) l5 vi vf vo v' vn → (∀ i, i < base → i ≠ A → H5 i = H i) → nx ≤ nx5 → v'.cells = #[v'] → v'.oneCell' = true → OpsL Tryz.prog W0 ops os ⟨tmPut tm (some d) v', n, H5, nx5⟩ QQ) :
    OpsL Tryz.prog W0 ops (⟨some d, .call ⟨.builtin .append, #[x, y], #[27, 27]⟩, type, pos, after, none⟩ :: os) ⟨tm, n, G, nx + 1⟩ QQ := by
  obtain ⟨ob, hj, hown⟩ := hm.closes
  have hA := hm.hA
  have hB := hm.hb
  have hbl : ∀ b t, ob = some (b, t) → base ≤ b ∧ b ≠ A ∧ b < nx := fun b t hb => hm.sep.1 3 b t (by rw [hj, hb])
  refine OpsL.appendO (bytes := 32) (z := rep 4 [.int .i64 0]) e4_len e4_one (by omega) hd (hown.ext x4 (fun b t h => (hbl b t h).2.2)) hone hx hy (fun b t h => by have := (hbl b t h).2.2; omega) (by exact rfl) (by exact rfl) (by exact rfl) (by exact rfl) (by exact rfl) rfl (by simp; omega) (by omega) ?_
  intro v' nx5 H5 ob5 hA5
  obtain ⟨b5, t5, hob5⟩ : ∃ b t, ob5 = some (b, t) := by
    cases ob5 with
    | none => exfalso; have := hA5.own.2.2; simp at this
    | some x => exact ⟨x.1, x.2, rfl⟩
  subst hob5
  have hle5 := hA5.le
  have hsame : ∀ i, i < nx → (∀ b t, ob = some (b, t) → i ≠ b) → H5 i = H i := fun i hi hb => by rw [hA5.same i (by omega) hb, x4.2 i hi]
  obtain ⟨k1, k2⟩ := hA5.blk b5 t5 rfl
  have hm2 := hm.putC (p := r) (nx1 := nx5) hj hA5.own (by rcases k2 with k2 | k2; exact .inl (by omega); exact .inr k2) k1 (by omega) hsame
  refine hc v' nx5 H5 _ ((hsame A hA (fun b t hb e => (hbl b t hb).2.1 e.symm)).trans hm.cell) hm2 (fun i hi hi2 => hsame i (by omega) (fun b t hb => by have := hbl b t hb; omega)) (by omega) (by rw [hA5.own.1]; rfl) (by rw [hA5.own.1]; rfl)
set_option maxRecDepth 20000 in
theorem bsN {x : Operand} {r : R3} {H : Heap} {nx : Nat} (hd : d < n) (hx : ASt.ev ⟨tm, n, H, nx⟩ x = some (.agg (e3 r).toArray))
    (hc : ∀ G, Ext nx H (nx + 1) G → RowsAt e3 3 G (.slice (some ⟨nx, 0, none⟩) 1 1) [r] → OpsL Tryz.prog W0 ops os ⟨tmPut tm (some d) (.slice (some ⟨nx, 0, none⟩) 1 1), n, G, nx + 1⟩ QQ) :
    OpsL Tryz.prog W0 ops (⟨some d, .buildSlice 28 1 #[(0, x)], type, pos, after, none⟩ :: os) ⟨tm, n, H, nx⟩ QQ := by
  refine OpsL.new hd (aop_buildSlice (l := [(0, .agg (e3 r).toArray)]) (r := (.slice (some ⟨nx, 0, none⟩) 1 1, .new (.cells (e3 r) 3 none false (some 40)))) (by simp [evParts, hx]) (by kernel_rfl)) ?_
  refine hc _ Ext.newPut (.inr ⟨⟨nx, 0, none⟩, 1, rfl, fun j hj => ?_⟩)
  have : j = 0 := by simpa using hj
  subst this
  exact getc_own (by show 0 + 3 ≤ 3; decide)
set_option maxRecDepth 20000 in
theorem appN {x y : Operand} {r : R3} {H G : Heap} {base A nx : Nat} {a : Aut} {l : List (Option (Nat × Nat))} {vi vf vo vc vn : Value} (hm : MkIn H base A nx a l vi vf vo vc vn) (hl : a.inners.length ≤ 1000) (x4 : Ext nx H (nx + 1) G) (hone : RowsAt e3 3 G (.slice (some ⟨nx, 0, none⟩) 1 1) [r])
    (hd : d < n) (hx : ASt.ev ⟨tm, n, G, nx + 1⟩ x = some vn) (hy : ASt.ev ⟨tm, n, G, nx + 1⟩ y = some (.slice (some ⟨nx, 0, none⟩) 1 1))
    (hc : ∀ (v' : Value) (nx5 : Nat) (H5 : Heap) (l5 : List (Option (Nat × Nat))), H5 A = some (.cells (autV a vi vf vo vc vn) 0 none false (some 30)) →
      MkIn (H5.put A (.cells (autV (putN a r) vi vf vo vc v') 0 none false (some 30))) base A nx5 (putN a r) l5 vi vf vo vc v' → (∀ i, i < base → i ≠ A → H5 i = H i) → nx ≤ nx5 → v'.cells = #[v'] → v'.oneCell' = true → OpsL Tryz.prog W0 ops os ⟨tmPut tm (some d) v', n, H5, nx5⟩ QQ) :
    OpsL Tryz.prog W0 ops (⟨some d, .call ⟨.builtin .append, #[x, y], #[28, 28]⟩, type, pos, after, none⟩ :: os) ⟨tm, n, G, nx + 1⟩ QQ := by
  obtain ⟨ob, hj, hown⟩ := hm.inners
  have hA := hm.hA
  have hB := hm.hb
  have hbl : ∀ b t, ob = some (b, t) → base ≤ b ∧ b ≠ A ∧ b < nx := fun b t hb => hm.sep.1 4 b t (by rw [hj, hb])
  refine OpsL.appendO (bytes := 24) (z := rep 3 [.int .i64 0]) e3_len e3_one (by omega) hd (hown.ext x4 (fun b t h => (hbl b t h).2.2)) hone hx hy (fun b t h => by have := (hbl b t h).2.2; omega) (by exact rfl) (by exact rfl) (by exact rfl) (by exact rfl) (by exact rfl) rfl (by simp; omega) (by omega) ?_
  intro v' nx5 H5 ob5 hA5
  obtain ⟨b5, t5, hob5⟩ : ∃ b t, ob5 = some (b, t) := by
    cases ob5 with
    | none => exfalso; have := hA5.own.2.2; simp at this
    | some x => exact ⟨x.1, x.2, rfl⟩
  subst hob5
  have hle5 := hA5.le
  have hsame : ∀ i, i < nx → (∀ b t, ob = some (b, t) → i ≠ b) → H5 i = H i := fun i hi hb => by rw [hA5.same i (by omega) hb, x4.2 i hi]
  obtain ⟨k1, k2⟩ := hA5.blk b5 t5 rfl
  have hm2 := hm.putN (p := r) (nx1 := nx5) hj hA5.own (by rcases k2 with k2 | k2; exact .inl (by omega); exact .inr k2) k1 (by omega) hsame
  refine hc v' nx5 H5 _ ((hsame A hA (fun b t hb e => (hbl b t hb).2.1 e.symm)).trans hm.cell) hm2 (fun i hi hi2 => hsame i (by omega) (fun b t hb => by have := hbl b t hb; omega)) (by omega) (by rw [hA5.own.1]; rfl) (by rw [hA5.own.1]; rfl)
end Go.Proofs.YtmhikbgegdphnaaGreat
