import Derived.Test.YtjgbcpagfghfnaaQWM53
import Derived.Test.YtjgbcpagfghfnaaQWM16
import Derived.Test.YtjgbcpagfghfnaaQWM40
set_option linter.unusedVariables false
set_option linter.unusedSimpArgs false
set_option linter.unnecessarySimpa false
namespace Go.Am
open Go.RowKit
theorem bools_rowsN {H : Heap} {v : Value} {l : List Bool} (h : BoolsAt H v l) : RowsAt encBo 1 H v l := by
  rcases h with h | ⟨a, c, rfl, hc⟩
  · exact .inl h
  · refine .inr ⟨a, c, rfl, fun i hi => ?_⟩
    obtain ⟨u, h1, rfl⟩ := hc i hi
    simpa [cellAt, encBo] using h1
end Go.Am
namespace Go.Proofs.Ytjgbcpagfghfnaa
open Go.Am Go.RowKit
attribute [local irreducible] aop OpsL Trip blockExit OpsD OpsK OpsR OpsQ
structure J11 (σ0 : CH) (m : Mo) (VM : MoV) (A : Nat) (bits : Int) (l : List Nat) (tm : Nat → Value) (σ : CH) : Prop where
  old : OldC σ0 σ
  t2 : tm 2 = .int .i64 bits
  t7 : tm 7 = .pointer (some ⟨A, 0, none⟩)
  t8 : tm 8 = .int .i64 m.of.length
  t34 : tm 34 = .int .i64 m.plains
  t36 : tm 36 = .int .i64 m.closings
  t39 : tm 39 = VM.o
  t42 : tm 42 = VM.o
  t45 : tm 45 = VM.e
  t48 : tm 48 = VM.f
  t51 : tm 51 = VM.f
  d1 : 10 ∈ l → 20 ∈ l
  d2 : 19 ∈ l → 20 ∈ l
  d3 : 20 ∈ l → 22 ∈ l
  d4 : 22 ∉ l → 21 ∉ l
  d5 : 7 ∈ l → 10 ∈ l
  d6 : 16 ∈ l → 19 ∈ l
  a4 : 4 ∉ l → 7 ∈ l → OwnOrC encN (fun x => .int .i64 x) 3 .of σ (tm 37) []
  a7 : 7 ∉ l → 10 ∈ l → OwnC encN 3 .of σ (tm 40) m.of
  a10 : 10 ∉ l → OwnC encN 3 .of σ (tm 43) (m.of ++ m.of)
  a13 : 13 ∉ l → 16 ∈ l → OwnOrC encBo (fun x => .bool x) 4 .final σ (tm 46) []
  a16 : 16 ∉ l → 19 ∈ l → OwnC encBo 4 .final σ (tm 49) m.final
  a19 : 19 ∉ l → OwnC encBo 4 .final σ (tm 52) (m.final ++ m.final)
  a20 : 20 ∉ l → tm 53 = .agg (moC m.plains m.closings ⟨tm 43, VM.e, tm 52, .slice none 0 0, .slice none 0 0, .slice none 0 0⟩).toArray
  a21 : 21 ∉ l → ∃ B, tm 9 = .pointer (some ⟨B, 0, none⟩) ∧ ObC .self σ B (.cells (if 22 ∈ l then moV noMo nilV else moC m.plains m.closings ⟨tm 43, VM.e, tm 52, .slice none 0 0, .slice none 0 0, .slice none 0 0⟩) 0 none false (some 29))
set_option maxRecDepth 20000 in
set_option maxHeartbeats 16000000 in
theorem twNew (W0 : World) {nx n A : Nat} {H : Heap} {m : Mo} {VM : MoV} {bits : Int} {tm : Nat → Value} (hmod : ModOk m) (hn0 : n = 217) (hn30 : m.of.length ≤ 30) (hok : ∀ id o, H id = some o → id < nx) (hb : MoBox H A m VM) (hG : MoIn H m VM) (h2 : tm 2 = .int .i64 bits) (h7 : tm 7 = .pointer (some ⟨A, 0, none⟩)) (h8 : tm 8 = .int .i64 m.of.length) {Q : AExit → ASt → Prop}
    (hQ : ∀ tm' σ' B V', tm' 2 = .int .i64 bits → tm' 7 = .pointer (some ⟨A, 0, none⟩) → tm' 8 = .int .i64 m.of.length → tm' 9 = .pointer (some ⟨B, 0, none⟩) → V'.e = VM.e → TwS ⟨nx, fun _ => .old, H⟩ σ' m ⟨A, B, bits, 0, 0⟩ [] [] [] V' → Q .normal ⟨tm', n, σ'.H, σ'.nx⟩) :
    Trip Try.prog W0 (subC [1, 1, 1, 1, 0] (bodyMk Try.f4)) ⟨tm, n, H, nx⟩ Q := by
  have hn1 := hmod.n.1
  have hfl := hmod.fl
  have FA : ∀ {N : Nat} {H' : Heap}, Ext nx H N H' → MoBox H' A m VM ∧ MoIn H' m VM := fun h => ⟨hb.ext h hok, hG.ext h hok⟩
  have hE0 : ∃ a k, VM.e = .slice a m.entry.length k := hG.entry.slice
  clear hok hG
  refine OpsQ.drawn [4, 7, 10, 13, 16, 19, 20, 21, 22] (K := fun _ _ H' => MoBox H' A m VM) mixed13 (by kernel_rfl) (by kernel_rfl) [0, 1, 2, 3, 5, 6, 8, 9, 11, 12, 14, 15, 17, 18, 4, 7, 10, 13, 16, 19, 20, 21, 22] (by kernel_rfl) (fun _ _ => hb) ?_
  refine OpsQ.one rfl rfl rfl (by kernel_rfl) ?_
  repeat (first | (refine OpsL.q (by exact ofa) ?_) | (refine OpsL.nil ?_; (dsimp only)))
  refine OpsQ.sp 20 rfl (by kernel_rfl) (by subst_vars; decide) hb (fun H2 nx2 hK => aop_load (by (first | (simp only [ASt.ev, tmPut, ↓reduceIte, Nat.reduceEqDiff, *]; rfl))) (by exact rfl) rfl hK.c0) ?_
  refine OpsQ.one rfl rfl rfl (by kernel_rfl) ?_
  repeat (first | (refine OpsL.q (by exact ofa) ?_) | (refine OpsL.nil ?_; (dsimp only)))
  refine OpsQ.sp 20 rfl (by kernel_rfl) (by subst_vars; decide) hb (fun H2 nx2 hK => aop_load (by (first | (simp only [ASt.ev, tmPut, ↓reduceIte, Nat.reduceEqDiff, *]; rfl))) (by exact rfl) rfl hK.c1) ?_
  refine OpsQ.one rfl rfl rfl (by kernel_rfl) ?_
  repeat (first | (refine OpsL.q (by exact ofa) ?_) | (refine OpsL.nil ?_; (dsimp only)))
  refine OpsQ.sp 7 rfl (by kernel_rfl) (by subst_vars; decide) hb (fun H2 nx2 hK => aop_load (by (first | (simp only [ASt.ev, tmPut, ↓reduceIte, Nat.reduceEqDiff, *]; rfl))) (by exact rfl) rfl hK.c2) ?_
  refine OpsQ.one rfl rfl rfl (by kernel_rfl) ?_
  repeat (first | (refine OpsL.q (by exact ofa) ?_) | (refine OpsL.nil ?_; (dsimp only)))
  refine OpsQ.sp 10 rfl (by kernel_rfl) (by subst_vars; decide) hb (fun H2 nx2 hK => aop_load (by (first | (simp only [ASt.ev, tmPut, ↓reduceIte, Nat.reduceEqDiff, *]; rfl))) (by exact rfl) rfl hK.c2) ?_
  refine OpsQ.one rfl rfl rfl (by kernel_rfl) ?_
  repeat (first | (refine OpsL.q (by exact ofa) ?_) | (refine OpsL.nil ?_; (dsimp only)))
  refine OpsQ.sp 20 rfl (by kernel_rfl) (by subst_vars; decide) hb (fun H2 nx2 hK => aop_load (by (first | (simp only [ASt.ev, tmPut, ↓reduceIte, Nat.reduceEqDiff, *]; rfl))) (by exact rfl) rfl hK.c3) ?_
  refine OpsQ.one rfl rfl rfl (by kernel_rfl) ?_
  repeat (first | (refine OpsL.q (by exact ofa) ?_) | (refine OpsL.nil ?_; (dsimp only)))
  refine OpsQ.sp 16 rfl (by kernel_rfl) (by subst_vars; decide) hb (fun H2 nx2 hK => aop_load (by (first | (simp only [ASt.ev, tmPut, ↓reduceIte, Nat.reduceEqDiff, *]; rfl))) (by exact rfl) rfl hK.c4) ?_
  refine OpsQ.one rfl rfl rfl (by kernel_rfl) ?_
  repeat (first | (refine OpsL.q (by exact ofa) ?_) | (refine OpsL.nil ?_; (dsimp only)))
  refine OpsQ.sp 19 rfl (by kernel_rfl) (by subst_vars; decide) hb (fun H2 nx2 hK => aop_load (by (first | (simp only [ASt.ev, tmPut, ↓reduceIte, Nat.reduceEqDiff, *]; rfl))) (by exact rfl) rfl hK.c4) ?_
  refine OpsQ.uni (L0 := [4, 7, 10, 13, 16, 19, 20, 21, 22]) (J := fun l st => ∃ tm σ, st = ⟨tm, n, σ.H, σ.nx⟩ ∧ J11 ⟨nx, fun _ => .old, H⟩ m VM A bits l tm σ) ?_ ?_ ?_ _ _ _ (Nat.le_refl _) (fun _ h => h) (by decide) ?_
  · rintro l st ⟨tm, σ, rfl, h⟩ k hk
    exact (FA h.old.ext).1
  · rintro l st j hsub hnd ⟨tm, σ, rfl, h⟩ hj hfr
    have hmem : ∀ k, k ∈ l.erase j ↔ k ≠ j ∧ k ∈ l := fun k => by rw [hnd.mem_erase_iff]
    have hdep : ∀ k, depD _ j k = true → k ≠ j → k ∉ l := fun k hd hk hkl => by
      have := front_iff.1 hfr k ((hmem k).2 ⟨hk, hkl⟩)
      rw [hd] at this
      cases this
    have hj9 := hsub j hj
    simp only [List.mem_cons, List.not_mem_nil, or_false] at hj9
    rcases hj9 with rfl | rfl | rfl | rfl | rfl | rfl | rfl | rfl | rfl
    · refine ActStep.walk rfl rfl ?_
      refine OpsL.newC .of (aop_buildSlice (l := []) (r := (.slice (some ⟨σ.nx, 0, none⟩) 0 0, .new (.cells [] 1 none false (some 3)))) rfl (by exact rfl)) (by subst_vars; decide) ?_
      intro τ hE hx
      refine OpsL.nil ⟨trivial, _, τ, rfl, ⟨(h.old.keep hx (by simp)), (by simpa [tmPut] using h.t2), (by simpa [tmPut] using h.t7), (by simpa [tmPut] using h.t8), (by simpa [tmPut] using h.t34), (by simpa [tmPut] using h.t36), (by simpa [tmPut] using h.t39), (by simpa [tmPut] using h.t42), (by simpa [tmPut] using h.t45), (by simpa [tmPut] using h.t48), (by simpa [tmPut] using h.t51), (fun q => (hmem 20).2 ⟨by decide, h.d1 ((hmem 10).1 q).2⟩), (fun q => (hmem 20).2 ⟨by decide, h.d2 ((hmem 19).1 q).2⟩), (fun q => (hmem 22).2 ⟨by decide, h.d3 ((hmem 20).1 q).2⟩), (fun q q2 => h.d4 (fun q3 => q ((hmem 22).2 ⟨by decide, q3⟩)) ((hmem 21).1 q2).2), (fun q => (hmem 10).2 ⟨by decide, h.d5 ((hmem 7).1 q).2⟩), (fun q => (hmem 19).2 ⟨by decide, h.d6 ((hmem 16).1 q).2⟩), (fun _ _ => .inr ⟨σ.nx, by simp [tmPut], hE⟩), (fun hk hk2 => by have q := h.a7 (fun q => hk ((hmem 7).2 ⟨by decide, q⟩)) ((hmem 10).1 hk2).2; have q2 := q.keep hx (by simp); simpa [tmPut] using q2), (fun hk => by have q := h.a10 (fun q => hk ((hmem 10).2 ⟨by decide, q⟩)); have q2 := q.keep hx (by simp); simpa [tmPut] using q2), (fun hk hk2 => by have q := h.a13 (fun q => hk ((hmem 13).2 ⟨by decide, q⟩)) ((hmem 16).1 hk2).2; have q2 := q.keep hx (by simp); simpa [tmPut] using q2), (fun hk hk2 => by have q := h.a16 (fun q => hk ((hmem 16).2 ⟨by decide, q⟩)) ((hmem 19).1 hk2).2; have q2 := q.keep hx (by simp); simpa [tmPut] using q2), (fun hk => by have q := h.a19 (fun q => hk ((hmem 19).2 ⟨by decide, q⟩)); have q2 := q.keep hx (by simp); simpa [tmPut] using q2), (fun hk => by have q := h.a20 (fun q => hk ((hmem 20).2 ⟨by decide, q⟩)); simpa [tmPut] using q), (fun hk => by obtain ⟨B, q1, q2⟩ := h.a21 (fun q => hk ((hmem 21).2 ⟨by decide, q⟩)); have q3 := q2.keep hx (by simp); exact ⟨B, by simpa [tmPut] using q1, by simpa [tmPut, hmem] using q3⟩)⟩⟩
    · have q := h.a4 (hdep 4 (by kernel_rfl) (by decide)) hj
      have e1 := h.t39
      refine ActStep.walk rfl rfl ?_
      refine OpsL.appW (bytes := 8) (z := [.int .i64 0]) encN_f encN_len encN_one q (ints_rowsN (FA h.old.ext).2.of) (by omega) (by exact rfl) (by exact rfl) (by exact rfl) (by exact rfl) (by exact rfl) rfl (by simp only [List.length_nil]; omega) (by omega) (by rfl) (by (first | (simp only [ASt.ev, tmPut, ↓reduceIte, Nat.reduceEqDiff, *]; done))) (by subst_vars; decide) ?_
      intro v' τ hA hx
      rw [List.nil_append] at hA
      refine OpsL.nil ⟨trivial, _, τ, rfl, ⟨(h.old.keep hx (by simp)), (by simpa [tmPut] using h.t2), (by simpa [tmPut] using h.t7), (by simpa [tmPut] using h.t8), (by simpa [tmPut] using h.t34), (by simpa [tmPut] using h.t36), (by simpa [tmPut] using h.t39), (by simpa [tmPut] using h.t42), (by simpa [tmPut] using h.t45), (by simpa [tmPut] using h.t48), (by simpa [tmPut] using h.t51), (fun q => (hmem 20).2 ⟨by decide, h.d1 ((hmem 10).1 q).2⟩), (fun q => (hmem 20).2 ⟨by decide, h.d2 ((hmem 19).1 q).2⟩), (fun q => (hmem 22).2 ⟨by decide, h.d3 ((hmem 20).1 q).2⟩), (fun q q2 => h.d4 (fun q3 => q ((hmem 22).2 ⟨by decide, q3⟩)) ((hmem 21).1 q2).2), (fun q => (hmem 10).2 ⟨by decide, h.d5 ((hmem 7).1 q).2⟩), (fun q => (hmem 19).2 ⟨by decide, h.d6 ((hmem 16).1 q).2⟩), (fun _ hk => absurd rfl ((hmem 7).1 hk).1), (fun _ _ => by simpa [tmPut] using hA), (fun hk => absurd ((hmem 10).2 ⟨by decide, h.d5 hj⟩) hk), (fun hk hk2 => by have q := h.a13 (fun q => hk ((hmem 13).2 ⟨by decide, q⟩)) ((hmem 16).1 hk2).2; have q2 := q.keep hx (by simp); simpa [tmPut] using q2), (fun hk hk2 => by have q := h.a16 (fun q => hk ((hmem 16).2 ⟨by decide, q⟩)) ((hmem 19).1 hk2).2; have q2 := q.keep hx (by simp); simpa [tmPut] using q2), (fun hk => by have q := h.a19 (fun q => hk ((hmem 19).2 ⟨by decide, q⟩)); have q2 := q.keep hx (by simp); simpa [tmPut] using q2), (fun hk => by have q := h.a20 (fun q => hk ((hmem 20).2 ⟨by decide, q⟩)); simpa [tmPut] using q), (fun hk => by obtain ⟨B, q1, q2⟩ := h.a21 (fun q => hk ((hmem 21).2 ⟨by decide, q⟩)); have q3 := q2.keep hx (by simp); exact ⟨B, by simpa [tmPut] using q1, by simpa [tmPut, hmem] using q3⟩)⟩⟩
    · have q := h.a7 (hdep 7 (by kernel_rfl) (by decide)) hj
      have e1 := h.t42
      refine ActStep.walk rfl rfl ?_
      refine OpsL.appC (bytes := 8) (z := [.int .i64 0]) encN_len encN_one q (ints_rowsN (FA h.old.ext).2.of) (by exact rfl) (by exact rfl) (by exact rfl) (by exact rfl) (by exact rfl) rfl (by omega) (by omega) (by rfl) (by (first | (simp only [ASt.ev, tmPut, ↓reduceIte, Nat.reduceEqDiff, *]; done))) (by subst_vars; decide) ?_
      intro v' τ hA hx
      refine OpsL.nil ⟨trivial, _, τ, rfl, ⟨(h.old.keep hx (by simp)), (by simpa [tmPut] using h.t2), (by simpa [tmPut] using h.t7), (by simpa [tmPut] using h.t8), (by simpa [tmPut] using h.t34), (by simpa [tmPut] using h.t36), (by simpa [tmPut] using h.t39), (by simpa [tmPut] using h.t42), (by simpa [tmPut] using h.t45), (by simpa [tmPut] using h.t48), (by simpa [tmPut] using h.t51), (fun q => (hmem 20).2 ⟨by decide, h.d1 ((hmem 10).1 q).2⟩), (fun q => (hmem 20).2 ⟨by decide, h.d2 ((hmem 19).1 q).2⟩), (fun q => (hmem 22).2 ⟨by decide, h.d3 ((hmem 20).1 q).2⟩), (fun q q2 => h.d4 (fun q3 => q ((hmem 22).2 ⟨by decide, q3⟩)) ((hmem 21).1 q2).2), (fun q => absurd ((hmem 7).1 q).2 (hdep 7 (by kernel_rfl) (by decide))), (fun q => (hmem 19).2 ⟨by decide, h.d6 ((hmem 16).1 q).2⟩), (fun _ hk => absurd ((hmem 7).1 hk).2 (hdep 7 (by kernel_rfl) (by decide))), (fun _ hk => absurd rfl ((hmem 10).1 hk).1), (fun _ => by simpa [tmPut] using hA), (fun hk hk2 => by have q := h.a13 (fun q => hk ((hmem 13).2 ⟨by decide, q⟩)) ((hmem 16).1 hk2).2; have q2 := q.keep hx (by simp); simpa [tmPut] using q2), (fun hk hk2 => by have q := h.a16 (fun q => hk ((hmem 16).2 ⟨by decide, q⟩)) ((hmem 19).1 hk2).2; have q2 := q.keep hx (by simp); simpa [tmPut] using q2), (fun hk => by have q := h.a19 (fun q => hk ((hmem 19).2 ⟨by decide, q⟩)); have q2 := q.keep hx (by simp); simpa [tmPut] using q2), (fun hk => absurd ((hmem 20).2 ⟨by decide, h.d1 hj⟩) hk), (fun hk => by have m1 := h.d3 (h.d1 hj); obtain ⟨B, q1, q2⟩ := h.a21 (fun q => hk ((hmem 21).2 ⟨by decide, q⟩)); have q3 := q2.keep hx (by simp); exact ⟨B, by simpa [tmPut] using q1, by simpa [tmPut, hmem, m1] using q3⟩)⟩⟩
    · refine ActStep.walk rfl rfl ?_
      refine OpsL.newC .final (aop_buildSlice (l := []) (r := (.slice (some ⟨σ.nx, 0, none⟩) 0 0, .new (.cells [] 1 none false (some 4)))) rfl (by exact rfl)) (by subst_vars; decide) ?_
      intro τ hE hx
      refine OpsL.nil ⟨trivial, _, τ, rfl, ⟨(h.old.keep hx (by simp)), (by simpa [tmPut] using h.t2), (by simpa [tmPut] using h.t7), (by simpa [tmPut] using h.t8), (by simpa [tmPut] using h.t34), (by simpa [tmPut] using h.t36), (by simpa [tmPut] using h.t39), (by simpa [tmPut] using h.t42), (by simpa [tmPut] using h.t45), (by simpa [tmPut] using h.t48), (by simpa [tmPut] using h.t51), (fun q => (hmem 20).2 ⟨by decide, h.d1 ((hmem 10).1 q).2⟩), (fun q => (hmem 20).2 ⟨by decide, h.d2 ((hmem 19).1 q).2⟩), (fun q => (hmem 22).2 ⟨by decide, h.d3 ((hmem 20).1 q).2⟩), (fun q q2 => h.d4 (fun q3 => q ((hmem 22).2 ⟨by decide, q3⟩)) ((hmem 21).1 q2).2), (fun q => (hmem 10).2 ⟨by decide, h.d5 ((hmem 7).1 q).2⟩), (fun q => (hmem 19).2 ⟨by decide, h.d6 ((hmem 16).1 q).2⟩), (fun hk hk2 => by have q := h.a4 (fun q => hk ((hmem 4).2 ⟨by decide, q⟩)) ((hmem 7).1 hk2).2; have q2 := q.keep hx (by simp); simpa [tmPut] using q2), (fun hk hk2 => by have q := h.a7 (fun q => hk ((hmem 7).2 ⟨by decide, q⟩)) ((hmem 10).1 hk2).2; have q2 := q.keep hx (by simp); simpa [tmPut] using q2), (fun hk => by have q := h.a10 (fun q => hk ((hmem 10).2 ⟨by decide, q⟩)); have q2 := q.keep hx (by simp); simpa [tmPut] using q2), (fun _ _ => .inr ⟨σ.nx, by simp [tmPut], hE⟩), (fun hk hk2 => by have q := h.a16 (fun q => hk ((hmem 16).2 ⟨by decide, q⟩)) ((hmem 19).1 hk2).2; have q2 := q.keep hx (by simp); simpa [tmPut] using q2), (fun hk => by have q := h.a19 (fun q => hk ((hmem 19).2 ⟨by decide, q⟩)); have q2 := q.keep hx (by simp); simpa [tmPut] using q2), (fun hk => by have q := h.a20 (fun q => hk ((hmem 20).2 ⟨by decide, q⟩)); simpa [tmPut] using q), (fun hk => by obtain ⟨B, q1, q2⟩ := h.a21 (fun q => hk ((hmem 21).2 ⟨by decide, q⟩)); have q3 := q2.keep hx (by simp); exact ⟨B, by simpa [tmPut] using q1, by simpa [tmPut, hmem] using q3⟩)⟩⟩
    · have q := h.a13 (hdep 13 (by kernel_rfl) (by decide)) hj
      have e1 := h.t48
      refine ActStep.walk rfl rfl ?_
      refine OpsL.appW (bytes := 1) (z := [.bool false]) encBo_f encBo_len encBo_one q (bools_rowsN (FA h.old.ext).2.final) (by omega) (by exact rfl) (by exact rfl) (by exact rfl) (by exact rfl) (by exact rfl) rfl (by simp only [List.length_nil]; omega) (by omega) (by rfl) (by (first | (simp only [ASt.ev, tmPut, ↓reduceIte, Nat.reduceEqDiff, *]; done))) (by subst_vars; decide) ?_
      intro v' τ hA hx
      rw [List.nil_append] at hA
      refine OpsL.nil ⟨trivial, _, τ, rfl, ⟨(h.old.keep hx (by simp)), (by simpa [tmPut] using h.t2), (by simpa [tmPut] using h.t7), (by simpa [tmPut] using h.t8), (by simpa [tmPut] using h.t34), (by simpa [tmPut] using h.t36), (by simpa [tmPut] using h.t39), (by simpa [tmPut] using h.t42), (by simpa [tmPut] using h.t45), (by simpa [tmPut] using h.t48), (by simpa [tmPut] using h.t51), (fun q => (hmem 20).2 ⟨by decide, h.d1 ((hmem 10).1 q).2⟩), (fun q => (hmem 20).2 ⟨by decide, h.d2 ((hmem 19).1 q).2⟩), (fun q => (hmem 22).2 ⟨by decide, h.d3 ((hmem 20).1 q).2⟩), (fun q q2 => h.d4 (fun q3 => q ((hmem 22).2 ⟨by decide, q3⟩)) ((hmem 21).1 q2).2), (fun q => (hmem 10).2 ⟨by decide, h.d5 ((hmem 7).1 q).2⟩), (fun q => (hmem 19).2 ⟨by decide, h.d6 ((hmem 16).1 q).2⟩), (fun hk hk2 => by have q := h.a4 (fun q => hk ((hmem 4).2 ⟨by decide, q⟩)) ((hmem 7).1 hk2).2; have q2 := q.keep hx (by simp); simpa [tmPut] using q2), (fun hk hk2 => by have q := h.a7 (fun q => hk ((hmem 7).2 ⟨by decide, q⟩)) ((hmem 10).1 hk2).2; have q2 := q.keep hx (by simp); simpa [tmPut] using q2), (fun hk => by have q := h.a10 (fun q => hk ((hmem 10).2 ⟨by decide, q⟩)); have q2 := q.keep hx (by simp); simpa [tmPut] using q2), (fun _ hk => absurd rfl ((hmem 16).1 hk).1), (fun _ _ => by simpa [tmPut] using hA), (fun hk => absurd ((hmem 19).2 ⟨by decide, h.d6 hj⟩) hk), (fun hk => by have q := h.a20 (fun q => hk ((hmem 20).2 ⟨by decide, q⟩)); simpa [tmPut] using q), (fun hk => by obtain ⟨B, q1, q2⟩ := h.a21 (fun q => hk ((hmem 21).2 ⟨by decide, q⟩)); have q3 := q2.keep hx (by simp); exact ⟨B, by simpa [tmPut] using q1, by simpa [tmPut, hmem] using q3⟩)⟩⟩
    · have q := h.a16 (hdep 16 (by kernel_rfl) (by decide)) hj
      have e1 := h.t51
      refine ActStep.walk rfl rfl ?_
      refine OpsL.appC (bytes := 1) (z := [.bool false]) encBo_len encBo_one q (bools_rowsN (FA h.old.ext).2.final) (by exact rfl) (by exact rfl) (by exact rfl) (by exact rfl) (by exact rfl) rfl (by omega) (by omega) (by rfl) (by (first | (simp only [ASt.ev, tmPut, ↓reduceIte, Nat.reduceEqDiff, *]; done))) (by subst_vars; decide) ?_
      intro v' τ hA hx
      refine OpsL.nil ⟨trivial, _, τ, rfl, ⟨(h.old.keep hx (by simp)), (by simpa [tmPut] using h.t2), (by simpa [tmPut] using h.t7), (by simpa [tmPut] using h.t8), (by simpa [tmPut] using h.t34), (by simpa [tmPut] using h.t36), (by simpa [tmPut] using h.t39), (by simpa [tmPut] using h.t42), (by simpa [tmPut] using h.t45), (by simpa [tmPut] using h.t48), (by simpa [tmPut] using h.t51), (fun q => (hmem 20).2 ⟨by decide, h.d1 ((hmem 10).1 q).2⟩), (fun q => (hmem 20).2 ⟨by decide, h.d2 ((hmem 19).1 q).2⟩), (fun q => (hmem 22).2 ⟨by decide, h.d3 ((hmem 20).1 q).2⟩), (fun q q2 => h.d4 (fun q3 => q ((hmem 22).2 ⟨by decide, q3⟩)) ((hmem 21).1 q2).2), (fun q => (hmem 10).2 ⟨by decide, h.d5 ((hmem 7).1 q).2⟩), (fun q => absurd ((hmem 16).1 q).2 (hdep 16 (by kernel_rfl) (by decide))), (fun hk hk2 => by have q := h.a4 (fun q => hk ((hmem 4).2 ⟨by decide, q⟩)) ((hmem 7).1 hk2).2; have q2 := q.keep hx (by simp); simpa [tmPut] using q2), (fun hk hk2 => by have q := h.a7 (fun q => hk ((hmem 7).2 ⟨by decide, q⟩)) ((hmem 10).1 hk2).2; have q2 := q.keep hx (by simp); simpa [tmPut] using q2), (fun hk => by have q := h.a10 (fun q => hk ((hmem 10).2 ⟨by decide, q⟩)); have q2 := q.keep hx (by simp); simpa [tmPut] using q2), (fun _ hk => absurd ((hmem 16).1 hk).2 (hdep 16 (by kernel_rfl) (by decide))), (fun _ hk => absurd rfl ((hmem 19).1 hk).1), (fun _ => by simpa [tmPut] using hA), (fun hk => absurd ((hmem 20).2 ⟨by decide, h.d2 hj⟩) hk), (fun hk => by have m1 := h.d3 (h.d2 hj); obtain ⟨B, q1, q2⟩ := h.a21 (fun q => hk ((hmem 21).2 ⟨by decide, q⟩)); have q3 := q2.keep hx (by simp); exact ⟨B, by simpa [tmPut] using q1, by simpa [tmPut, hmem, m1] using q3⟩)⟩⟩
    · have e34 := h.t34
      have e36 := h.t36
      have e45 := h.t45
      have hx : Chg [] σ σ := Chg.refl
      obtain ⟨s1, w1⟩ : ∃ x : SV, tm 43 = slV x := by
        obtain ⟨a, k, e⟩ := OwnC.slice encN_len (h.a10 (hdep 10 (by kernel_rfl) (by decide)))
        exact ⟨(a, _, k), e⟩
      obtain ⟨s2, w2⟩ : ∃ x : SV, tm 52 = slV x := by
        obtain ⟨a, k, e⟩ := OwnC.slice encBo_len (h.a19 (hdep 19 (by kernel_rfl) (by decide)))
        exact ⟨(a, _, k), e⟩
      obtain ⟨ea, ek, w3⟩ := hE0
      refine ActStep.walk rfl rfl ?_
      refine OpsL.p (by subst_vars; decide) (aop_build (l := [(0, .int .i64 m.plains), (1, .int .i64 m.closings), (2, slV s1), (3, .slice ea m.entry.length ek), (4, slV s2)]) (v := .agg (moC m.plains m.closings ⟨slV s1, .slice ea m.entry.length ek, slV s2, .slice none 0 0, .slice none 0 0, .slice none 0 0⟩).toArray) (by simp [evParts, ASt.ev, e34, e36, e45, w1, w2, w3]) (by exact rfl)) ?_
      refine OpsL.nil ⟨trivial, _, σ, rfl, ⟨(h.old.keep hx (by simp)), (by simpa [tmPut] using h.t2), (by simpa [tmPut] using h.t7), (by simpa [tmPut] using h.t8), (by simpa [tmPut] using h.t34), (by simpa [tmPut] using h.t36), (by simpa [tmPut] using h.t39), (by simpa [tmPut] using h.t42), (by simpa [tmPut] using h.t45), (by simpa [tmPut] using h.t48), (by simpa [tmPut] using h.t51), (fun q => absurd ((hmem 10).1 q).2 (hdep 10 (by kernel_rfl) (by decide))), (fun q => absurd ((hmem 19).1 q).2 (hdep 19 (by kernel_rfl) (by decide))), (fun q => (hmem 22).2 ⟨by decide, h.d3 ((hmem 20).1 q).2⟩), (fun q q2 => h.d4 (fun q3 => q ((hmem 22).2 ⟨by decide, q3⟩)) ((hmem 21).1 q2).2), (fun q => (hmem 10).2 ⟨by decide, h.d5 ((hmem 7).1 q).2⟩), (fun q => (hmem 19).2 ⟨by decide, h.d6 ((hmem 16).1 q).2⟩), (fun hk hk2 => by have q := h.a4 (fun q => hk ((hmem 4).2 ⟨by decide, q⟩)) ((hmem 7).1 hk2).2; have q2 := q.keep hx (by simp); simpa [tmPut] using q2), (fun hk hk2 => by have q := h.a7 (fun q => hk ((hmem 7).2 ⟨by decide, q⟩)) ((hmem 10).1 hk2).2; have q2 := q.keep hx (by simp); simpa [tmPut] using q2), (fun hk => by have q := h.a10 (fun q => hk ((hmem 10).2 ⟨by decide, q⟩)); have q2 := q.keep hx (by simp); simpa [tmPut] using q2), (fun hk hk2 => by have q := h.a13 (fun q => hk ((hmem 13).2 ⟨by decide, q⟩)) ((hmem 16).1 hk2).2; have q2 := q.keep hx (by simp); simpa [tmPut] using q2), (fun hk hk2 => by have q := h.a16 (fun q => hk ((hmem 16).2 ⟨by decide, q⟩)) ((hmem 19).1 hk2).2; have q2 := q.keep hx (by simp); simpa [tmPut] using q2), (fun hk => by have q := h.a19 (fun q => hk ((hmem 19).2 ⟨by decide, q⟩)); have q2 := q.keep hx (by simp); simpa [tmPut] using q2), (fun _ => by simp [tmPut, w1, w2, w3]), (fun hk => by have m1 := h.d3 hj; obtain ⟨B, q1, q2⟩ := h.a21 (fun q => hk ((hmem 21).2 ⟨by decide, q⟩)); have q3 := q2.keep hx (by simp); exact ⟨B, by simpa [tmPut] using q1, by simpa [tmPut, hmem, m1] using q3⟩)⟩⟩
    · refine ActStep.walk rfl rfl ?_
      refine OpsL.newC .self (aop_alloc (l := moV noMo nilV) (by exact rfl)) (by subst_vars; decide) ?_
      intro τ hE hx
      have m1 : 22 ∈ l := by
        by_cases q : 22 ∈ l
        · exact q
        · exact absurd hj (h.d4 q)
      refine OpsL.nil ⟨trivial, _, τ, rfl, ⟨(h.old.keep hx (by simp)), (by simpa [tmPut] using h.t2), (by simpa [tmPut] using h.t7), (by simpa [tmPut] using h.t8), (by simpa [tmPut] using h.t34), (by simpa [tmPut] using h.t36), (by simpa [tmPut] using h.t39), (by simpa [tmPut] using h.t42), (by simpa [tmPut] using h.t45), (by simpa [tmPut] using h.t48), (by simpa [tmPut] using h.t51), (fun q => (hmem 20).2 ⟨by decide, h.d1 ((hmem 10).1 q).2⟩), (fun q => (hmem 20).2 ⟨by decide, h.d2 ((hmem 19).1 q).2⟩), (fun q => (hmem 22).2 ⟨by decide, h.d3 ((hmem 20).1 q).2⟩), (fun q q2 => h.d4 (fun q3 => q ((hmem 22).2 ⟨by decide, q3⟩)) ((hmem 21).1 q2).2), (fun q => (hmem 10).2 ⟨by decide, h.d5 ((hmem 7).1 q).2⟩), (fun q => (hmem 19).2 ⟨by decide, h.d6 ((hmem 16).1 q).2⟩), (fun hk hk2 => by have q := h.a4 (fun q => hk ((hmem 4).2 ⟨by decide, q⟩)) ((hmem 7).1 hk2).2; have q2 := q.keep hx (by simp); simpa [tmPut] using q2), (fun hk hk2 => by have q := h.a7 (fun q => hk ((hmem 7).2 ⟨by decide, q⟩)) ((hmem 10).1 hk2).2; have q2 := q.keep hx (by simp); simpa [tmPut] using q2), (fun hk => by have q := h.a10 (fun q => hk ((hmem 10).2 ⟨by decide, q⟩)); have q2 := q.keep hx (by simp); simpa [tmPut] using q2), (fun hk hk2 => by have q := h.a13 (fun q => hk ((hmem 13).2 ⟨by decide, q⟩)) ((hmem 16).1 hk2).2; have q2 := q.keep hx (by simp); simpa [tmPut] using q2), (fun hk hk2 => by have q := h.a16 (fun q => hk ((hmem 16).2 ⟨by decide, q⟩)) ((hmem 19).1 hk2).2; have q2 := q.keep hx (by simp); simpa [tmPut] using q2), (fun hk => by have q := h.a19 (fun q => hk ((hmem 19).2 ⟨by decide, q⟩)); have q2 := q.keep hx (by simp); simpa [tmPut] using q2), (fun hk => by have q := h.a20 (fun q => hk ((hmem 20).2 ⟨by decide, q⟩)); simpa [tmPut] using q), (fun _ => ⟨σ.nx, by simp [tmPut], by simpa [hmem, m1] using hE⟩)⟩⟩
    · obtain ⟨B, q1, q2⟩ := h.a21 (hdep 21 (by kernel_rfl) (by decide))
      have q3 := h.a20 (hdep 20 (by kernel_rfl) (by decide))
      rw [if_pos hj] at q2
      have w1 : ∃ x : SV, tm 43 = slV x := by
        obtain ⟨a, k, e⟩ := OwnC.slice encN_len (h.a10 (fun q => (hdep 20 (by kernel_rfl) (by decide)) (h.d1 q)))
        exact ⟨(a, _, k), e⟩
      have w2 : ∃ x : SV, tm 52 = slV x := by
        obtain ⟨a, k, e⟩ := OwnC.slice encBo_len (h.a19 (fun q => (hdep 20 (by kernel_rfl) (by decide)) (h.d2 q)))
        exact ⟨(a, _, k), e⟩
      have w3 : ∃ a k, VM.e = .slice a m.entry.length k := hE0
      obtain ⟨s1, w1⟩ := w1
      obtain ⟨s2, w2⟩ := w2
      refine ActStep.walk rfl rfl ?_
      refine OpsL.setAllC (vs := moC m.plains m.closings ⟨tm 43, VM.e, tm 52, .slice none 0 0, .slice none 0 0, .slice none 0 0⟩) q2 (by exact rfl) rfl rfl (by obtain ⟨a, k, w3⟩ := w3; rw [w1, w2, w3]; rfl) (by (first | (simp only [ASt.ev, tmPut, ↓reduceIte, Nat.reduceEqDiff, *]; done))) (by (first | (simp only [ASt.ev, tmPut, ↓reduceIte, Nat.reduceEqDiff, *]; done))) ?_
      intro τ hE hx
      refine OpsL.nil ⟨trivial, _, τ, rfl, ⟨(h.old.keep hx (by simp)), (by simpa [tmPut] using h.t2), (by simpa [tmPut] using h.t7), (by simpa [tmPut] using h.t8), (by simpa [tmPut] using h.t34), (by simpa [tmPut] using h.t36), (by simpa [tmPut] using h.t39), (by simpa [tmPut] using h.t42), (by simpa [tmPut] using h.t45), (by simpa [tmPut] using h.t48), (by simpa [tmPut] using h.t51), (fun q => (hmem 20).2 ⟨by decide, h.d1 ((hmem 10).1 q).2⟩), (fun q => (hmem 20).2 ⟨by decide, h.d2 ((hmem 19).1 q).2⟩), (fun q => absurd ((hmem 20).1 q).2 (hdep 20 (by kernel_rfl) (by decide))), (fun _ q => absurd ((hmem 21).1 q).2 (hdep 21 (by kernel_rfl) (by decide))), (fun q => (hmem 10).2 ⟨by decide, h.d5 ((hmem 7).1 q).2⟩), (fun q => (hmem 19).2 ⟨by decide, h.d6 ((hmem 16).1 q).2⟩), (fun hk hk2 => by have q := h.a4 (fun q => hk ((hmem 4).2 ⟨by decide, q⟩)) ((hmem 7).1 hk2).2; have q2 := q.keep hx (by simp); simpa [tmPut] using q2), (fun hk hk2 => by have q := h.a7 (fun q => hk ((hmem 7).2 ⟨by decide, q⟩)) ((hmem 10).1 hk2).2; have q2 := q.keep hx (by simp); simpa [tmPut] using q2), (fun hk => by have q := h.a10 (fun q => hk ((hmem 10).2 ⟨by decide, q⟩)); have q2 := q.keep hx (by simp); simpa [tmPut] using q2), (fun hk hk2 => by have q := h.a13 (fun q => hk ((hmem 13).2 ⟨by decide, q⟩)) ((hmem 16).1 hk2).2; have q2 := q.keep hx (by simp); simpa [tmPut] using q2), (fun hk hk2 => by have q := h.a16 (fun q => hk ((hmem 16).2 ⟨by decide, q⟩)) ((hmem 19).1 hk2).2; have q2 := q.keep hx (by simp); simpa [tmPut] using q2), (fun hk => by have q := h.a19 (fun q => hk ((hmem 19).2 ⟨by decide, q⟩)); have q2 := q.keep hx (by simp); simpa [tmPut] using q2), (fun hk => by have q := h.a20 (fun q => hk ((hmem 20).2 ⟨by decide, q⟩)); simpa [tmPut] using q), (fun _ => ⟨B, by simpa [tmPut] using q1, by simpa [hmem] using hE⟩)⟩⟩
  · rintro st ⟨tm, σ, rfl, h⟩
    obtain ⟨B, q1, q2⟩ := h.a21 (by simp)
    rw [if_neg (by simp)] at q2
    exact hQ tm σ B ⟨tm 43, VM.e, tm 52, .slice none 0 0, .slice none 0 0, .slice none 0 0⟩ h.t2 h.t7 h.t8 q1 rfl ⟨h.old, q2, h.a10 (by simp), h.a19 (by simp), OwnLC.nil, OwnLC.nil, OwnLC.nil⟩
  · exact ⟨_, ⟨nx, fun _ => .old, H⟩, rfl, ⟨OldC.refl, by simp [tmPut, *], by simp [tmPut, *], by simp [tmPut, *], by simp [tmPut, *], by simp [tmPut, *], by simp [tmPut, *], by simp [tmPut, *], by simp [tmPut, *], by simp [tmPut, *], by simp [tmPut, *], by simp, by simp, by simp, by simp, by simp, by simp, fun q => absurd q (by simp), fun q => absurd q (by simp), fun q => absurd q (by simp), fun q => absurd q (by simp), fun q => absurd q (by simp), fun q => absurd q (by simp), fun q => absurd q (by simp), fun q => absurd q (by simp)⟩⟩
end Go.Proofs.Ytjgbcpagfghfnaa
