import Derived.Test.YtjohiaoepbnicaaGreatQRM14
namespace Go.Am
set_option linter.unusedSimpArgs false
set_option linter.unusedVariables false
open Go.RowKit
theorem told0 {P : Program} {W0 : World} {f : FuncId} {r : Bool} {R : Nat → Heap → Prop}
  (h : ∀ w, ACalls P w f [] NG (tabTree []).get fun v nx' H' => v = .bool r ∧ R nx' H') (nx : Nat) (H : Heap) : ACalls P W0 f [] nx H fun v nx' H' => v = .bool r ∧ nx' = nx ∧ H' = H := by
 intro C w args' hR hargs
 have hargs' : args' = [] := by
  have := hargs.1
  simpa using this.symm
 subst hargs'
 refine (h w (Corr.tab w) w [] (Rel.tabs Tabs.nil (BelD.refl _ _)) ⟨rfl, fun i p _ => by simp at p⟩).mono ?_
 rintro e w' ⟨v, v', C', nx', H', rfl, ⟨rfl, _⟩, hR', hv, hS⟩
 have hv' : v' = .bool r := by cases hv; rfl
 subst hv'
 exact ⟨_, _, C, nx, H, rfl, ⟨rfl, rfl, rfl⟩, hR.world (hR.below.trans (hR'.below.mono hR.below.size)) (fun k hk => hR'.below.block k hk), .bool r, Stp.refl _ _ _⟩
end Go.Am
namespace Go.Proofs.YtjohiaoepbnicaaGreat
set_option linter.unusedSimpArgs false
set_option linter.unusedVariables false
open Go.RowKit Go.Am
attribute [local irreducible] aop OpsL Trip blockExit OpsD OpsK OpsR
def A0 : Aut := ⟨2, 1, [0], [1], [(0, 0, 0, 1)], [(0, 1, 1, 1)], []⟩
def E0 : Aut := ⟨0, 0, [], [], [], [], []⟩
def B0 : Aut := ⟨1, 0, [], [1], [], [], []⟩
theorem reachA0 (t : Thg) : ReachT A0 t ↔ t ∈ [((1, 0) : Thg), (0, 0), (1, 1), (0, 1)] := by
 have h00 : ReachT A0 (0, 0) := .init (by simp [A0])
 have m1 : ((0, 0, 0, 1) : R4) ∈ movesA A0 := by simp [movesA, A0, moveO, moveC]
 have m2 : ((0, 1, 1, 0) : R4) ∈ movesA A0 := by simp [movesA, A0, moveO, moveC]
 have h11 : ReachT A0 (1, 1) := .step m1 (fun u hu => by
  simp only [needsT, List.mem_cons, List.not_mem_nil, or_false] at hu
  rcases hu with rfl | rfl
  ·exact h00
  ·exact .bot) (by simp [givesT])
 have h01 : ReachT A0 (0, 1) := .step m2 (fun u hu => by
  simp only [needsT, List.mem_cons, List.not_mem_nil, or_false] at hu
  rcases hu with rfl | rfl
  ·exact h00
  ·exact h11) (by simp [givesT])
 constructor
 ·intro h
  cases h with
  | bot => simp
  | init hs => simp only [A0, List.mem_singleton] at hs; subst hs; simp
  | step hm _ hg =>
   simp only [movesA, A0, List.map_cons, List.map_nil, List.append_nil, List.cons_append, List.nil_append, List.mem_cons, List.not_mem_nil, or_false, moveO, moveC] at hm
   rcases hm with rfl | rfl
   ·simp only [givesT, List.mem_cons, List.not_mem_nil, or_false] at hg
    rcases hg with rfl | rfl
    ·simp
    ·simp
   ·simp only [givesT, List.mem_cons, List.not_mem_nil, or_false] at hg
    rcases hg with rfl | rfl
    ·simp
    ·simp
 ·intro h
  simp only [List.mem_cons, List.not_mem_nil, or_false] at h
  rcases h with rfl | rfl | rfl | rfl
  ·exact .bot
  ·exact h00
  ·exact h11
  ·exact h01
theorem numsA0 {L : List Int} {k : Int} (hk : k = 0 ∨ k = 1) (h : NumsOf A0 k L) : L = [0, 1] := by
 refine strictL_ext ord1 _ _ h.1 (by simp [StrictL, lt1]) fun x => ?_
 rw [h.2 x, reachA0]
 rcases hk with rfl | rfl
 ·simp
 ·simp
theorem numsE0 {L : List Int} (h : NumsOf E0 0 L) : L = [] := by
 refine List.eq_nil_iff_forall_not_mem.2 fun x hx => ?_
 have := (h.2 x).1 hx
 cases this with
 | init hs => cases hs
 | step hm _ _ => simp [movesA, E0] at hm
theorem entersKnown : Am.Enters Tryz.prog 7 := ⟨Tryz.f7, Tryz.func7, by kernel_rfl, by kernel_rfl⟩
theorem one_at {α : Type} {enc : α → List Value} {sz : Nat} {H : Heap} {b e : Nat} {q : Option TypeId} {x : α} (hk : (enc x).length = sz) (h : H b = some (.cells (enc x) e none false q)) : RowsAt enc sz H (.slice (some ⟨b, 0, none⟩) 1 1) [x] := by
 refine .inr ⟨⟨b, 0, none⟩, 1, rfl, fun j hj => ?_⟩
 have : j = 0 := by simpa using hj
 subst this
 unfold getc
 simp only [h]
 rw [if_pos ⟨trivial, by omega⟩, Nat.zero_mul, Nat.zero_add, List.drop_zero, List.take_of_length_le (by omega)]
 rfl
theorem nil_at {α : Type} {enc : α → List Value} {sz : Nat} {H : Heap} : RowsAt enc sz H (.slice none 0 0) ([] : List α) := .inl ⟨0, rfl, rfl⟩
def VA (b : Nat) : List Value := autV A0 (.slice (some ⟨b, 0, none⟩) 1 1) (.slice (some ⟨b + 1, 0, none⟩) 1 1) (.slice (some ⟨b + 2, 0, none⟩) 1 1) (.slice (some ⟨b + 3, 0, none⟩) 1 1) (.slice none 0 0)
def VE : List Value := autV E0 (.slice none 0 0) (.slice none 0 0) (.slice none 0 0) (.slice none 0 0) (.slice none 0 0)
set_option maxRecDepth 20000 in
set_option maxHeartbeats 16000000 in
theorem knownC (W0 : World) : ACalls Tryz.prog W0 7 [] NG (tabTree []).get fun v _ _ => v = .bool true ∧ True := by
 generalize (tabTree []).get = H at *
 generalize NG = nx at *
 refine ACalls.by_trip (fn := Tryz.f7) (c := _) Tryz.func7 rfl (fun tm n hn0 htm => ?_)
 clear htm
 replace hn0 : n = 61 := hn0
 refine Trip.ok fun hok => ?_
 replace hok : ∀ id o, H id = some o → id < nx := hok
 repeat (first | refine OpsL.q (by exact oasg) ?_ | refine Trip.seq ?_ | refine Trip.ops ?_ | (refine OpsL.nil ?_; (change Trip _ _ _ _ _)))
 refine OpsL.c2 (hf := entersSyms) (hc := (symsC W0 (ns := []) (.inl ⟨0, rfl, rfl⟩)).ok) (h := ?_)
 rintro lv b H1 ⟨⟨hl, x1⟩, k1⟩
 have hss : symsF 0 [] = [(⟨#[97]⟩, 1), (⟨#[97]⟩, 2), (⟨#[98]⟩, 3)] := by kernel_rfl
 rw [hss] at hl
 have hs3 : ([(⟨#[97]⟩, 1), (⟨#[97]⟩, 2), (⟨#[98]⟩, 3)] : List (ByteArray × Int)).length ≤ 1000 := by decide
 clear hss
 repeat (first | refine OpsL.q (by exact oasg) ?_ | refine Trip.seq ?_ | refine Trip.ops ?_ | (refine OpsL.nil ?_; (change Trip _ _ _ _ _)))
 refine OpsL.new (by subst_vars; decide) (aop_buildSlice (l := [(0, .int .i64 0)]) (r := (.slice (some ⟨b, 0, none⟩) 1 1, .new (.cells (encN 0) 1 none false (some 3)))) (by simp only [evParts, ASt.ev, tmPut, ↓reduceIte, reduceIte, Option.some.injEq, Nat.reduceEqDiff, plainC, plain1, *]) (by kernel_rfl)) ?_
 refine OpsL.new (by subst_vars; decide) (aop_buildSlice (l := [(0, .int .i64 1)]) (r := (.slice (some ⟨b + 1, 0, none⟩) 1 1, .new (.cells (encN 1) 1 none false (some 3)))) (by simp only [evParts, ASt.ev, tmPut, ↓reduceIte, reduceIte, Option.some.injEq, Nat.reduceEqDiff, plainC, plain1, *]) (by kernel_rfl)) ?_
 refine OpsL.q (aop_build (v := .agg (Go.Am.e4 (0, 0, 0, 1)).toArray) (l := [(0, .int .i64 0), (1, .int .i64 0), (2, .int .i64 0), (3, .int .i64 1)]) (by simp only [evParts, ASt.ev, tmPut, ↓reduceIte, reduceIte, Option.some.injEq, Nat.reduceEqDiff, plainC, plain1, *]) (by kernel_rfl)) ?_
 refine OpsL.new (by subst_vars; decide) (aop_buildSlice (l := [(0, .agg (Go.Am.e4 (0, 0, 0, 1)).toArray)]) (r := (.slice (some ⟨b + 1 + 1, 0, none⟩) 1 1, .new (.cells (Go.Am.e4 (0, 0, 0, 1)) 4 none false (some 44)))) (by simp only [evParts, ASt.ev, tmPut, ↓reduceIte, reduceIte, Option.some.injEq, Nat.reduceEqDiff, plainC, plain1, *]) (by kernel_rfl)) ?_
 refine OpsL.q (aop_build (v := .agg (Go.Am.e4 (0, 1, 1, 1)).toArray) (l := [(0, .int .i64 0), (1, .int .i64 1), (2, .int .i64 1), (3, .int .i64 1)]) (by simp only [evParts, ASt.ev, tmPut, ↓reduceIte, reduceIte, Option.some.injEq, Nat.reduceEqDiff, plainC, plain1, *]) (by kernel_rfl)) ?_
 refine OpsL.new (by subst_vars; decide) (aop_buildSlice (l := [(0, .agg (Go.Am.e4 (0, 1, 1, 1)).toArray)]) (r := (.slice (some ⟨b + 1 + 1 + 1, 0, none⟩) 1 1, .new (.cells (Go.Am.e4 (0, 1, 1, 1)) 4 none false (some 46)))) (by simp only [evParts, ASt.ev, tmPut, ↓reduceIte, reduceIte, Option.some.injEq, Nat.reduceEqDiff, plainC, plain1, *]) (by kernel_rfl)) ?_
 refine OpsL.q (aop_build (v := .agg (VA b).toArray) (l := [(0, .int .i64 2), (1, .int .i64 1), (2, .slice (some ⟨b, 0, none⟩) 1 1), (3, .slice (some ⟨b + 1, 0, none⟩) 1 1), (4, .slice (some ⟨b + 1 + 1, 0, none⟩) 1 1), (5, .slice (some ⟨b + 1 + 1 + 1, 0, none⟩) 1 1)]) (by simp only [evParts, ASt.ev, tmPut, ↓reduceIte, reduceIte, Option.some.injEq, Nat.reduceEqDiff, plainC, plain1, *]) (by kernel_rfl)) ?_
 refine OpsL.new (by subst_vars; decide) (aop_alloc (l := zeroA) (by kernel_rfl)) ?_
 refine OpsL.upd (aop_store (k := 7) (u := .agg (VA b).toArray) (by simp only [ASt.ev, tmPut, ↓reduceIte, Nat.reduceEqDiff, *]; done) (by simp only [ASt.ev, tmPut, ↓reduceIte, Nat.reduceEqDiff, *]; done) (by exact rfl) rfl (o := .cells (VA b) 0 none false (some 30)) (setc_allN (vs := VA b) Heap.put_eq rfl rfl)) ?_
 obtain ⟨G, hG⟩ : ∃ Q, Q = (((((H1.put b (.cells (encN 0) 1 none false (some 3))).put (b + 1) (.cells (encN 1) 1 none false (some 3))).put (b + 1 + 1) (.cells (Go.Am.e4 (0, 0, 0, 1)) 4 none false (some 44))).put (b + 1 + 1 + 1) (.cells (Go.Am.e4 (0, 1, 1, 1)) 4 none false (some 46))).put (b + 1 + 1 + 1 + 1) (.cells zeroA 0 none false (some 30))).put (b + 1 + 1 + 1 + 1) (.cells (VA b) 0 none false (some 30)) := ⟨_, rfl⟩
 obtain ⟨m, hm⟩ : ∃ q, b + 1 + 1 + 1 + 1 + 1 = q := ⟨_, rfl⟩
 have kG : ∀ id o, G id = some o → id < m := by rw [hG, ← hm]; exact ok_put3 (ok_new (ok_new (ok_new (ok_new (ok_new k1))))) Heap.put_eq
 have gA : G (b + 1 + 1 + 1 + 1) = some (.cells (VA b) 0 none false (some 30)) := by rw [hG, Heap.put_eq]
 have hx : Ext b H1 m G := ⟨by omega, fun j hj => by rw [hG, Heap.put_ne (by omega), Heap.put_ne (by omega), Heap.put_ne (by omega), Heap.put_ne (by omega), Heap.put_ne (by omega), Heap.put_ne (by omega)]⟩
 have hA : AutIn G A0 (.slice (some ⟨b, 0, none⟩) 1 1) (.slice (some ⟨b + 1, 0, none⟩) 1 1) (.slice (some ⟨b + 2, 0, none⟩) 1 1) (.slice (some ⟨b + 3, 0, none⟩) 1 1) (.slice none 0 0) :=
  ⟨rows_intsN (one_at rfl (by rw [hG, Heap.put_ne (by omega), Heap.put_ne (by omega), Heap.put_ne (by omega), Heap.put_ne (by omega), Heap.put_ne (by omega), Heap.put_eq])), rows_intsN (one_at rfl (by rw [hG, Heap.put_ne (by omega), Heap.put_ne (by omega), Heap.put_ne (by omega), Heap.put_ne (by omega), Heap.put_eq])), one_at rfl (by rw [hG, Heap.put_ne (by omega), Heap.put_ne (by omega), Heap.put_ne (by omega), Heap.put_eq]), one_at rfl (by rw [hG, Heap.put_ne (by omega), Heap.put_ne (by omega), Heap.put_eq]), nil_at⟩
 rw [← hG]
 first | dsimp only | skip
 rw [hm]
 obtain ⟨p, hp⟩ : ∃ q, b + 1 + 1 + 1 + 1 = q := ⟨_, rfl⟩
 rw [hp] at gA ⊢
 have hpm : p < m := by omega
 have hl1 := hl.ext hx k1
 have nA : AutLen A0 := ⟨by decide, by decide, by decide, by decide, by decide⟩
 have nE : AutLen E0 := ⟨by decide, by decide, by decide, by decide, by decide⟩
 have nB : AutLen B0 := ⟨by decide, by decide, by decide, by decide, by decide⟩
 have fA : FindOk A0 := .inl ⟨by decide, by decide⟩
 have fE : FindOk E0 := .inr ⟨fun s h => (by cases h), fun m h => (by simp [movesA, E0] at h)⟩
 clear hG hm hp hl hx x1 k1
 repeat (first | refine OpsL.q (by exact omv) ?_ | refine Trip.seq ?_ | refine Trip.ops ?_ | (refine OpsL.nil ?_; (change Trip _ _ _ _ _)))
 refine OpsL.q (aop_loadAgg (k := 7) (vs := VA b) (by simp only [ASt.ev, tmPut, ↓reduceIte, Nat.reduceEqDiff, *]; done) (by exact rfl) rfl (by exact rfl) (getc_all gA rfl)) ?_
 refine OpsL.c2 (hf := entersTrim) (hc := (trimCall W0 hA nA fA).ok) (h := ?_)
 rintro u m2 H2 ⟨⟨L0, L1, l2, wi, wf, wo, wc, wn, h20, h21, rfl, hT, x2⟩, k2⟩
 have eL0 := numsA0 (.inl rfl) h20
 have eL1 := numsA0 (.inr rfl) h21
 subst eL0; subst eL1
 have hTI := hT.in
 have hone := one_in hTI
 clear hT h20 h21
 have hTN : (normA (trimB A0 [0, 1] [0, 1])).N = 2 := by kernel_rfl
 have hTO : (normA (trimB A0 [0, 1] [0, 1])).opens.length = 1 := by kernel_rfl
 generalize normA (trimB A0 [0, 1] [0, 1]) = T at *
 have g2 := (x2.2 p hpm).trans gA
 refine OpsL.new (by subst_vars; decide) (aop_alloc (l := zeroA) (by kernel_rfl)) ?_
 refine OpsL.upd (aop_store (k := 7) (u := .agg (autV T wi wf wo wc wn).toArray) (by simp only [ASt.ev, tmPut, ↓reduceIte, Nat.reduceEqDiff, *]; done) (by simp only [ASt.ev, tmPut, ↓reduceIte, Nat.reduceEqDiff, *]; done) (by exact rfl) rfl (o := .cells (autV T wi wf wo wc wn) 0 none false (some 30)) (setc_allN (vs := autV T wi wf wo wc wn) Heap.put_eq rfl hone)) ?_
 obtain ⟨G3, hG3⟩ : ∃ G0, G0 = (H2.put m2 (.cells zeroA 0 none false (some 30))).put m2 (.cells (autV T wi wf wo wc wn) 0 none false (some 30)) := ⟨_, rfl⟩
 have x3 : Ext m2 H2 (m2 + 1) G3 := ⟨Nat.le_succ _, fun j hj => by rw [hG3, Heap.put_ne (by omega), Heap.put_ne (by omega)]⟩
 have k3 : ∀ id o, G3 id = some o → id < m2 + 1 := by rw [hG3]; exact ok_put3 (ok_new k2) Heap.put_eq
 have b3 : G3 m2 = some (.cells (autV T wi wf wo wc wn) 0 none false (some 30)) := by rw [hG3, Heap.put_eq]
 rw [← hG3]
 clear hG3 hone
 have hle2 := x2.1
 have x13 := x2.trans x3
 have g3 := (x3.2 p (by omega)).trans g2
 have hA3 := hA.ext x13 kG
 have hT3 := hTI.ext x3 k2
 have hl3 := hl1.ext x13 kG
 clear g2 gA hA hTI hl1 x2 x3 x13 k2 kG
 obtain ⟨ao, co, hwo⟩ := hT3.opens.slice
 subst hwo
 obtain ⟨m3, hm3⟩ : ∃ q, m2 + 1 = q := ⟨_, rfl⟩
 rw [hm3] at k3 ⊢
 have hm23 : m2 < m3 := by omega
 have hpm3 : p < m3 := by omega
 clear hm3
 repeat (first | refine Trip.seq ?_ | (refine OpsL.nil ?_; (change Trip _ _ _ _ _)))
 refine OpsR.drawn [2, 8, 14, 19, 35, 37, 41, 43] (K := fun nx1 HH => Ext m3 G3 nx1 HH) (by kernel_rfl) (by kernel_rfl) (by kernel_rfl) [0, 1, 2, 3, 4, 5, 6, 7, 8, 9, 10, 11, 12, 13, 14, 15, 16, 17, 18, 19, 20, 21, 22, 23, 24, 25, 26, 27, 28, 29, 30, 31, 32, 33, 34, 36, 35, 37, 38, 39, 40, 41, 42, 43, 44, 45, 46] (by kernel_rfl) Ext.refl ?_
 refine OpsR.one rfl rfl rfl (by kernel_rfl) ?_
 repeat (first | refine OpsL.q (by exact omv) ?_ | (refine OpsL.nil ?_; (dsimp only)))
 refine OpsR.one rfl rfl rfl (by kernel_rfl) ?_
 refine OpsL.q (aop_build (v := .agg VE.toArray) (l := []) (by simp only [evParts]) (by kernel_rfl)) ?_
 refine OpsL.nil ?_
 refine OpsR.act (by kernel_rfl) (ActStep.walk rfl rfl ?_)
 refine OpsL.c2 (hf := entersTrim) (hc := (trimCall W0 (a := E0) ⟨rows_intsN nil_at, rows_intsN nil_at, nil_at, nil_at, nil_at⟩ nE fE).ok) (h := ?_)
 rintro u m4 H4 ⟨⟨M0, M1, l4, zi, zf, zo, zc, zn, h40, h41, rfl, -, x4⟩, k4⟩
 have eM0 := numsE0 h40
 subst eM0
 have hEN : (normA (trimB E0 [] M1)).N = 0 := rfl
 refine OpsL.nil ⟨x4, ?_⟩
 refine OpsR.one rfl rfl rfl (by kernel_rfl) ?_
 refine OpsL.q (v := .int .i64 0) (aop_field (cs := autV (normA (trimB E0 [] M1)) zi zf zo zc zn) (by simp only [ASt.ev, tmPut, ↓reduceIte, Nat.reduceEqDiff, *]; done) (by exact rfl) (by exact rfl) (by exact rfl) rfl (by exact rfl)) ?_
 refine OpsL.nil ?_
 refine OpsR.sp (v := .bool true) rfl (by kernel_rfl) (by subst_vars; decide) x4 (fun HH nn hK => aop_eqlT (by simp only [ASt.ev, tmPut, ↓reduceIte, Nat.reduceEqDiff, *]; rfl) (by simp only [ASt.ev, tmPut, ↓reduceIte, Nat.reduceEqDiff, *]; rfl) rfl) ?_
 refine OpsR.one rfl rfl rfl (by kernel_rfl) ?_
 repeat (first | refine OpsL.q (by exact omv) ?_ | (refine OpsL.nil ?_; (skip)))
 refine OpsR.one rfl rfl rfl (by kernel_rfl) ?_
 repeat (first | refine OpsL.q (by exact omv) ?_ | (refine OpsL.nil ?_; (skip)) | refine OpsL.ung ?_)
 refine OpsR.spg (v := .agg (VA b).toArray) rfl (by kernel_rfl) (by subst_vars; decide) (by exact rfl) (by simp only [ASt.ev, tmPut, ↓reduceIte, Nat.reduceEqDiff, *]; done) x4 (fun HH nn hK => aop_loadAgg (k := 7) (vs := VA b) (by simp only [ASt.ev, tmPut, ↓reduceIte, Nat.reduceEqDiff, *]; done) (by exact rfl) rfl (by exact rfl) (getc_all ((hK.2 p hpm3).trans g3) rfl)) ?_
 refine OpsR.act (by kernel_rfl) (ActStep.walk rfl rfl ?_)
 refine OpsL.ung ?_
 refine OpsL.c2 (hf := entersCheck) (hc := (checkC W0 (hl3.ext x4 k3) hs3 (hA3.ext x4 k3) nA).ok) (h := ?_)
 rintro v5 m5 H5 ⟨⟨rfl, x5⟩, k5⟩
 have e5 := x4.trans x5
 refine OpsL.nil ⟨e5, ?_⟩
 have hc5 : checkF [(⟨#[97]⟩, 1), (⟨#[97]⟩, 2), (⟨#[98]⟩, 3)] A0 = true := by kernel_rfl
 rw [hc5]
 first | dsimp only | skip
 refine OpsR.spg (v := .bool true) rfl (by kernel_rfl) (by subst_vars; decide) (by exact rfl) (by simp only [ASt.ev, tmPut, ↓reduceIte, Nat.reduceEqDiff, *]; done) e5 (fun HH nn hK => aop_eqlT (by simp only [ASt.ev, tmPut, ↓reduceIte, Nat.reduceEqDiff, *]; rfl) (by simp only [ASt.ev, tmPut, ↓reduceIte, Nat.reduceEqDiff, *]; rfl) rfl) ?_
 refine OpsR.one rfl rfl rfl (by kernel_rfl) ?_
 repeat (first | refine OpsL.q (by exact opkT) ?_ | (refine OpsL.nil ?_; (skip)))
 refine OpsR.one rfl rfl rfl (by kernel_rfl) ?_
 repeat (first | refine OpsL.q (by exact omv) ?_ | (refine OpsL.nil ?_; (skip)))
 refine OpsR.one rfl rfl rfl (by kernel_rfl) ?_
 repeat (first | refine OpsL.q (by exact omv) ?_ | (refine OpsL.nil ?_; (skip)) | refine OpsL.ung ?_)
 refine OpsR.spg (v := .agg (VA b).toArray) rfl (by kernel_rfl) (by subst_vars; decide) (by exact rfl) (by simp only [ASt.ev, tmPut, ↓reduceIte, Nat.reduceEqDiff, *]; done) e5 (fun HH nn hK => aop_loadAgg (k := 7) (vs := VA b) (by simp only [ASt.ev, tmPut, ↓reduceIte, Nat.reduceEqDiff, *]; done) (by exact rfl) rfl (by exact rfl) (getc_all ((hK.2 p hpm3).trans g3) rfl)) ?_
 refine OpsR.act (by kernel_rfl) (ActStep.walk rfl rfl ?_)
 refine OpsL.ung ?_
 refine OpsL.c2 (hf := entersSingle) (hc := (singleC W0 (hA3.ext e5 k3) nA).ok) (h := ?_)
 rintro v6 m6 H6 ⟨⟨rfl, x6⟩, k6⟩
 have e6 := e5.trans x6
 refine OpsL.nil ⟨e6, ?_⟩
 have hc6 : singleF A0 = true := by kernel_rfl
 rw [hc6]
 refine OpsR.one rfl rfl rfl (by kernel_rfl) ?_
 repeat (first | refine OpsL.q (by exact opkT) ?_ | (refine OpsL.nil ?_; (skip)))
 refine OpsR.one rfl rfl rfl (by kernel_rfl) ?_
 repeat (first | refine OpsL.q (by exact omv) ?_ | (refine OpsL.nil ?_; (skip)))
 refine OpsR.one rfl rfl rfl (by kernel_rfl) ?_
 repeat (first | refine OpsL.q (by exact omv) ?_ | (refine OpsL.nil ?_; (skip)) | refine OpsL.ung ?_)
 refine OpsR.spg (v := .agg (VA b).toArray) rfl (by kernel_rfl) (by subst_vars; decide) (by exact rfl) (by simp only [ASt.ev, tmPut, ↓reduceIte, Nat.reduceEqDiff, *]; done) e6 (fun HH nn hK => aop_loadAgg (k := 7) (vs := VA b) (by simp only [ASt.ev, tmPut, ↓reduceIte, Nat.reduceEqDiff, *]; done) (by exact rfl) rfl (by exact rfl) (getc_all ((hK.2 p hpm3).trans g3) rfl)) ?_
 refine OpsR.act (by kernel_rfl) (ActStep.walk rfl rfl ?_)
 refine OpsL.ung ?_
 refine OpsL.c2 (hf := entersWhole) (hc := (wholeC W0 (hl3.ext e6 k3) hs3 (hA3.ext e6 k3) nA (by decide) (by decide) (by decide) (by decide)).ok) (h := ?_)
 rintro v7 m7 H7 ⟨⟨rfl, x7⟩, k7⟩
 have e7 := e6.trans x7
 refine OpsL.nil ⟨e7, ?_⟩
 have hc7 : wholeF [(⟨#[97]⟩, 1), (⟨#[97]⟩, 2), (⟨#[98]⟩, 3)] A0 = false := by kernel_rfl
 rw [hc7]
 refine OpsR.one rfl rfl rfl (by kernel_rfl) ?_
 repeat (first | refine OpsL.q (by exact onot) ?_ | (refine OpsL.nil ?_; (skip)) | refine OpsL.ung ?_)
 refine OpsR.one rfl rfl rfl (by kernel_rfl) ?_
 repeat (first | refine OpsL.q (by exact opkT) ?_ | (refine OpsL.nil ?_; (skip)))
 refine OpsR.one rfl rfl rfl (by kernel_rfl) ?_
 repeat (first | refine OpsL.q (by exact omv) ?_ | (refine OpsL.nil ?_; (skip)))
 refine OpsR.one rfl rfl rfl (by kernel_rfl) ?_
 repeat (first | refine OpsL.q (by exact ofa) ?_ | (refine OpsL.nil ?_; (dsimp only)) | refine OpsL.ung ?_)
 refine OpsR.spg (v := .int .i64 2) rfl (by kernel_rfl) (by subst_vars; decide) (by exact rfl) (by simp only [ASt.ev, tmPut, ↓reduceIte, Nat.reduceEqDiff, *]; rfl) e7 (fun HH nn hK => aop_load (by simp only [ASt.ev, tmPut, ↓reduceIte, Nat.reduceEqDiff, *]; rfl) (by exact rfl) rfl (by rw [← hTN]; exact cell_of ((hK.2 m2 hm23).trans b3) rfl)) ?_
 refine OpsR.spg (v := .bool true) rfl (by kernel_rfl) (by subst_vars; decide) (by exact rfl) (by simp only [ASt.ev, tmPut, ↓reduceIte, Nat.reduceEqDiff, *]; rfl) e7 (fun HH nn hK => aop_eqlT (by simp only [ASt.ev, tmPut, ↓reduceIte, Nat.reduceEqDiff, *]; rfl) (by simp only [ASt.ev, tmPut, ↓reduceIte, Nat.reduceEqDiff, *]; rfl) rfl) ?_
 refine OpsR.one rfl rfl rfl (by kernel_rfl) ?_
 repeat (first | refine OpsL.q (by exact opkT) ?_ | (refine OpsL.nil ?_; (skip)))
 refine OpsR.one rfl rfl rfl (by kernel_rfl) ?_
 repeat (first | refine OpsL.q (by exact omv) ?_ | (refine OpsL.nil ?_; (skip)))
 refine OpsR.one rfl rfl rfl (by kernel_rfl) ?_
 repeat (first | refine OpsL.q (by exact ofa) ?_ | (refine OpsL.nil ?_; (dsimp only)) | refine OpsL.ung ?_)
 refine OpsR.spg (v := .slice ao 1 co) rfl (by kernel_rfl) (by subst_vars; decide) (by exact rfl) (by simp only [ASt.ev, tmPut, ↓reduceIte, Nat.reduceEqDiff, *]; done) e7 (fun HH nn hK => aop_load (by simp only [ASt.ev, tmPut, ↓reduceIte, Nat.reduceEqDiff, *]; rfl) (by exact rfl) rfl (by rw [Nat.zero_add, ← hTO]; exact cell_of ((hK.2 m2 hm23).trans b3) rfl)) ?_
 refine OpsR.spg (v := .int .i64 ((1 : Nat) : Int)) rfl (by kernel_rfl) (by subst_vars; decide) (by exact rfl) (by simp only [ASt.ev, tmPut, ↓reduceIte, Nat.reduceEqDiff, *]; done) e7 (fun HH nn hK => olen) ?_
 refine OpsR.spg (v := .bool true) rfl (by kernel_rfl) (by subst_vars; decide) (by exact rfl) (by simp only [ASt.ev, tmPut, ↓reduceIte, Nat.reduceEqDiff, *]; done) e7 (fun HH nn hK => aop_eqlT (by simp only [ASt.ev, tmPut, ↓reduceIte, Nat.reduceEqDiff, *]; rfl) (by simp only [ASt.ev, tmPut, ↓reduceIte, Nat.reduceEqDiff, *]; rfl) rfl) ?_
 refine OpsR.one rfl rfl rfl (by kernel_rfl) ?_
 repeat (first | refine OpsL.q (by exact opkT) ?_ | (refine OpsL.nil ?_; (skip)))
 refine OpsR.one rfl rfl rfl (by kernel_rfl) ?_
 repeat (first | refine OpsL.q (by exact omv) ?_ | (refine OpsL.nil ?_; (skip)))
 refine OpsR.spg (v := .agg (VA b).toArray) rfl (by kernel_rfl) (by subst_vars; decide) (by exact rfl) (by simp only [ASt.ev, tmPut, ↓reduceIte, Nat.reduceEqDiff, *]; done) e7 (fun HH nn hK => aop_loadAgg (k := 7) (vs := VA b) (by simp only [ASt.ev, tmPut, ↓reduceIte, Nat.reduceEqDiff, *]; done) (by exact rfl) rfl (by exact rfl) (getc_all ((hK.2 p hpm3).trans g3) rfl)) ?_
 refine OpsR.spg (v := .agg (VA b).toArray) rfl (by kernel_rfl) (by subst_vars; decide) (by exact rfl) (by simp only [ASt.ev, tmPut, ↓reduceIte, Nat.reduceEqDiff, *]; done) e7 (fun HH nn hK => aop_loadAgg (k := 7) (vs := VA b) (by simp only [ASt.ev, tmPut, ↓reduceIte, Nat.reduceEqDiff, *]; done) (by exact rfl) rfl (by exact rfl) (getc_all ((hK.2 p hpm3).trans g3) rfl)) ?_
 refine OpsR.act (by kernel_rfl) (ActStep.walk rfl rfl ?_)
 refine OpsL.ung ?_
 refine OpsL.c1 (hf := entersNorm) (hc := (normC W0 (hA3.ext e7 k3) nA).ok) (h := ?_)
 rintro u m8 H8 ⟨⟨l8, yi, yf, yo, yc, yn, rfl, hO8, x8⟩, k8⟩
 have e8 := e7.trans x8
 refine OpsL.nil ⟨e8, ?_⟩
 refine OpsR.act (by kernel_rfl) (ActStep.walk rfl rfl ?_)
 refine OpsL.ung ?_
 refine OpsL.c2 (hf := entersSameA) (hc := (sameAC W0 hO8.in (norm_len nA) (hA3.ext e8 k3) nA).ok) (h := ?_)
 rintro v9 m9 H9 ⟨⟨rfl, x9⟩, k9⟩
 have e9 := e8.trans x9
 have hc9 : sameMF (normA A0) A0 = true := by kernel_rfl
 rw [hc9]
 refine OpsL.nil ⟨e9, ?_⟩
 refine OpsR.one rfl rfl rfl (by kernel_rfl) ?_
 repeat (first | refine OpsL.q (by exact opkT) ?_ | (refine OpsL.nil ?_; (skip)))
 refine OpsR.one rfl rfl rfl (by kernel_rfl) ?_
 repeat (first | refine OpsL.q (by exact omv) ?_ | (refine OpsL.nil ?_; (skip)))
 refine OpsR.one rfl rfl rfl (by kernel_rfl) ?_
 repeat (first | refine OpsL.q (by exact omv) ?_ | (refine OpsL.nil ?_; (skip)) | refine OpsL.ung ?_)
 refine OpsR.act (by kernel_rfl) (ActStep.walk rfl rfl ?_)
 refine OpsL.ung ?_
 refine OpsL.new (by subst_vars; decide) (aop_buildSlice (l := [(0, .int .i64 1)]) (r := (.slice (some ⟨m9, 0, none⟩) 1 1, .new (.cells (encN 1) 1 none false (some 3)))) (by simp only [evParts, ASt.ev, tmPut, ↓reduceIte, reduceIte, Option.some.injEq, Nat.reduceEqDiff, plainC, plain1, *]) (by kernel_rfl)) ?_
 obtain ⟨G9, hG9⟩ : ∃ Q, Q = H9.put m9 (.cells (encN 1) 1 none false (some 3)) := ⟨_, rfl⟩
 have xa : Ext m9 H9 (m9 + 1) G9 := by rw [hG9]; exact Ext.newPut
 have ka : ∀ id o, G9 id = some o → id < m9 + 1 := by rw [hG9]; exact ok_new k9
 have ga : G9 m9 = some (.cells (encN 1) 1 none false (some 3)) := by rw [hG9, Heap.put_eq]
 rw [← hG9]
 clear hG9
 have ea := e9.trans xa
 refine OpsL.nil ⟨ea, ?_⟩
 refine OpsR.one rfl rfl rfl (by kernel_rfl) ?_
 refine OpsL.ung ?_
 refine OpsL.q (aop_build (v := .agg (autV B0 (.slice none 0 0) (.slice (some ⟨m9, 0, none⟩) 1 1) (.slice none 0 0) (.slice none 0 0) (.slice none 0 0)).toArray) (l := [(0, .int .i64 1), (3, .slice (some ⟨m9, 0, none⟩) 1 1)]) (by simp only [evParts, ASt.ev, tmPut, ↓reduceIte, reduceIte, Option.some.injEq, Nat.reduceEqDiff, plainC, plain1, *]) (by kernel_rfl)) ?_
 refine OpsL.nil ?_
 refine OpsR.act (by kernel_rfl) (ActStep.walk rfl rfl ?_)
 refine OpsL.ung ?_
 refine OpsL.c2 (hf := entersCheck) (hc := (checkC W0 (hl3.ext ea k3) hs3 (a := B0) ⟨rows_intsN nil_at, rows_intsN (one_at rfl ga), nil_at, nil_at, nil_at⟩ nB).ok) (h := ?_)
 rintro vb mb Hb ⟨⟨rfl, xb⟩, kb⟩
 have hcb : checkF [(⟨#[97]⟩, 1), (⟨#[97]⟩, 2), (⟨#[98]⟩, 3)] B0 = false := by kernel_rfl
 rw [hcb]
 first | dsimp only | skip
 refine OpsL.nil ⟨ea.trans xb, ?_⟩
 refine OpsR.spg (v := .bool true) rfl (by kernel_rfl) (by subst_vars; decide) (by exact rfl) (by simp only [ASt.ev, tmPut, ↓reduceIte, Nat.reduceEqDiff, *]; done) (ea.trans xb) (fun HH nn hK => aop_eqlT (by simp only [ASt.ev, tmPut, ↓reduceIte, Nat.reduceEqDiff, *]; rfl) (by simp only [ASt.ev, tmPut, ↓reduceIte, Nat.reduceEqDiff, *]; rfl) rfl) ?_
 refine OpsR.one rfl rfl rfl (by kernel_rfl) ?_
 repeat (first | refine OpsL.q (by exact opkT) ?_ | (refine OpsL.nil ?_; (skip)))
 refine OpsR.one rfl rfl rfl (by kernel_rfl) ?_
 repeat (first | refine OpsL.q (by exact oasg) ?_ | (refine OpsL.nil ?_; (skip)))
 refine OpsR.nil ?_
 (change Trip _ _ _ _ _)
 repeat (refine Trip.ret ?_; (skip))
 exact ⟨.inr rfl, _, res_tmp, by simp [tmPut, *], trivial⟩
theorem known_told (W0 : World) (hT : Tabs [] W0) : Am.Enters Tryz.prog 7 ∧ ∀ nx H, ACalls Tryz.prog W0 7 [] nx H fun v nx' H' => v = .bool true ∧ nx' = nx ∧ H' = H :=
 ⟨entersKnown, fun nx H => told0 (fun w => knownC w) nx H⟩
end Go.Proofs.YtjohiaoepbnicaaGreat
namespace Go.Proofs.YtjohiaoepbnicaaGreat
set_option linter.unusedSimpArgs false
set_option linter.unusedVariables false
open Go.Am Go.RowKit
attribute [local irreducible] aop OpsL Trip blockExit OpsD OpsK OpsR
theorem mixed3 : Tryz.prog.follows .mixedOrders = true := by kernel_rfl
theorem entersStateR : Am.Enters Tryz.prog 53 := ⟨Tryz.f53, Tryz.func53, by kernel_rfl, by kernel_rfl⟩
theorem entersKindR : Am.Enters Tryz.prog 54 := ⟨Tryz.f54, Tryz.func54, by kernel_rfl, by kernel_rfl⟩
theorem entersCheckR : Am.Enters Tryz.prog 19 := ⟨Tryz.f19, Tryz.func19, by kernel_rfl, by kernel_rfl⟩
set_option maxRecDepth 20000 in
set_option maxHeartbeats 4000000 in
theorem stateRC (W0 : World) {nx : Nat} {H : Heap} {a : Aut} {vi vf vo vc vn : Value} (s : Int) :
  ACalls Tryz.prog W0 53 [.agg (autV a vi vf vo vc vn).toArray, .int .i64 s] nx H fun v nx' H' => v = .bool (stF a.N s) ∧ Ext nx H nx' H' := by
 refine ACalls.by_trip (fn := Tryz.f53) (c := _) Tryz.func53 rfl (fun tm n hn0 htm => ?_)
 have e0 : tm 0 = .agg (autV a vi vf vo vc vn).toArray := htm 0
 have e1 : tm 1 = .int .i64 s := htm 1
 clear htm
 replace hn0 : n = 13 := hn0
 refine Trip.seq ?_
 refine Trip.ops ?_
 refine OpsL.new (by subst_vars; decide) (aop_box (by simp only [ASt.ev, tmPut, ↓reduceIte, Nat.reduceEqDiff, *]; rfl)) ?_
 obtain ⟨F, hF⟩ : ∃ F, F = H.put nx (.cells (Value.agg (autV a vi vf vo vc vn).toArray).cells.toList 0 none false (some 30)) := ⟨_, rfl⟩
 have hx0 : Ext nx H (nx + 1) F := by rw [hF]; exact Ext.newPut
 have hFn : F nx = some (.cells (autV a vi vf vo vc vn) 0 none false (some 30)) := by rw [hF, Heap.put_eq]; rfl
 have g0 : cellAt F ⟨nx, 0, none⟩ (.int .i64 a.N) := cell_of hFn rfl
 rw [← hF]
 clear hF
 repeat' (first | (refine OpsL.q (by first | exact omv | exact oasg | exact olss | exact ogeq | exact ofa | exact old | exact opkT | exact opkF) ?_) | refine Trip.seq ?_ | refine Trip.ops ?_ | (refine Trip.ret ?_; (dsimp only)) | (refine OpsL.nil ?_; (change Trip _ _ _ _ _)) | refine OpsL.ung ?_ | refine OpsL.skp ?_ | refine OpsL.gT (fun _ => ?_) (fun _ => ?_))
 all_goals (exact ⟨.inr rfl, _, res_tmp, by simp [tmPut, stF, *]; try omega, hx0⟩)
set_option maxRecDepth 20000 in
set_option maxHeartbeats 4000000 in
theorem kindRC (W0 : World) {nx : Nat} {H : Heap} {lv : Value} {ss : List (ByteArray × Int)} (s k : Int) (hl : SymsAt H lv ss) (hss : ss.length ≤ 1000) :
  ACalls Tryz.prog W0 54 [lv, .int .i64 s, .int .i64 k] nx H fun v nx' H' => v = .bool (kdF ss s k) ∧ nx' = nx ∧ H' = H := by
 obtain ⟨la, lc, rfl, hl⟩ := hl
 refine ACalls.by_trip (fn := Tryz.f54) (c := _) Tryz.func54 rfl (fun tm n hn0 htm => ?_)
 have e0 : tm 0 = .slice (some la) ss.length lc := htm 0
 have e1 : tm 1 = .int .i64 s := htm 1
 have e2 : tm 2 = .int .i64 k := htm 2
 clear htm
 replace hn0 : n = 24 := hn0
 by_cases h0 : 0 ≤ s
 ·obtain ⟨i, rfl⟩ : ∃ i : Nat, s = i := ⟨s.toNat, by omega⟩
  by_cases h1 : i < ss.length
  ·have hc1 := cellAt_of_getc (hl i h1)
   dsimp only at hc1
   have hc2 : cellAt H ⟨la.block, la.off + (i : Int).toNat * 2 + 1, la.spot⟩ (.int .i64 ss[i].2) := by simpa using hc1
   have hk : kdF ss i k = decide (ss[i].2 = k) := by
    unfold kdF
    rw [Int.toNat_natCast, List.getElem?_eq_getElem h1]
    simp [h1]
   repeat' (first | (refine OpsL.q (by first | exact omv | exact oasg | exact olss | exact ogeq | exact oeql | exact olen | exact oixa | exact ofa | exact old | exact opkT | exact opkF) ?_) | refine Trip.seq ?_ | refine Trip.ops ?_ | (refine Trip.ret ?_; (dsimp only)) | (refine OpsL.nil ?_; (change Trip _ _ _ _ _)) | refine OpsL.ung ?_ | refine OpsL.skp ?_ | refine OpsL.gT (fun _ => ?_) (fun _ => ?_))
   all_goals first | omega | skip
   all_goals (exact ⟨.inr rfl, _, res_tmp, by rw [hk]; simp [tmPut, *], rfl, rfl⟩)
  ·have hk : kdF ss i k = false := by
    unfold kdF
    simp [h1]
   repeat' (first | (refine OpsL.q (by first | exact omv | exact oasg | exact olss | exact ogeq | exact olen | exact oixa | exact ofa | exact opkT | exact opkF) ?_) | refine Trip.seq ?_ | refine Trip.ops ?_ | (refine Trip.ret ?_; (dsimp only)) | (refine OpsL.nil ?_; (change Trip _ _ _ _ _)) | refine OpsL.ung ?_ | refine OpsL.skp ?_ | refine OpsL.gT (fun _ => ?_) (fun _ => ?_))
   all_goals first | omega | skip
   all_goals (exact ⟨.inr rfl, _, res_tmp, by rw [hk]; simp [tmPut, *], rfl, rfl⟩)
 ·have hk : kdF ss s k = false := by
   unfold kdF
   simp [h0]
  repeat' (first | (refine OpsL.q (by first | exact omv | exact oasg | exact ogeq | exact opkF) ?_) | refine Trip.seq ?_ | refine Trip.ops ?_ | (refine Trip.ret ?_; (dsimp only)) | (refine OpsL.nil ?_; (change Trip _ _ _ _ _)) | refine OpsL.skp ?_)
  all_goals first | omega | skip
  all_goals (exact ⟨.inr rfl, _, res_tmp, by rw [hk]; simp [tmPut, *], rfl, rfl⟩)
theorem sizeF_eq (a : Aut) : sizeF a = decide (0 ≤ a.N ∧ a.N ≤ 200 ∧ 0 ≤ a.G ∧ a.G ≤ 10000 ∧ ((a.opens.length : Int) + a.closes.length) + a.inners.length ≤ 100000) := by
 unfold sizeF btF
 rw [Bool.eq_iff_iff]
 simp only [Bool.and_eq_true, decide_eq_true_eq]
 constructor
 ·rintro ⟨⟨⟨h1, h2⟩, h3, h4⟩, h5⟩; exact ⟨h1, h2, h3, h4, h5⟩
 ·rintro ⟨h1, h2, h3, h4, h5⟩; exact ⟨⟨⟨h1, h2⟩, h3, h4⟩, h5⟩
theorem checkF_size {ss : List (ByteArray × Int)} {a : Aut} (h : sizeF a = false) : checkF ss a = false := by simp [checkF, h]
theorem checkF_states {ss : List (ByteArray × Int)} {a : Aut} (h : (a.init ++ a.final).all (stF a.N) = false) : checkF ss a = false := by
 rw [List.all_append] at h
 unfold checkF
 cases h1 : a.init.all (stF a.N) <;> cases h2 : a.final.all (stF a.N) <;> simp_all
theorem checkF_opens {ss : List (ByteArray × Int)} {a : Aut} (h : a.opens.all (okO ss a) = false) : checkF ss a = false := by simp [checkF, h]
theorem checkF_closes {ss : List (ByteArray × Int)} {a : Aut} (h : a.closes.all (okC ss a) = false) : checkF ss a = false := by simp [checkF, h]
theorem checkF_inners {ss : List (ByteArray × Int)} {a : Aut} (h : a.inners.all (okI ss a) = false) : checkF ss a = false := by simp [checkF, h]
theorem checkF_yes {ss : List (ByteArray × Int)} {a : Aut} (h0 : sizeF a = true) (h1 : (a.init ++ a.final).all (stF a.N) = true) (h2 : a.opens.all (okO ss a) = true) (h3 : a.closes.all (okC ss a) = true) (h4 : a.inners.all (okI ss a) = true) : checkF ss a = true := by
 rw [List.all_append, Bool.and_eq_true] at h1
 simp [checkF, h0, h1.1, h1.2, h2, h3, h4]
set_option maxRecDepth 20000 in
set_option maxHeartbeats 16000000 in
theorem checkRC (W0 : World) {nx : Nat} {H : Heap} {lv : Value} {ss : List (ByteArray × Int)} {a : Aut} {vi vf vo vc vn : Value} (hl : SymsAt H lv ss) (hss : ss.length ≤ 1000) (ha : AutIn H a vi vf vo vc vn) (hn : AutLen a) :
  ACalls Tryz.prog W0 19 [lv, .agg (autV a vi vf vo vc vn).toArray] nx H fun v nx' H' => v = .int .i64 (if checkF ss a then 0 else 9) ∧ Ext nx H nx' H' := by
 obtain ⟨oa, oc, rfl⟩ := ha.opens.slice
 obtain ⟨ca, cc, rfl⟩ := ha.closes.slice
 obtain ⟨na, nc, rfl⟩ := ha.inners.slice
 have q0 := hn.init
 have q1 := hn.final
 have q2 := hn.opens
 have q3 := hn.closes
 have q4 := hn.inners
 refine ACalls.by_trip (fn := Tryz.f19) (c := _) Tryz.func19 rfl (fun tm n hn0 htm => ?_)
 have e0 : tm 0 = lv := htm 0
 have e1 : tm 1 = .agg (autV a vi vf (.slice oa a.opens.length oc) (.slice ca a.closes.length cc) (.slice na a.inners.length nc)).toArray := htm 1
 clear htm
 replace hn0 : n = 182 := hn0
 refine Trip.ok fun hok => ?_
 replace hok : ∀ id o, H id = some o → id < nx := hok
 refine Trip.seq ?_
 refine Trip.ops ?_
 refine OpsL.new (by subst_vars; decide) (aop_box (by simp only [ASt.ev, tmPut, ↓reduceIte, Nat.reduceEqDiff, *]; rfl)) ?_
 obtain ⟨F, hF⟩ : ∃ F, F = H.put nx (.cells (Value.agg (autV a vi vf (.slice oa a.opens.length oc) (.slice ca a.closes.length cc) (.slice na a.inners.length nc)).toArray).cells.toList 0 none false (some 30)) := ⟨_, rfl⟩
 have hx0 : Ext nx H (nx + 1) F := by rw [hF]; exact Ext.newPut
 have hokF : ∀ id o, F id = some o → id < nx + 1 := by rw [hF]; exact ok_new hok
 have hFn : F nx = some (.cells (autV a vi vf (.slice oa a.opens.length oc) (.slice ca a.closes.length cc) (.slice na a.inners.length nc)) 0 none false (some 30)) := by rw [hF, Heap.put_eq]; rfl
 replace hl := hl.ext hx0 hok
 replace ha := ha.ext hx0 hok
 have g0 : cellAt F ⟨nx, 0, none⟩ (.int .i64 a.N) := cell_of hFn rfl
 have g1 : cellAt F ⟨nx, 1, none⟩ (.int .i64 a.G) := cell_of hFn rfl
 have g2 : cellAt F ⟨nx, 2, none⟩ vi := cell_of hFn rfl
 have g3 : cellAt F ⟨nx, 3, none⟩ vf := cell_of hFn rfl
 have g4 : cellAt F ⟨nx, 4, none⟩ (.slice oa a.opens.length oc) := cell_of hFn rfl
 have g5 : cellAt F ⟨nx, 5, none⟩ (.slice ca a.closes.length cc) := cell_of hFn rfl
 have g6 : cellAt F ⟨nx, 6, none⟩ (.slice na a.inners.length nc) := cell_of hFn rfl
 rw [← hF]
 clear hF e1
 (refine OpsL.q (by exact oasg) ?_)
 (refine OpsL.nil ?_; (change Trip _ _ _ _ _))
 refine Trip.seq ?_
 refine Trip.seq ?_
 refine Trip.mono (Q := fun e st => e = .normal ∧ ∃ tm' : Nat → Value, st = ⟨tm', n, F, nx + 1⟩ ∧ tm' 0 = lv ∧ tm' 3 = .pointer (some ⟨nx, 0, none⟩) ∧ tm' 4 = .int .i64 0 ∧ tm' 44 = .bool (!sizeF a)) ?_ ?_
 ·refine Trip.ops ?_
  repeat' (first | (refine OpsL.q (by first | exact omv | exact olss | exact ogtr | exact oadd | exact olen | exact ofa | exact old | exact opkT | exact opkF) ?_) | (refine OpsL.nil ?_; (dsimp only)) | refine OpsL.ung ?_ | refine OpsL.skp ?_ | refine OpsL.gF (fun _ => ?_) (fun _ => ?_))
  all_goals
   refine ⟨rfl, _, rfl, by simp [tmPut, *], by simp [tmPut, *], by simp [tmPut, *], ?_⟩
   simp only [tmPut, ↓reduceIte, reduceIte, Nat.reduceEqDiff, Value.bool.injEq]
   rw [sizeF_eq, Bool.eq_iff_iff, Bool.not_eq_true', decide_eq_false_iff_not]
   first | (simp only [true_iff]; omega) | (rw [decide_eq_true_iff]; omega)
 ·rintro e st ⟨rfl, tm1, rfl, e0, e3, e4, e44⟩
  cases hz : sizeF a
  ·rw [hz] at e44
   refine Trip.ifT ?_
   repeat (first | refine OpsL.q (by exact oasg) ?_ | refine Trip.seq ?_ | refine Trip.ops ?_ | (refine Trip.ret ?_; (dsimp only)) | (refine OpsL.nil ?_; (change Trip _ _ _ _ _)))
   exact ⟨.inr rfl, _, res_tmp, by rw [checkF_size hz]; rfl, hx0⟩
  rw [hz] at e44
  refine Trip.ifF ?_
  repeat (first | refine Trip.seq ?_ | (refine Trip.skip ?_; (change Trip _ _ _ _ _)))
  refine Trip.mono (Q := fun e st => e = .normal ∧ ∃ (tm' : Nat → Value) (nx' : Nat) (H' : Heap) (v : Value), st = ⟨tm', n, H', nx'⟩ ∧ Ext (nx + 1) F nx' H' ∧ IntsAt H' v (a.init ++ a.final) ∧ tm' 0 = lv ∧ tm' 3 = .pointer (some ⟨nx, 0, none⟩) ∧ tm' 4 = .int .i64 0 ∧ tm' 5 = v) ?_ ?_
  ·refine OpsR.drawn [0, 3, 6] (K := fun nx1 H1 => Ext (nx + 1) F nx1 H1) mixed3 (by kernel_rfl) (by kernel_rfl) [1, 2, 4, 5, 0, 3, 6, 7] (by kernel_rfl) Ext.refl ?_
   refine OpsR.one rfl rfl rfl (by kernel_rfl) ?_
   repeat (first | refine OpsL.q (by exact ofa) ?_ | (refine OpsL.nil ?_; (dsimp only)))
   refine OpsR.sp (v := vi) rfl (by kernel_rfl) (by subst_vars; decide) Ext.refl (fun H2 nx2 hK => aop_load (by simp only [ASt.ev, tmPut, ↓reduceIte, Nat.reduceEqDiff, *]; rfl) (by exact rfl) rfl (cell_ext hK hokF g2)) ?_
   refine OpsR.one rfl rfl rfl (by kernel_rfl) ?_
   repeat (first | refine OpsL.q (by exact ofa) ?_ | (refine OpsL.nil ?_; (dsimp only)))
   refine OpsR.sp (v := vf) rfl (by kernel_rfl) (by subst_vars; decide) Ext.refl (fun H2 nx2 hK => aop_load (by simp only [ASt.ev, tmPut, ↓reduceIte, Nat.reduceEqDiff, *]; rfl) (by exact rfl) rfl (cell_ext hK hokF g3)) ?_
   refine OpsR.act (by kernel_rfl) (ActStep.walk rfl rfl ?_)
   refine OpsL.new (by subst_vars; decide) (aop_buildSlice (l := []) (r := (.slice (some ⟨nx + 1, 0, none⟩) 0 0, .new (.cells [] 1 none false (some 3)))) (by simp only [evParts]) (by kernel_rfl)) ?_
   have y0 : Ext (nx + 1) F (nx + 1 + 1) (F.put (nx + 1) (.cells [] 1 none false (some 3))) := Ext.newPut
   have p0 := ok_new (o := (.cells [] 1 none false (some 3))) hokF
   have hE : RowE encN 1 3 (F.put (nx + 1) (.cells [] 1 none false (some 3))) none (.slice (some ⟨nx + 1, 0, none⟩) 0 0) ([] : List Int) := .inr ⟨rfl, rfl, nx + 1, 1, false, _, rfl, Heap.put_eq⟩
   generalize (F.put (nx + 1) (.cells [] 1 none false (some 3))) = G at *
   refine OpsL.nil ⟨y0, ?_⟩
   refine OpsR.act (by kernel_rfl) (ActStep.walk rfl rfl ?_)
   refine OpsL.appendE (bytes := 8) (z := [.int .i64 0]) encN_len encN_one (by omega) (by subst_vars; decide) hE (RowsAt.ext y0 hokF (ints_rowsN ha.init)) (by simp only [ASt.ev, tmPut, ↓reduceIte, Nat.reduceEqDiff, *]; done) (by simp only [ASt.ev, tmPut, ↓reduceIte, Nat.reduceEqDiff, *]; done) (fun b t h => by cases h) (by exact rfl) (by exact rfl) (by exact rfl) (by exact rfl) (by exact rfl) rfl (by simp; omega) (by omega) ?_
   intro u1 m1 G1 o1 hA1
   have y1 : Ext (nx + 1) F m1 G1 := y0.trans ⟨hA1.le, fun i hi => hA1.same i hi (fun b t h => by cases h)⟩
   have p1 := hA1.ok (fun b t h => by cases h) p0
   have h1' : ∀ b t, o1 = some (b, t) → nx + 1 ≤ b ∧ b < m1 := fun b t h => by
    obtain ⟨i1, i2⟩ := hA1.blk b t h
    rcases i2 with rfl | ⟨t', h'⟩
    ·exact ⟨by omega, i1⟩
    ·cases h'
   refine OpsL.nil ⟨y1, ?_⟩
   refine OpsR.act (by kernel_rfl) (ActStep.walk rfl rfl ?_)
   refine OpsL.appendE (bytes := 8) (z := [.int .i64 0]) encN_len encN_one (by omega) (by subst_vars; decide) hA1.own (RowsAt.ext y1 hokF (ints_rowsN ha.final)) (by simp only [ASt.ev, tmPut, ↓reduceIte, Nat.reduceEqDiff, *]; done) (by simp only [ASt.ev, tmPut, ↓reduceIte, Nat.reduceEqDiff, *]; done) (fun b t h => (h1' b t h).2) (by exact rfl) (by exact rfl) (by exact rfl) (by exact rfl) (by exact rfl) rfl (by simp; omega) (by omega) ?_
   intro u2 m2 G2 o2 hA2
   have y2 : Ext (nx + 1) F m2 G2 := ⟨by have := y1.1; have := hA2.le; omega, fun i hi => by rw [hA2.same i (by have := y1.1; omega) (fun b t h => by have := h1' b t h; omega), y1.2 i hi]⟩
   refine OpsL.nil ⟨y2, ?_⟩
   refine OpsR.one rfl rfl rfl (by kernel_rfl) ?_
   repeat (first | refine OpsL.q (by exact oasg) ?_ | (refine OpsL.nil ?_; (skip)))
   refine OpsR.nil ?_
   exact ⟨rfl, _, m2, G2, u2, rfl, y2, by simpa using rows_intsN (hA2.own.at encN_len), by simp [tmPut, *], by simp [tmPut, *], by simp [tmPut, *], by simp [tmPut, *]⟩
  ·rintro e st ⟨rfl, tm2, nx2, G2, v, rfl, x2, hv, e0, e3, e4, e5⟩
   clear e44
   refine Trip.ok fun hok2 => ?_
   replace hok2 : ∀ id o, G2 id = some o → id < nx2 := hok2
   obtain ⟨va, vk, rfl⟩ := hv.slice
   have hvl : (a.init ++ a.final).length ≤ 2000 := by rw [List.length_append]; omega
   repeat (first | refine OpsL.q (by exact oasg) ?_ | refine Trip.seq ?_ | refine Trip.ops ?_ | refine Trip.block ?_ | (refine OpsL.nil ?_; (change Trip _ _ _ _ _)))
   refine Trip.inv (fun (i : Nat) s => ∃ (tm : Nat → Value) (nx' : Nat) (H' : Heap), s = ⟨tm, n, H', nx'⟩ ∧ Ext nx2 G2 nx' H' ∧ tm 0 = lv ∧ tm 3 = .pointer (some ⟨nx, 0, none⟩) ∧ tm 4 = .int .i64 0 ∧ tm 5 = .slice va (a.init ++ a.final).length vk ∧ tm 6 = .int .i64 i ∧ i ≤ (a.init ++ a.final).length ∧ ((a.init ++ a.final).take i).all (stF a.N) = true) (fun i => (a.init ++ a.final).length - i) 0 ?_ ?_
   ·exact ⟨_, _, _, rfl, Ext.refl, by simp [tmPut, *], by simp [tmPut, *], by simp [tmPut, *], by simp [tmPut, *], by simp [tmPut, *], by omega, rfl⟩
   clear e0 e3 e4 e5
   rintro i s ⟨tm, nx', H', rfl, hext, e0, e3, e4, e5, e6, hi, hall⟩
   repeat (first | (refine OpsL.q (by first | exact omv | exact olss | exact olen) ?_) | refine Trip.seq ?_ | refine Trip.ops ?_ | refine Trip.block ?_ | refine Trip.itA (fun _ => ?_) (fun _ => ?_) | (refine Trip.skip ?_; (change Trip _ _ _ _ _)) | (refine OpsL.nil ?_; (change Trip _ _ _ _ _)))
   ·have hlt : i < (a.init ++ a.final).length := by omega
    obtain ⟨q, rfl, hc⟩ := intsAt_at hv hlt
    replace hc := cell_ext hext hok2 hc
    have hB : H' nx = _ := ((x2.trans hext).2 nx (by omega)).trans hFn
    repeat fail
    refine Trip.mono (Q := fun e st => e = .normal ∧ ∃ (tm' : Nat → Value) (nx1 : Nat) (H1 : Heap), st = ⟨tm', n, H1, nx1⟩ ∧ Ext nx2 G2 nx1 H1 ∧ tm' 0 = lv ∧ tm' 3 = .pointer (some ⟨nx, 0, none⟩) ∧ tm' 4 = .int .i64 0 ∧ tm' 5 = .slice (some q) (a.init ++ a.final).length vk ∧ tm' 6 = .int .i64 i ∧ tm' 64 = .bool (!stF a.N (a.init ++ a.final)[i])) ?_ ?_
    ·refine OpsR.drawn [5] (K := fun n1 H1 => Ext nx' H' n1 H1) mixed3 (by kernel_rfl) (by kernel_rfl) [0, 1, 2, 3, 4, 5, 6] (by kernel_rfl) Ext.refl ?_
     refine OpsR.one rfl rfl rfl (by kernel_rfl) ?_
     refine OpsL.q (aop_loadAgg (k := 7) (by simp only [ASt.ev, tmPut, ↓reduceIte, Nat.reduceEqDiff, *]; done) (by exact rfl) rfl (by exact rfl) (getc_all hB rfl)) ?_
     repeat (refine OpsL.nil ?_; (skip))
     refine OpsR.one rfl rfl rfl (by kernel_rfl) ?_
     repeat (first | refine OpsL.q (by exact omv) ?_ | (refine OpsL.nil ?_; (skip)))
     refine OpsR.one rfl rfl rfl (by kernel_rfl) ?_
     repeat (first | refine OpsL.q (by exact omv) ?_ | (refine OpsL.nil ?_; (skip)))
     refine OpsR.one rfl rfl rfl (by kernel_rfl) ?_
     repeat (first | refine OpsL.q (by exact oixa) ?_ | (refine OpsL.nil ?_; (dsimp only)))
     refine OpsR.one rfl rfl rfl (by kernel_rfl) ?_
     repeat (first | refine OpsL.q (by exact old) ?_ | (refine OpsL.nil ?_; (skip)))
     refine OpsR.act (by kernel_rfl) (ActStep.walk rfl rfl ?_)
     refine OpsL.c2 (hf := entersStateR) (hc := (stateRC W0 _)) (h := ?_)
     rintro v nx1 H1 ⟨rfl, y1⟩
     refine OpsL.nil ⟨y1, ?_⟩
     refine OpsR.one rfl rfl rfl (by kernel_rfl) ?_
     repeat (first | refine OpsL.q (by exact onot) ?_ | (refine OpsL.nil ?_; (skip)))
     refine OpsR.nil ?_
     exact ⟨rfl, _, _, _, rfl, hext.trans y1, by simp [tmPut, *], by simp [tmPut, *], by simp [tmPut, *], by simp [tmPut, *], by simp [tmPut, *], by simp [tmPut, *]⟩
    ·clear e0 e3 e4 e5 e6
     rintro e st ⟨rfl, tm1, nx1, H1, rfl, hext1, e0, e3, e4, e5, e6, e64⟩
     cases hs : stF a.N (a.init ++ a.final)[i]
     ·rw [hs] at e64
      repeat fail
      refine Trip.ifT ?_
      repeat (first | refine OpsL.q (by exact oasg) ?_ | refine Trip.seq ?_ | refine Trip.ops ?_ | (refine Trip.ret ?_; ((repeat (refine blockExit_ret ?_)); dsimp only)) | (refine OpsL.nil ?_; (change Trip _ _ _ _ _)))
      exact ⟨.inr rfl, _, res_tmp, by rw [checkF_states (all_no hlt hs)]; rfl, (hx0.trans x2).trans hext1⟩
     ·rw [hs] at e64
      repeat fail
      refine Trip.ifF ?_
      repeat (first | (refine OpsL.q (by first | exact omv | exact oasg | exact oadd) ?_) | refine Trip.ops ?_ | (refine Trip.skip ?_; ((repeat (refine blockExit_normal ?_)); change Trip _ _ _ _ _)) | (refine OpsL.nil ?_; (dsimp only)))
      exact ⟨i + 1, ⟨_, _, _, rfl, hext1, by simp [tmPut, *], by simp [tmPut, *], by simp [tmPut, *], by simp [tmPut, *], by simp [tmPut, *], by omega, all_take hlt hall hs⟩, by omega⟩
   have hi2 : i = (a.init ++ a.final).length := by omega
   subst hi2
   rw [List.take_length] at hall
   have hAll := hall
   clear hall hi
   have x3 := x2.trans hext
   clear hext hok2 hv e5 e6 x2
   repeat (first | refine OpsL.q (by exact oasg) ?_ | refine Trip.seq ?_ | refine Trip.ops ?_ | refine Trip.block ?_ | (refine Trip.exit ?_; ((repeat (refine blockExit_eq ?_)); change Trip _ _ _ _ _)) | (refine OpsL.nil ?_; (change Trip _ _ _ _ _)))
   refine Trip.inv (fun (i : Nat) s => ∃ (tm : Nat → Value) (nx' : Nat) (H' : Heap), s = ⟨tm, n, H', nx'⟩ ∧ Ext (nx + 1) F nx' H' ∧ tm 0 = lv ∧ tm 3 = .pointer (some ⟨nx, 0, none⟩) ∧ tm 4 = .int .i64 0 ∧ tm 7 = .int .i64 i ∧ i ≤ a.opens.length ∧ (a.opens.take i).all (okO ss a) = true) (fun i => a.opens.length - i) 0 ?_ ?_
   ·exact ⟨_, _, _, rfl, x3, by simp [tmPut, *], by simp [tmPut, *], by simp [tmPut, *], by simp [tmPut, *], by omega, rfl⟩
   clear e0 e3 e4 x3
   rintro i s ⟨tm, nx', H', rfl, hext, e0, e3, e4, e5, hi, hall⟩
   have gl := cell_ext hext hokF g4
   refine Trip.ok fun hok' => ?_
   replace hok' : ∀ id o, H' id = some o → id < nx' := hok'
   repeat (first | (refine OpsL.q (by first | exact omv | exact olss | exact olen | exact ofa | exact old) ?_) | refine Trip.seq ?_ | refine Trip.ops ?_ | refine Trip.block ?_ | refine Trip.itA (fun _ => ?_) (fun _ => ?_) | (refine Trip.skip ?_; (change Trip _ _ _ _ _)) | (refine OpsL.nil ?_; (change Trip _ _ _ _ _)))
   ·have hlt : i < a.opens.length := by omega
    obtain ⟨q, hq, hc⟩ := rows_at ha.opens hlt
    rw [hq] at gl
    replace hc := getc_ext hext hokF hc
    repeat (refine OpsL.q (by exact oixa) ?_)
    refine OpsL.q (aop_loadAgg (k := 4) (by simp only [ASt.ev, tmPut, ↓reduceIte, Nat.reduceEqDiff, *]; rfl) (by exact rfl) rfl (by exact rfl) hc) ?_
    refine OpsL.new (by subst_vars; decide) (aop_alloc (l := rep 4 [.int .i64 0]) (by exact rfl)) ?_
    refine OpsL.upd (aop_store (k := 4) (by simp only [ASt.ev, tmPut, ↓reduceIte, Nat.reduceEqDiff, *]; rfl) (by simp only [ASt.ev, tmPut, ↓reduceIte, Nat.reduceEqDiff, *]; rfl) (by exact rfl) rfl (o := .cells (Go.Am.e4 a.opens[i]) 0 none false (some 44)) (by simp [setc, Heap.put, Value.cells, Go.Am.e4, rep, Value.oneCell'])) ?_
    obtain ⟨G, hG⟩ : ∃ G, G = (H'.put nx' (.cells (rep 4 [.int .i64 0]) 0 none false (some 44))).put nx' (.cells (Go.Am.e4 a.opens[i]) 0 none false (some 44)) := ⟨_, rfl⟩
    have y1 : Ext (nx + 1) F (nx' + 1) G := hext.trans (by rw [hG]; exact Ext.newPut.put (Nat.le_refl _))
    have hGn : G nx' = some (.cells (Go.Am.e4 a.opens[i]) 0 none false (some 44)) := by rw [hG, Heap.put_eq]
    have hokG : ∀ id o, G id = some o → id < nx' + 1 := fun id o h => by
     by_cases c : id = nx'
     ·omega
     ·rw [hG, Heap.put_ne c, Heap.put_ne c] at h
      have := hok' id o h
      omega
    change OpsL _ _ _ _ (ASt.mk _ _ ((H'.put nx' (.cells (rep 4 [.int .i64 0]) 0 none false (some 44))).put nx' (.cells (Go.Am.e4 a.opens[i]) 0 none false (some 44))) _) _
    rw [← hG]
    clear hG hok'
    have hB0 : G nx = _ := (y1.2 nx (by omega)).trans hFn
    have d00 : cellAt G ⟨nx', 0, none⟩ (.int .i64 a.opens[i].1) := cell_ext Ext.refl hokG (cell_of hGn rfl)
    repeat (first | refine Trip.seq ?_ | refine Trip.ops ?_ | (refine OpsL.nil ?_; (change Trip _ _ _ _ _)))
    refine OpsL.q (aop_loadAgg (k := 7) (by simp only [ASt.ev, tmPut, ↓reduceIte, Nat.reduceEqDiff, *]; done) (by exact rfl) rfl (by exact rfl) (getc_all hB0 rfl)) ?_
    repeat (refine OpsL.q (by first | exact ofa | exact old) ?_)
    refine OpsL.c2 (hf := entersStateR) (hc := (stateRC W0 _)) (h := ?_)
    rintro v nx1 H1 ⟨rfl, z1⟩
    cases hs1 : stF a.N a.opens[i].1
    ·repeat (first | (refine OpsL.q (by first | exact omv | exact onot | exact opkT) ?_) | (refine OpsL.nil ?_; (change Trip _ _ _ _ _)) | refine OpsL.skp ?_)
     refine Trip.ifT ?_
     repeat (first | refine OpsL.q (by exact oasg) ?_ | refine Trip.seq ?_ | refine Trip.ops ?_ | (refine Trip.ret ?_; ((repeat (refine blockExit_ret ?_)); dsimp only)) | (refine OpsL.nil ?_; (change Trip _ _ _ _ _)))
     exact ⟨.inr rfl, _, res_tmp, by rw [checkF_opens (all_no hlt (by simp [okO, hs1]))]; rfl, hx0.trans (y1.trans z1)⟩
    have hB1 : H1 nx = _ := ((y1.trans z1).2 nx (by omega)).trans hFn
    have d12 : cellAt H1 ⟨nx', 2, none⟩ (.int .i64 a.opens[i].2.2.1) := cell_ext z1 hokG (cell_of hGn rfl)
    repeat (first | (refine OpsL.q (by first | exact omv | exact onot) ?_) | refine OpsL.ung ?_)
    refine OpsL.q (aop_loadAgg (k := 7) (by simp only [ASt.ev, tmPut, ↓reduceIte, Nat.reduceEqDiff, *]; done) (by exact rfl) rfl (by exact rfl) (getc_all hB1 rfl)) ?_
    repeat (first | (refine OpsL.q (by first | exact ofa | exact old) ?_) | refine OpsL.ung ?_)
    refine OpsL.c2 (hf := entersStateR) (hc := (stateRC W0 _)) (h := ?_)
    rintro v nx2 H2 ⟨rfl, z2⟩
    replace z2 := z1.trans z2
    cases hs2 : stF a.N a.opens[i].2.2.1
    ·repeat (first | (refine OpsL.q (by first | exact omv | exact onot | exact opkT | exact opkF) ?_) | (refine OpsL.nil ?_; (change Trip _ _ _ _ _)) | refine OpsL.ung ?_ | refine OpsL.skp ?_)
     refine Trip.ifT ?_
     repeat (first | refine OpsL.q (by exact oasg) ?_ | refine Trip.seq ?_ | refine Trip.ops ?_ | (refine Trip.ret ?_; ((repeat (refine blockExit_ret ?_)); dsimp only)) | (refine OpsL.nil ?_; (change Trip _ _ _ _ _)))
     exact ⟨.inr rfl, _, res_tmp, by rw [checkF_opens (all_no hlt (by simp [okO, hs2]))]; rfl, hx0.trans (y1.trans z2)⟩
    have d21 : cellAt H2 ⟨nx', 1, none⟩ (.int .i64 a.opens[i].2.1) := cell_ext z2 hokG (cell_of hGn rfl)
    have d22 : cellAt H2 ⟨nx', 2, none⟩ (.int .i64 a.opens[i].2.2.1) := cell_ext z2 hokG (cell_of hGn rfl)
    have d23 : cellAt H2 ⟨nx', 3, none⟩ (.int .i64 a.opens[i].2.2.2) := cell_ext z2 hokG (cell_of hGn rfl)
    have dG := cell_ext (y1.trans z2) hokF g1
    repeat (first | (refine OpsL.q (by first | exact omv | exact onot | exact ofa | exact old | exact opkF) ?_) | refine OpsL.ung ?_)
    refine OpsL.c3 (hf := entersKindR) (hc := (kindRC W0 _ _ (hl.ext (y1.trans z2) hokF) hss)) (h := ?_)
    rintro v nx3 H3 ⟨rfl, rfl, rfl⟩
    cases hs3 : kdF ss a.opens[i].2.1 1
    ·repeat (first | (refine OpsL.q (by first | exact omv | exact onot | exact opkT | exact opkF) ?_) | (refine OpsL.nil ?_; (change Trip _ _ _ _ _)) | refine OpsL.ung ?_ | refine OpsL.skp ?_)
     refine Trip.ifT ?_
     repeat (first | refine OpsL.q (by exact oasg) ?_ | refine Trip.seq ?_ | refine Trip.ops ?_ | (refine Trip.ret ?_; ((repeat (refine blockExit_ret ?_)); dsimp only)) | (refine OpsL.nil ?_; (change Trip _ _ _ _ _)))
     exact ⟨.inr rfl, _, res_tmp, by rw [checkF_opens (all_no hlt (by simp [okO, hs3]))]; rfl, hx0.trans (y1.trans z2)⟩
    repeat (first | (refine OpsL.q (by first | exact omv | exact old | exact ofa | exact onot | exact opkF) ?_) | refine OpsL.ung ?_)
    by_cases h1 : a.opens[i].2.2.2 < 1
    ·refine OpsL.lssT ?_ (c := h1)
     repeat (first | (refine OpsL.q (by first | exact omv | exact opkT | exact opkF) ?_) | (refine OpsL.nil ?_; (change Trip _ _ _ _ _)) | refine OpsL.skp ?_)
     refine Trip.ifT ?_
     repeat (first | refine OpsL.q (by exact oasg) ?_ | refine Trip.seq ?_ | refine Trip.ops ?_ | (refine Trip.ret ?_; ((repeat (refine blockExit_ret ?_)); dsimp only)) | (refine OpsL.nil ?_; (change Trip _ _ _ _ _)))
     exact ⟨.inr rfl, _, res_tmp, by rw [checkF_opens (all_no hlt (by simp [okO, btF]; omega))]; rfl, hx0.trans (y1.trans z2)⟩
    refine OpsL.lssF ?_ (c := h1)
    repeat (first | (refine OpsL.q (by first | exact omv | exact old | exact ofa | exact opkF) ?_) | refine OpsL.ung ?_)
    by_cases h2 : a.G < a.opens[i].2.2.2
    ·refine OpsL.gtrT ?_ (c := h2)
     repeat (first | refine OpsL.q (by exact opkF) ?_ | (refine OpsL.nil ?_; (change Trip _ _ _ _ _)))
     refine Trip.ifT ?_
     repeat (first | refine OpsL.q (by exact oasg) ?_ | refine Trip.seq ?_ | refine Trip.ops ?_ | (refine Trip.ret ?_; ((repeat (refine blockExit_ret ?_)); dsimp only)) | (refine OpsL.nil ?_; (change Trip _ _ _ _ _)))
     exact ⟨.inr rfl, _, res_tmp, by rw [checkF_opens (all_no hlt (by simp [okO, btF]; omega))]; rfl, hx0.trans (y1.trans z2)⟩
    refine OpsL.gtrF ?_ (c := h2)
    have hokE : okO ss a a.opens[i] = true := by
     simp [okO, btF, hs1, hs2, hs3]
     omega
    repeat (first | refine OpsL.q (by exact opkF) ?_ | (refine OpsL.nil ?_; (change Trip _ _ _ _ _)))
    refine Trip.ifF ?_
    repeat (first | (refine OpsL.q (by first | exact omv | exact oasg | exact oadd) ?_) | refine Trip.ops ?_ | (refine Trip.skip ?_; ((repeat (refine blockExit_normal ?_)); change Trip _ _ _ _ _)) | (refine OpsL.nil ?_; (dsimp only)))
    exact ⟨i + 1, ⟨_, _, _, rfl, y1.trans z2, by simp [tmPut, *], by simp [tmPut, *], by simp [tmPut, *], by simp [tmPut, *], by omega, all_take hlt hall hokE⟩, by omega⟩
   have hi2 : i = a.opens.length := by omega
   subst hi2
   rw [List.take_length] at hall
   have hAll2 := hall
   have x4 := hext
   clear hall hi hext e5 gl
   repeat (first | refine OpsL.q (by exact oasg) ?_ | refine Trip.seq ?_ | refine Trip.ops ?_ | refine Trip.block ?_ | (refine Trip.exit ?_; ((repeat (refine blockExit_eq ?_)); change Trip _ _ _ _ _)) | (refine OpsL.nil ?_; (change Trip _ _ _ _ _)))
   refine Trip.inv (fun (i : Nat) s => ∃ (tm : Nat → Value) (nx' : Nat) (H' : Heap), s = ⟨tm, n, H', nx'⟩ ∧ Ext (nx + 1) F nx' H' ∧ tm 0 = lv ∧ tm 3 = .pointer (some ⟨nx, 0, none⟩) ∧ tm 4 = .int .i64 0 ∧ tm 9 = .int .i64 i ∧ i ≤ a.closes.length ∧ (a.closes.take i).all (okC ss a) = true) (fun i => a.closes.length - i) 0 ?_ ?_
   ·exact ⟨_, _, _, rfl, x4, by simp [tmPut, *], by simp [tmPut, *], by simp [tmPut, *], by simp [tmPut, *], by omega, rfl⟩
   clear e0 e3 e4 x4
   rintro i s ⟨tm, nx', H', rfl, hext, e0, e3, e4, e5, hi, hall⟩
   have gl := cell_ext hext hokF g5
   refine Trip.ok fun hok' => ?_
   replace hok' : ∀ id o, H' id = some o → id < nx' := hok'
   repeat (first | (refine OpsL.q (by first | exact omv | exact olss | exact olen | exact ofa | exact old) ?_) | refine Trip.seq ?_ | refine Trip.ops ?_ | refine Trip.block ?_ | refine Trip.itA (fun _ => ?_) (fun _ => ?_) | (refine Trip.skip ?_; (change Trip _ _ _ _ _)) | (refine OpsL.nil ?_; (change Trip _ _ _ _ _)))
   ·have hlt : i < a.closes.length := by omega
    obtain ⟨q, hq, hc⟩ := rows_at ha.closes hlt
    rw [hq] at gl
    replace hc := getc_ext hext hokF hc
    repeat (refine OpsL.q (by exact oixa) ?_)
    refine OpsL.q (aop_loadAgg (k := 4) (by simp only [ASt.ev, tmPut, ↓reduceIte, Nat.reduceEqDiff, *]; rfl) (by exact rfl) rfl (by exact rfl) hc) ?_
    refine OpsL.new (by subst_vars; decide) (aop_alloc (l := rep 4 [.int .i64 0]) (by exact rfl)) ?_
    refine OpsL.upd (aop_store (k := 4) (by simp only [ASt.ev, tmPut, ↓reduceIte, Nat.reduceEqDiff, *]; rfl) (by simp only [ASt.ev, tmPut, ↓reduceIte, Nat.reduceEqDiff, *]; rfl) (by exact rfl) rfl (o := .cells (Go.Am.e4 a.closes[i]) 0 none false (some 46)) (by simp [setc, Heap.put, Value.cells, Go.Am.e4, rep, Value.oneCell'])) ?_
    obtain ⟨G, hG⟩ : ∃ G, G = (H'.put nx' (.cells (rep 4 [.int .i64 0]) 0 none false (some 46))).put nx' (.cells (Go.Am.e4 a.closes[i]) 0 none false (some 46)) := ⟨_, rfl⟩
    have y1 : Ext (nx + 1) F (nx' + 1) G := hext.trans (by rw [hG]; exact Ext.newPut.put (Nat.le_refl _))
    have hGn : G nx' = some (.cells (Go.Am.e4 a.closes[i]) 0 none false (some 46)) := by rw [hG, Heap.put_eq]
    have hokG : ∀ id o, G id = some o → id < nx' + 1 := fun id o h => by
     by_cases c : id = nx'
     ·omega
     ·rw [hG, Heap.put_ne c, Heap.put_ne c] at h
      have := hok' id o h
      omega
    change OpsL _ _ _ _ (ASt.mk _ _ ((H'.put nx' (.cells (rep 4 [.int .i64 0]) 0 none false (some 46))).put nx' (.cells (Go.Am.e4 a.closes[i]) 0 none false (some 46))) _) _
    rw [← hG]
    clear hG hok'
    have hB0 : G nx = _ := (y1.2 nx (by omega)).trans hFn
    have d00 : cellAt G ⟨nx', 0, none⟩ (.int .i64 a.closes[i].1) := cell_ext Ext.refl hokG (cell_of hGn rfl)
    repeat (first | refine Trip.seq ?_ | refine Trip.ops ?_ | (refine OpsL.nil ?_; (change Trip _ _ _ _ _)))
    refine OpsL.q (aop_loadAgg (k := 7) (by simp only [ASt.ev, tmPut, ↓reduceIte, Nat.reduceEqDiff, *]; done) (by exact rfl) rfl (by exact rfl) (getc_all hB0 rfl)) ?_
    repeat (refine OpsL.q (by first | exact ofa | exact old) ?_)
    refine OpsL.c2 (hf := entersStateR) (hc := (stateRC W0 _)) (h := ?_)
    rintro v nx1 H1 ⟨rfl, z1⟩
    cases hs1 : stF a.N a.closes[i].1
    ·repeat (first | (refine OpsL.q (by first | exact omv | exact onot | exact opkT) ?_) | (refine OpsL.nil ?_; (change Trip _ _ _ _ _)) | refine OpsL.skp ?_)
     refine Trip.ifT ?_
     repeat (first | refine OpsL.q (by exact oasg) ?_ | refine Trip.seq ?_ | refine Trip.ops ?_ | (refine Trip.ret ?_; ((repeat (refine blockExit_ret ?_)); dsimp only)) | (refine OpsL.nil ?_; (change Trip _ _ _ _ _)))
     exact ⟨.inr rfl, _, res_tmp, by rw [checkF_closes (all_no hlt (by simp [okC, hs1]))]; rfl, hx0.trans (y1.trans z1)⟩
    have hB1 : H1 nx = _ := ((y1.trans z1).2 nx (by omega)).trans hFn
    have d13 : cellAt H1 ⟨nx', 3, none⟩ (.int .i64 a.closes[i].2.2.2) := cell_ext z1 hokG (cell_of hGn rfl)
    repeat (first | (refine OpsL.q (by first | exact omv | exact onot) ?_) | refine OpsL.ung ?_)
    refine OpsL.q (aop_loadAgg (k := 7) (by simp only [ASt.ev, tmPut, ↓reduceIte, Nat.reduceEqDiff, *]; done) (by exact rfl) rfl (by exact rfl) (getc_all hB1 rfl)) ?_
    repeat (first | (refine OpsL.q (by first | exact ofa | exact old) ?_) | refine OpsL.ung ?_)
    refine OpsL.c2 (hf := entersStateR) (hc := (stateRC W0 _)) (h := ?_)
    rintro v nx2 H2 ⟨rfl, z2⟩
    replace z2 := z1.trans z2
    cases hs2 : stF a.N a.closes[i].2.2.2
    ·repeat (first | (refine OpsL.q (by first | exact omv | exact onot | exact opkT | exact opkF) ?_) | (refine OpsL.nil ?_; (change Trip _ _ _ _ _)) | refine OpsL.ung ?_ | refine OpsL.skp ?_)
     refine Trip.ifT ?_
     repeat (first | refine OpsL.q (by exact oasg) ?_ | refine Trip.seq ?_ | refine Trip.ops ?_ | (refine Trip.ret ?_; ((repeat (refine blockExit_ret ?_)); dsimp only)) | (refine OpsL.nil ?_; (change Trip _ _ _ _ _)))
     exact ⟨.inr rfl, _, res_tmp, by rw [checkF_closes (all_no hlt (by simp [okC, hs2]))]; rfl, hx0.trans (y1.trans z2)⟩
    have d21 : cellAt H2 ⟨nx', 1, none⟩ (.int .i64 a.closes[i].2.1) := cell_ext z2 hokG (cell_of hGn rfl)
    have d22 : cellAt H2 ⟨nx', 2, none⟩ (.int .i64 a.closes[i].2.2.1) := cell_ext z2 hokG (cell_of hGn rfl)
    have d23 : cellAt H2 ⟨nx', 3, none⟩ (.int .i64 a.closes[i].2.2.2) := cell_ext z2 hokG (cell_of hGn rfl)
    have dG := cell_ext (y1.trans z2) hokF g1
    repeat (first | (refine OpsL.q (by first | exact omv | exact onot | exact ofa | exact old | exact opkF) ?_) | refine OpsL.ung ?_)
    refine OpsL.c3 (hf := entersKindR) (hc := (kindRC W0 _ _ (hl.ext (y1.trans z2) hokF) hss)) (h := ?_)
    rintro v nx3 H3 ⟨rfl, rfl, rfl⟩
    cases hs3 : kdF ss a.closes[i].2.1 2
    ·repeat (first | (refine OpsL.q (by first | exact omv | exact onot | exact opkT | exact opkF) ?_) | (refine OpsL.nil ?_; (change Trip _ _ _ _ _)) | refine OpsL.ung ?_ | refine OpsL.skp ?_)
     refine Trip.ifT ?_
     repeat (first | refine OpsL.q (by exact oasg) ?_ | refine Trip.seq ?_ | refine Trip.ops ?_ | (refine Trip.ret ?_; ((repeat (refine blockExit_ret ?_)); dsimp only)) | (refine OpsL.nil ?_; (change Trip _ _ _ _ _)))
     exact ⟨.inr rfl, _, res_tmp, by rw [checkF_closes (all_no hlt (by simp [okC, hs3]))]; rfl, hx0.trans (y1.trans z2)⟩
    repeat (first | (refine OpsL.q (by first | exact omv | exact old | exact ofa | exact onot | exact opkF) ?_) | refine OpsL.ung ?_)
    by_cases h1 : a.closes[i].2.2.1 < 0
    ·refine OpsL.lssT ?_ (c := h1)
     repeat (first | (refine OpsL.q (by first | exact omv | exact opkT | exact opkF) ?_) | (refine OpsL.nil ?_; (change Trip _ _ _ _ _)) | refine OpsL.skp ?_)
     refine Trip.ifT ?_
     repeat (first | refine OpsL.q (by exact oasg) ?_ | refine Trip.seq ?_ | refine Trip.ops ?_ | (refine Trip.ret ?_; ((repeat (refine blockExit_ret ?_)); dsimp only)) | (refine OpsL.nil ?_; (change Trip _ _ _ _ _)))
     exact ⟨.inr rfl, _, res_tmp, by rw [checkF_closes (all_no hlt (by simp [okC, btF]; omega))]; rfl, hx0.trans (y1.trans z2)⟩
    refine OpsL.lssF ?_ (c := h1)
    repeat (first | (refine OpsL.q (by first | exact omv | exact old | exact ofa | exact opkF) ?_) | refine OpsL.ung ?_)
    by_cases h2 : a.G < a.closes[i].2.2.1
    ·refine OpsL.gtrT ?_ (c := h2)
     repeat (first | refine OpsL.q (by exact opkF) ?_ | (refine OpsL.nil ?_; (change Trip _ _ _ _ _)))
     refine Trip.ifT ?_
     repeat (first | refine OpsL.q (by exact oasg) ?_ | refine Trip.seq ?_ | refine Trip.ops ?_ | (refine Trip.ret ?_; ((repeat (refine blockExit_ret ?_)); dsimp only)) | (refine OpsL.nil ?_; (change Trip _ _ _ _ _)))
     exact ⟨.inr rfl, _, res_tmp, by rw [checkF_closes (all_no hlt (by simp [okC, btF]; omega))]; rfl, hx0.trans (y1.trans z2)⟩
    refine OpsL.gtrF ?_ (c := h2)
    have hokE : okC ss a a.closes[i] = true := by
     simp [okC, btF, hs1, hs2, hs3]
     omega
    repeat (first | refine OpsL.q (by exact opkF) ?_ | (refine OpsL.nil ?_; (change Trip _ _ _ _ _)))
    refine Trip.ifF ?_
    repeat (first | (refine OpsL.q (by first | exact omv | exact oasg | exact oadd) ?_) | refine Trip.ops ?_ | (refine Trip.skip ?_; ((repeat (refine blockExit_normal ?_)); change Trip _ _ _ _ _)) | (refine OpsL.nil ?_; (dsimp only)))
    exact ⟨i + 1, ⟨_, _, _, rfl, y1.trans z2, by simp [tmPut, *], by simp [tmPut, *], by simp [tmPut, *], by simp [tmPut, *], by omega, all_take hlt hall hokE⟩, by omega⟩
   have hi2 : i = a.closes.length := by omega
   subst hi2
   rw [List.take_length] at hall
   have hAll3 := hall
   have x5 := hext
   clear hall hi hext e5 gl
   repeat (first | refine OpsL.q (by exact oasg) ?_ | refine Trip.seq ?_ | refine Trip.ops ?_ | refine Trip.block ?_ | (refine Trip.exit ?_; ((repeat (refine blockExit_eq ?_)); change Trip _ _ _ _ _)) | (refine OpsL.nil ?_; (change Trip _ _ _ _ _)))
   refine Trip.inv (fun (i : Nat) s => ∃ (tm : Nat → Value) (nx' : Nat) (H' : Heap), s = ⟨tm, n, H', nx'⟩ ∧ Ext (nx + 1) F nx' H' ∧ tm 0 = lv ∧ tm 3 = .pointer (some ⟨nx, 0, none⟩) ∧ tm 4 = .int .i64 0 ∧ tm 11 = .int .i64 i ∧ i ≤ a.inners.length ∧ (a.inners.take i).all (okI ss a) = true) (fun i => a.inners.length - i) 0 ?_ ?_
   ·exact ⟨_, _, _, rfl, x5, by simp [tmPut, *], by simp [tmPut, *], by simp [tmPut, *], by simp [tmPut, *], by omega, rfl⟩
   clear e0 e3 e4 x5
   rintro i s ⟨tm, nx', H', rfl, hext, e0, e3, e4, e5, hi, hall⟩
   have gl := cell_ext hext hokF g6
   refine Trip.ok fun hok' => ?_
   replace hok' : ∀ id o, H' id = some o → id < nx' := hok'
   repeat (first | (refine OpsL.q (by first | exact omv | exact olss | exact olen | exact ofa | exact old) ?_) | refine Trip.seq ?_ | refine Trip.ops ?_ | refine Trip.block ?_ | refine Trip.itA (fun _ => ?_) (fun _ => ?_) | (refine Trip.skip ?_; (change Trip _ _ _ _ _)) | (refine OpsL.nil ?_; (change Trip _ _ _ _ _)))
   ·have hlt : i < a.inners.length := by omega
    obtain ⟨q, hq, hc⟩ := rows_at ha.inners hlt
    rw [hq] at gl
    replace hc := getc_ext hext hokF hc
    repeat (refine OpsL.q (by exact oixa) ?_)
    refine OpsL.q (aop_loadAgg (k := 3) (by simp only [ASt.ev, tmPut, ↓reduceIte, Nat.reduceEqDiff, *]; rfl) (by exact rfl) rfl (by exact rfl) hc) ?_
    refine OpsL.new (by subst_vars; decide) (aop_alloc (l := rep 3 [.int .i64 0]) (by exact rfl)) ?_
    refine OpsL.upd (aop_store (k := 3) (by simp only [ASt.ev, tmPut, ↓reduceIte, Nat.reduceEqDiff, *]; rfl) (by simp only [ASt.ev, tmPut, ↓reduceIte, Nat.reduceEqDiff, *]; rfl) (by exact rfl) rfl (o := .cells (Go.Am.e3 a.inners[i]) 0 none false (some 48)) (by simp [setc, Heap.put, Value.cells, Go.Am.e3, rep, Value.oneCell'])) ?_
    obtain ⟨G, hG⟩ : ∃ G, G = (H'.put nx' (.cells (rep 3 [.int .i64 0]) 0 none false (some 48))).put nx' (.cells (Go.Am.e3 a.inners[i]) 0 none false (some 48)) := ⟨_, rfl⟩
    have y1 : Ext (nx + 1) F (nx' + 1) G := hext.trans (by rw [hG]; exact Ext.newPut.put (Nat.le_refl _))
    have hGn : G nx' = some (.cells (Go.Am.e3 a.inners[i]) 0 none false (some 48)) := by rw [hG, Heap.put_eq]
    have hokG : ∀ id o, G id = some o → id < nx' + 1 := fun id o h => by
     by_cases c : id = nx'
     ·omega
     ·rw [hG, Heap.put_ne c, Heap.put_ne c] at h
      have := hok' id o h
      omega
    change OpsL _ _ _ _ (ASt.mk _ _ ((H'.put nx' (.cells (rep 3 [.int .i64 0]) 0 none false (some 48))).put nx' (.cells (Go.Am.e3 a.inners[i]) 0 none false (some 48))) _) _
    rw [← hG]
    clear hG hok'
    have hB0 : G nx = _ := (y1.2 nx (by omega)).trans hFn
    have d00 : cellAt G ⟨nx', 0, none⟩ (.int .i64 a.inners[i].1) := cell_ext Ext.refl hokG (cell_of hGn rfl)
    repeat (first | refine Trip.seq ?_ | refine Trip.ops ?_ | (refine OpsL.nil ?_; (change Trip _ _ _ _ _)))
    refine OpsL.q (aop_loadAgg (k := 7) (by simp only [ASt.ev, tmPut, ↓reduceIte, Nat.reduceEqDiff, *]; done) (by exact rfl) rfl (by exact rfl) (getc_all hB0 rfl)) ?_
    repeat (refine OpsL.q (by first | exact ofa | exact old) ?_)
    refine OpsL.c2 (hf := entersStateR) (hc := (stateRC W0 _)) (h := ?_)
    rintro v nx1 H1 ⟨rfl, z1⟩
    cases hs1 : stF a.N a.inners[i].1
    ·repeat (first | (refine OpsL.q (by first | exact omv | exact onot | exact opkT) ?_) | (refine OpsL.nil ?_; (change Trip _ _ _ _ _)) | refine OpsL.skp ?_)
     refine Trip.ifT ?_
     repeat (first | refine OpsL.q (by exact oasg) ?_ | refine Trip.seq ?_ | refine Trip.ops ?_ | (refine Trip.ret ?_; ((repeat (refine blockExit_ret ?_)); dsimp only)) | (refine OpsL.nil ?_; (change Trip _ _ _ _ _)))
     exact ⟨.inr rfl, _, res_tmp, by rw [checkF_inners (all_no hlt (by simp [okI, hs1]))]; rfl, hx0.trans (y1.trans z1)⟩
    have hB1 : H1 nx = _ := ((y1.trans z1).2 nx (by omega)).trans hFn
    have d12 : cellAt H1 ⟨nx', 2, none⟩ (.int .i64 a.inners[i].2.2) := cell_ext z1 hokG (cell_of hGn rfl)
    repeat (first | (refine OpsL.q (by first | exact omv | exact onot) ?_) | refine OpsL.ung ?_)
    refine OpsL.q (aop_loadAgg (k := 7) (by simp only [ASt.ev, tmPut, ↓reduceIte, Nat.reduceEqDiff, *]; done) (by exact rfl) rfl (by exact rfl) (getc_all hB1 rfl)) ?_
    repeat (first | (refine OpsL.q (by first | exact ofa | exact old) ?_) | refine OpsL.ung ?_)
    refine OpsL.c2 (hf := entersStateR) (hc := (stateRC W0 _)) (h := ?_)
    rintro v nx2 H2 ⟨rfl, z2⟩
    replace z2 := z1.trans z2
    cases hs2 : stF a.N a.inners[i].2.2
    ·repeat (first | (refine OpsL.q (by first | exact omv | exact onot | exact opkT | exact opkF) ?_) | (refine OpsL.nil ?_; (change Trip _ _ _ _ _)) | refine OpsL.ung ?_ | refine OpsL.skp ?_)
     refine Trip.ifT ?_
     repeat (first | refine OpsL.q (by exact oasg) ?_ | refine Trip.seq ?_ | refine Trip.ops ?_ | (refine Trip.ret ?_; ((repeat (refine blockExit_ret ?_)); dsimp only)) | (refine OpsL.nil ?_; (change Trip _ _ _ _ _)))
     exact ⟨.inr rfl, _, res_tmp, by rw [checkF_inners (all_no hlt (by simp [okI, hs2]))]; rfl, hx0.trans (y1.trans z2)⟩
    have d21 : cellAt H2 ⟨nx', 1, none⟩ (.int .i64 a.inners[i].2.1) := cell_ext z2 hokG (cell_of hGn rfl)
    have d22 : cellAt H2 ⟨nx', 2, none⟩ (.int .i64 a.inners[i].2.2) := cell_ext z2 hokG (cell_of hGn rfl)
    have dG := cell_ext (y1.trans z2) hokF g1
    repeat (first | (refine OpsL.q (by first | exact omv | exact onot | exact ofa | exact old | exact opkF) ?_) | refine OpsL.ung ?_)
    refine OpsL.c3 (hf := entersKindR) (hc := (kindRC W0 _ _ (hl.ext (y1.trans z2) hokF) hss)) (h := ?_)
    rintro v nx3 H3 ⟨rfl, rfl, rfl⟩
    cases hs3 : kdF ss a.inners[i].2.1 3
    ·repeat (first | (refine OpsL.q (by first | exact onot | exact opkF) ?_) | (refine OpsL.nil ?_; (change Trip _ _ _ _ _)) | refine OpsL.ung ?_)
     refine Trip.ifT ?_
     repeat (first | refine OpsL.q (by exact oasg) ?_ | refine Trip.seq ?_ | refine Trip.ops ?_ | (refine Trip.ret ?_; ((repeat (refine blockExit_ret ?_)); dsimp only)) | (refine OpsL.nil ?_; (change Trip _ _ _ _ _)))
     exact ⟨.inr rfl, _, res_tmp, by rw [checkF_inners (all_no hlt (by simp [okI, hs3]))]; rfl, hx0.trans (y1.trans z2)⟩
    have hokE : okI ss a a.inners[i] = true := by simp [okI, hs1, hs2, hs3]
    repeat (first | (refine OpsL.q (by first | exact onot | exact opkF) ?_) | (refine OpsL.nil ?_; (change Trip _ _ _ _ _)) | refine OpsL.ung ?_)
    refine Trip.ifF ?_
    repeat (first | (refine OpsL.q (by first | exact omv | exact oasg | exact oadd) ?_) | refine Trip.ops ?_ | (refine Trip.skip ?_; ((repeat (refine blockExit_normal ?_)); change Trip _ _ _ _ _)) | (refine OpsL.nil ?_; (dsimp only)))
    exact ⟨i + 1, ⟨_, _, _, rfl, y1.trans z2, by simp [tmPut, *], by simp [tmPut, *], by simp [tmPut, *], by simp [tmPut, *], by omega, all_take hlt hall hokE⟩, by omega⟩
   have hi2 : i = a.inners.length := by omega
   subst hi2
   rw [List.take_length] at hall
   repeat (first | refine OpsL.q (by exact oasg) ?_ | refine Trip.seq ?_ | refine Trip.ops ?_ | (refine Trip.exit ?_; ((repeat (refine blockExit_eq ?_)); change Trip _ _ _ _ _)) | (refine Trip.ret ?_; (dsimp only)) | (refine OpsL.nil ?_; (change Trip _ _ _ _ _)))
   exact ⟨.inr rfl, _, res_tmp, by rw [checkF_yes hz hAll hAll2 hAll3 hall]; rfl, hx0.trans hext⟩
end Go.Proofs.YtjohiaoepbnicaaGreat
namespace Go.Proofs.YtjohiaoepbnicaaGreat
set_option linter.unusedSimpArgs false
set_option linter.unusedVariables false
open Go.RowKit Go.Am
theorem posI_at : ∀ (l : List Int) (x : Int) (i p : Nat), posI l x i = some p → ∃ h : p - i < l.length, l[p - i] = x ∧ i ≤ p := by
 intro l
 induction l with
 | nil => intro x i p h; cases h
 | cons y l ih =>
  intro x i p h
  by_cases e : x = y
  ·subst e
   simp [posI] at h
   subst h
   exact ⟨by simp, by simp, Nat.le_refl _⟩
  ·simp only [posI, e, if_false] at h
   obtain ⟨h1, h2, h3⟩ := ih x (i + 1) p h
   refine ⟨by simp only [List.length_cons]; omega, ?_, by omega⟩
   have : p - i = (p - (i + 1)) + 1 := by omega
   simp only [this, List.getElem_cons_succ]
   exact h2
theorem numO_at {L : List Int} {x y : Int} (h : numO L x = some y) : ∃ p : Nat, y = p ∧ ∃ h : p < L.length, L[p] = x := by
 unfold numO at h
 cases hp : posI L x 0 with
 | none => rw [hp] at h; cases h
 | some p =>
  rw [hp] at h
  cases h
  obtain ⟨h1, h2, _⟩ := posI_at L x 0 p hp
  exact ⟨p, rfl, h1, h2⟩
theorem numO_inj {L : List Int} {x x' y : Int} (h : numO L x = some y) (h' : numO L x' = some y) : x = x' := by
 obtain ⟨p, rfl, h1, h2⟩ := numO_at h
 obtain ⟨q, e, h3, h4⟩ := numO_at h'
 have : p = q := by omega
 subst this
 exact h2.symm.trans h4
theorem nums_has {a : Aut} {k : Int} {L : List Int} (h : NumsOf a k L) {x : Int} (hx : ReachT a (k, x)) : ∃ y, numO L x = some y ∧ 0 ≤ y ∧ y < L.length := by
 obtain ⟨p, _, e⟩ := numO_mem h.1 ((h.2 x).2 hx)
 exact ⟨_, e, (numO_lt e).2⟩
theorem nums_of {a : Aut} {k : Int} {L : List Int} (h : NumsOf a k L) {x y : Int} (hx : numO L x = some y) : ReachT a (k, x) := (h.2 x).1 (numO_lt hx).1
theorem st_of {N s : Int} (h : stF N s = true) : 0 ≤ s ∧ s < N := by
 simpa [stF] using h
theorem bt_of {n a b : Int} (h : btF n a b = true) : a ≤ n ∧ n ≤ b := by
 simpa [btF] using h
section
variable {ss : List (ByteArray × Int)} {most : Int} {a : Aut} {i : Nat} (h : GoodM ss most a i)
include h
theorem good_o {r : R4} (hr : r ∈ a.opens) : (0 ≤ r.1 ∧ r.1 < a.N) ∧ kdF ss r.2.1 1 = true ∧ (0 ≤ r.2.2.1 ∧ r.2.2.1 < a.N) ∧ 1 ≤ r.2.2.2 ∧ r.2.2.2 ≤ a.G := by
 have := List.all_eq_true.1 h.opens r hr
 simp only [okO, Bool.and_eq_true] at this
 exact ⟨st_of this.1.1.1, this.1.1.2, st_of this.1.2, bt_of this.2⟩
theorem good_c {r : R4} (hr : r ∈ a.closes) : (0 ≤ r.1 ∧ r.1 < a.N) ∧ kdF ss r.2.1 2 = true ∧ (0 ≤ r.2.2.2 ∧ r.2.2.2 < a.N) ∧ 0 ≤ r.2.2.1 ∧ r.2.2.1 ≤ a.G := by
 have := List.all_eq_true.1 h.closes r hr
 simp only [okC, Bool.and_eq_true] at this
 exact ⟨st_of this.1.1.1, this.1.1.2, st_of this.1.2, bt_of this.2⟩
theorem good_n {r : R3} (hr : r ∈ a.inners) : (0 ≤ r.1 ∧ r.1 < a.N) ∧ kdF ss r.2.1 3 = true ∧ (0 ≤ r.2.2 ∧ r.2.2 < a.N) := by
 have := List.all_eq_true.1 h.inners r hr
 simp only [okI, Bool.and_eq_true] at this
 exact ⟨st_of this.1.1, this.1.2, st_of this.2⟩
theorem moves_good {m : R4} (hm : m ∈ movesA a) : (0 ≤ m.2.2.1 ∧ m.2.2.1 < a.N) ∧ 0 ≤ m.2.2.2 ∧ m.2.2.2 ≤ a.G := by
 have := h.G0
 simp only [movesA, List.mem_append, List.mem_map] at hm
 rcases hm with (⟨r, hr, rfl⟩ | ⟨r, hr, rfl⟩) | ⟨r, hr, rfl⟩
 ·have := good_o h hr; simp only [moveO]; omega
 ·have := good_c h hr; simp only [moveC]; omega
 ·have := good_n h hr; simp only [moveN]; omega
theorem reach_st {x : Int} (hx : ReachT a (0, x)) : 0 ≤ x ∧ x < a.N := by
 rcases reach_state hx with q | ⟨m, hm, _, rfl⟩
 ·exact st_of (List.all_eq_true.1 h.init x q)
 ·exact (moves_good h hm).1
theorem reach_mk {x : Int} (hx : ReachT a (1, x)) : 0 ≤ x ∧ x ≤ a.G := by
 have := h.G0
 rcases reach_mark hx with rfl | ⟨m, hm, _, rfl⟩
 ·omega
 ·exact (moves_good h hm).2
end
theorem rise_len {l : List Int} {n : Nat} (h : l.Pairwise (· < ·)) (hb : ∀ x ∈ l, 0 ≤ x ∧ x < n) : l.length ≤ n := by
 have := nodup_sub l ((List.range n).map fun (j : Nat) => (j : Int)) (by
  rw [List.nodup_iff_pairwise_ne]
  exact h.imp fun {x y} hlt e => by omega) (fun x hx => by
  obtain ⟨h1, h2⟩ := hb x hx
  exact List.mem_map.2 ⟨x.toNat, List.mem_range.2 (by omega), by omega⟩)
 simpa using this
section
variable {ss : List (ByteArray × Int)} {most : Int} {a : Aut} {i : Nat} {L0 L1 : List Int} (h : GoodM ss most a i) (h0 : NumsOf a 0 L0) (h1 : NumsOf a 1 L1)
include h h0 in
theorem trim_N : (L0.length : Int) ≤ a.N := by
 have := rise_len (n := a.N.toNat) h0.1 fun x hx => by have := reach_st h ((h0.2 x).1 hx); omega
 have := h.N0
 omega
include h h1 in
theorem trim_G : 1 ≤ L1.length ∧ (L1.length : Int) ≤ a.G + 1 := by
 have hm : (0 : Int) ∈ L1 := (h1.2 0).2 .bot
 have := rise_len (n := a.G.toNat + 1) h1.1 fun x hx => by have := reach_mk h ((h1.2 x).1 hx); omega
 have := h.G0
 have := List.length_pos_of_mem hm
 omega
include h h1 in
theorem bot_num : numO L1 0 = some 0 := by
 obtain ⟨p, hp, e⟩ := numO_mem h1.1 ((h1.2 0).2 .bot)
 obtain ⟨q, e2, hq, e3⟩ := numO_at e
 have hpq : p = q := by omega
 subst hpq
 rw [e]
 by_cases hp0 : p = 0
 ·subst hp0; rfl
 ·exfalso
  have hlt := List.pairwise_iff_getElem.1 h1.1 0 p (by omega) hp (by omega)
  have hge := reach_mk h ((h1.2 L1[0]).1 (List.getElem_mem _))
  omega
include h h0 h1 in
theorem trim_o {r : R4} (hr : r ∈ a.opens) {f : Int} (hf : numO L0 r.1 = some f) : ∃ y z, numO L0 r.2.2.1 = some y ∧ numO L1 r.2.2.2 = some z ∧ trimO L0 L1 r = some (f, r.2.1, y, z) ∧ (0 ≤ f ∧ f < L0.length) ∧ (0 ≤ y ∧ y < L0.length) ∧ 1 ≤ z ∧ z < L1.length := by
 have hm : moveO r ∈ movesA a := by simp only [movesA, List.mem_append, List.mem_map]; exact .inl (.inl ⟨r, hr, rfl⟩)
 have hn : ∀ u ∈ needsT (moveO r), ReachT a u := fun u hu => by
  simp only [needsT, moveO, List.mem_cons, List.not_mem_nil, or_false] at hu
  rcases hu with rfl | rfl
  ·exact nums_of h0 hf
  ·exact .bot
 obtain ⟨y, e1, hy⟩ := nums_has h0 (x := r.2.2.1) (.step hm hn (by simp [givesT, moveO]))
 obtain ⟨z, e2, hz⟩ := nums_has h1 (x := r.2.2.2) (.step hm hn (by simp [givesT, moveO]))
 refine ⟨y, z, e1, e2, by simp [trimO, hf, e1, e2], (numO_lt hf).2, hy, ?_, hz.2⟩
 by_cases hz0 : z = 0
 ·subst hz0
  have := numO_inj e2 (bot_num h h1)
  have := good_o h hr
  omega
 ·omega
include h0 h1 in
theorem trim_c {r : R4} (hr : r ∈ a.closes) {f t : Int} (hf : numO L0 r.1 = some f) (ht : numO L1 r.2.2.1 = some t) : ∃ y, numO L0 r.2.2.2 = some y ∧ trimC L0 L1 r = some (f, r.2.1, t, y) ∧ (0 ≤ f ∧ f < L0.length) ∧ (0 ≤ y ∧ y < L0.length) ∧ 0 ≤ t ∧ t < L1.length := by
 have hm : moveC r ∈ movesA a := by simp only [movesA, List.mem_append, List.mem_map]; exact .inl (.inr ⟨r, hr, rfl⟩)
 have hn : ∀ u ∈ needsT (moveC r), ReachT a u := fun u hu => by
  simp only [needsT, moveC, List.mem_cons, List.not_mem_nil, or_false] at hu
  rcases hu with rfl | rfl
  ·exact nums_of h0 hf
  ·exact nums_of h1 ht
 obtain ⟨y, e1, hy⟩ := nums_has h0 (x := r.2.2.2) (.step hm hn (by simp [givesT, moveC]))
 exact ⟨y, e1, by simp [trimC, hf, ht, e1], (numO_lt hf).2, hy, (numO_lt ht).2⟩
include h0 in
theorem trim_n {r : R3} (hr : r ∈ a.inners) {f : Int} (hf : numO L0 r.1 = some f) : ∃ y, numO L0 r.2.2 = some y ∧ trimN L0 r = some (f, r.2.1, y) ∧ (0 ≤ f ∧ f < L0.length) ∧ (0 ≤ y ∧ y < L0.length) := by
 have hm : moveN r ∈ movesA a := by simp only [movesA, List.mem_append, List.mem_map]; exact .inr ⟨r, hr, rfl⟩
 have hn : ∀ u ∈ needsT (moveN r), ReachT a u := fun u hu => by
  simp only [needsT, moveN, List.mem_cons, List.not_mem_nil, or_false] at hu
  rcases hu with rfl | rfl
  ·exact nums_of h0 hf
  ·exact .bot
 obtain ⟨y, e1, hy⟩ := nums_has h0 (x := r.2.2) (.step hm hn (by simp [givesT, moveN]))
 exact ⟨y, e1, by simp [trimN, hf, e1], (numO_lt hf).2, hy⟩
include h h0 h1 in
theorem trimO_mem {t : R4} (ht : t ∈ (trimB a L0 L1).opens) : ∃ r ∈ a.opens, numO L0 r.1 = some t.1 ∧ r.2.1 = t.2.1 ∧ numO L0 r.2.2.1 = some t.2.2.1 ∧ numO L1 r.2.2.2 = some t.2.2.2 ∧ (0 ≤ t.1 ∧ t.1 < L0.length) ∧ (0 ≤ t.2.2.1 ∧ t.2.2.1 < L0.length) ∧ 1 ≤ t.2.2.2 ∧ t.2.2.2 < L1.length := by
 obtain ⟨r, hr, e⟩ := List.mem_filterMap.1 ht
 cases hf : numO L0 r.1 with
 | none => simp [trimO, hf] at e
 | some f =>
  obtain ⟨y, z, e1, e2, e3, h3, h4, h5⟩ := trim_o h h0 h1 hr hf
  rw [e3] at e
  cases e
  exact ⟨r, hr, hf, rfl, e1, e2, h3, h4, h5⟩
include h0 h1 in
theorem trimC_mem {t : R4} (ht : t ∈ (trimB a L0 L1).closes) : ∃ r ∈ a.closes, numO L0 r.1 = some t.1 ∧ r.2.1 = t.2.1 ∧ numO L1 r.2.2.1 = some t.2.2.1 ∧ numO L0 r.2.2.2 = some t.2.2.2 ∧ (0 ≤ t.1 ∧ t.1 < L0.length) ∧ (0 ≤ t.2.2.2 ∧ t.2.2.2 < L0.length) ∧ 0 ≤ t.2.2.1 ∧ t.2.2.1 < L1.length := by
 obtain ⟨r, hr, e⟩ := List.mem_filterMap.1 ht
 cases hf : numO L0 r.1 with
 | none => simp [trimC, hf] at e
 | some f =>
  cases hg : numO L1 r.2.2.1 with
  | none => simp [trimC, hf, hg] at e
  | some g =>
   obtain ⟨y, e1, e3, h3, h4, h5⟩ := trim_c h0 h1 hr hf hg
   rw [e3] at e
   cases e
   exact ⟨r, hr, hf, rfl, hg, e1, h3, h4, h5⟩
include h0 in
theorem trimN_mem {t : R3} (ht : t ∈ (trimB a L0 L1).inners) : ∃ r ∈ a.inners, numO L0 r.1 = some t.1 ∧ r.2.1 = t.2.1 ∧ numO L0 r.2.2 = some t.2.2 ∧ (0 ≤ t.1 ∧ t.1 < L0.length) ∧ (0 ≤ t.2.2 ∧ t.2.2 < L0.length) := by
 obtain ⟨r, hr, e⟩ := List.mem_filterMap.1 ht
 cases hf : numO L0 r.1 with
 | none => simp [trimN, hf] at e
 | some f =>
  obtain ⟨y, e1, e3, h3, h4⟩ := trim_n h0 hr hf
  rw [e3] at e
  cases e
  exact ⟨r, hr, hf, rfl, e1, h3, h4⟩
theorem kept_mem {L l : List Int} {y : Int} (h : y ∈ keptF L l) : ∃ x ∈ l, numO L x = some y := List.mem_filterMap.1 h
include h h0 h1 in
theorem trim_check (hm : most ≤ 200) (hi : i ≤ 1000) : checkF ss (normA (trimB a L0 L1)) = true := by
 have hN := trim_N h h0
 obtain ⟨g1, g2⟩ := trim_G h h1
 have l0 := h.N1
 have l1 := h.G1
 have ⟨n1, n2, n3, n4, n5⟩ := h.len
 have k3 : (tidyL lt4 (trimB a L0 L1).opens).length ≤ 1000 := Nat.le_trans (tidyL_len _) (Nat.le_trans (List.length_filterMap_le _ _) (by omega))
 have k4 : (tidyL lt4 (trimB a L0 L1).closes).length ≤ 1000 := Nat.le_trans (tidyL_len _) (Nat.le_trans (List.length_filterMap_le _ _) (by omega))
 have k5 : (tidyL lt3 (trimB a L0 L1).inners).length ≤ 1000 := Nat.le_trans (tidyL_len _) (Nat.le_trans (List.length_filterMap_le _ _) (by omega))
 have hst : ∀ x : Int, 0 ≤ x → x < L0.length → stF (normA (trimB a L0 L1)).N x = true := fun x hx hy => by
  show (decide (0 ≤ x) && decide (x < (L0.length : Int))) = true
  rw [decide_eq_true hx, decide_eq_true hy]; rfl
 unfold checkF
 simp only [Bool.and_eq_true]
 refine ⟨⟨⟨⟨⟨?_, ?_⟩, ?_⟩, ?_⟩, ?_⟩, ?_⟩
 ·simp only [sizeF, btF, Bool.and_eq_true, decide_eq_true_eq]
  refine ⟨⟨⟨?_, ?_⟩, ?_, ?_⟩, ?_⟩
  ·show (0 : Int) ≤ L0.length; omega
  ·show (L0.length : Int) ≤ 200; omega
  ·show (0 : Int) ≤ (L1.length : Int) - 1; omega
  ·show (L1.length : Int) - 1 ≤ 10000; omega
  ·show ((((tidyL lt4 (trimB a L0 L1).opens).length : Int) + (tidyL lt4 (trimB a L0 L1).closes).length) + (tidyL lt3 (trimB a L0 L1).inners).length) ≤ 100000
   omega
 ·refine List.all_eq_true.2 fun x hx => ?_
  obtain ⟨s, _, e⟩ := kept_mem ((tidyL_mem x _).1 hx)
  exact hst x (numO_lt e).2.1 (numO_lt e).2.2
 ·refine List.all_eq_true.2 fun x hx => ?_
  obtain ⟨s, _, e⟩ := kept_mem ((tidyL_mem x _).1 hx)
  exact hst x (numO_lt e).2.1 (numO_lt e).2.2
 ·refine List.all_eq_true.2 fun t ht => ?_
  obtain ⟨r, hr, e1, e2, e3, e4, q1, q2, q3⟩ := trimO_mem h h0 h1 ((tidyL_mem t _).1 ht)
  simp only [okO, hst _ q1.1 q1.2, hst _ q2.1 q2.2, ← e2, (good_o h hr).2.1, Bool.true_and, Bool.and_true, btF, Bool.and_eq_true, decide_eq_true_eq]
  exact ⟨q3.1, by show t.2.2.2 ≤ (L1.length : Int) - 1; omega⟩
 ·refine List.all_eq_true.2 fun t ht => ?_
  obtain ⟨r, hr, e1, e2, e3, e4, q1, q2, q3⟩ := trimC_mem h0 h1 ((tidyL_mem t _).1 ht)
  simp only [okC, hst _ q1.1 q1.2, hst _ q2.1 q2.2, ← e2, (good_c h hr).2.1, Bool.true_and, Bool.and_true, btF, Bool.and_eq_true, decide_eq_true_eq]
  exact ⟨q3.1, by show t.2.2.1 ≤ (L1.length : Int) - 1; omega⟩
 ·refine List.all_eq_true.2 fun t ht => ?_
  obtain ⟨r, hr, e1, e2, e3, q1, q2⟩ := trimN_mem h0 ((tidyL_mem t _).1 ht)
  simp only [okI, hst _ q1.1 q1.2, hst _ q2.1 q2.2, ← e2, (good_n h hr).2.1, Bool.true_and, Bool.and_true]
include h h0 h1 in
theorem trim_reached {p : Nat} (hp : p < L0.length) : (p : Int) ∈ (normA (trimB a L0 L1)).init ∨ (∃ t ∈ (normA (trimB a L0 L1)).opens, t.2.2.1 = p) ∨ (∃ t ∈ (normA (trimB a L0 L1)).closes, t.2.2.2 = p) ∨ ∃ t ∈ (normA (trimB a L0 L1)).inners, t.2.2 = p := by
 have hget := numO_get h0.1 hp
 rcases reach_state ((h0.2 L0[p]).1 (List.getElem_mem hp)) with hx | ⟨m, hm, hn, e⟩
 ·exact .inl ((tidyL_mem _ _).2 (List.mem_filterMap.2 ⟨_, hx, hget⟩))
 ·have h00 := hn (0, m.1) (by simp [needsT])
  have h11 := hn (1, m.2.1) (by simp [needsT])
  obtain ⟨f, hf, _⟩ := nums_has h0 h00
  obtain ⟨g, hg, _⟩ := nums_has h1 h11
  simp only [movesA, List.mem_append, List.mem_map] at hm
  rcases hm with (⟨r, hr, rfl⟩ | ⟨r, hr, rfl⟩) | ⟨r, hr, rfl⟩
  ·obtain ⟨y, z, e1, _, e3, _⟩ := trim_o h h0 h1 hr hf
   rw [show r.2.2.1 = L0[p] from e, hget] at e1
   cases e1
   exact .inr (.inl ⟨_, (tidyL_mem _ _).2 (List.mem_filterMap.2 ⟨r, hr, e3⟩), rfl⟩)
  ·obtain ⟨y, e1, e3, _⟩ := trim_c h0 h1 hr hf hg
   rw [show r.2.2.2 = L0[p] from e, hget] at e1
   cases e1
   exact .inr (.inr (.inl ⟨_, (tidyL_mem _ _).2 (List.mem_filterMap.2 ⟨r, hr, e3⟩), rfl⟩))
  ·obtain ⟨y, e1, e3, _⟩ := trim_n h0 hr hf
   rw [show r.2.2 = L0[p] from e, hget] at e1
   cases e1
   exact .inr (.inr (.inr ⟨_, (tidyL_mem _ _).2 (List.mem_filterMap.2 ⟨r, hr, e3⟩), rfl⟩))
include h h0 h1 in
theorem trim_pushed {p : Nat} (hp : p < L1.length) (hp1 : 1 ≤ p) : ∃ t ∈ (normA (trimB a L0 L1)).opens, t.2.2.2 = p := by
 have hget := numO_get h1.1 hp
 have hne : L1[p] ≠ 0 := fun e => by
  rw [e, bot_num h h1] at hget
  have := Option.some.inj hget
  omega
 rcases reach_mark ((h1.2 L1[p]).1 (List.getElem_mem hp)) with hx | ⟨m, hm, hn, e⟩
 ·exact absurd hx hne
 ·have h00 := hn (0, m.1) (by simp [needsT])
  obtain ⟨f, hf, _⟩ := nums_has h0 h00
  simp only [movesA, List.mem_append, List.mem_map] at hm
  rcases hm with (⟨r, hr, rfl⟩ | ⟨r, hr, rfl⟩) | ⟨r, hr, rfl⟩
  ·obtain ⟨y, z, _, e2, e3, _⟩ := trim_o h h0 h1 hr hf
   rw [show r.2.2.2 = L1[p] from e, hget] at e2
   cases e2
   exact ⟨_, (tidyL_mem _ _).2 (List.mem_filterMap.2 ⟨r, hr, e3⟩), rfl⟩
  ·exact absurd e.symm hne
  ·exact absurd e.symm hne
end
theorem good_lenT {ss : List (ByteArray × Int)} {most : Int} {a : Aut} {i : Nat} (L0 L1 : List Int) (h : GoodM ss most a i) (hi : i ≤ 1000) : AutLen (normA (trimB a L0 L1)) := by
 have ⟨n1, n2, n3, n4, n5⟩ := h.len
 refine ⟨Nat.le_trans (tidyL_len _) (Nat.le_trans (List.length_filterMap_le _ _) (by omega)), Nat.le_trans (tidyL_len _) (Nat.le_trans (List.length_filterMap_le _ _) (by omega)), Nat.le_trans (tidyL_len _) (Nat.le_trans (List.length_filterMap_le _ _) (by omega)), Nat.le_trans (tidyL_len _) (Nat.le_trans (List.length_filterMap_le _ _) (by omega)), Nat.le_trans (tidyL_len _) (Nat.le_trans (List.length_filterMap_le _ _) (by omega))⟩
theorem good_mu {ss : List (ByteArray × Int)} {most : Int} {a : Aut} {i : Nat} (h : GoodM ss most a i) (hi : i ≤ 25) : muF a [] (startT a) ≤ 100000 := by
 have ⟨n1, n2, n3, n4, n5⟩ := h.len
 have hm : (movesA a).length ≤ 75 := by simp only [movesA, List.length_append, List.length_map]; omega
 have h3 : ∀ l : List R4, (l.flatMap givesT).length = 2 * l.length := fun l => by
  induction l with
  | nil => rfl
  | cons x l ih => simp only [List.flatMap_cons, List.length_append, ih, List.length_cons]; have : (givesT x).length = 2 := rfl; omega
 have hu : (univ a).length ≤ 176 := by simp only [univ, List.length_append, List.length_cons, List.length_map, h3]; omega
 have hf : ((univ a).filter fun t => decide (t ∉ ([] : List Thg))).length ≤ 176 := Nat.le_trans (List.length_filter_le _ _) hu
 have hs : (startT a).length ≤ 26 := by simp only [startT, List.length_cons, List.length_map]; omega
 unfold muF
 have := Nat.mul_le_mul hf (show 2 * (movesA a).length + 1 ≤ 151 by omega)
 omega
theorem make_init {ss : List (ByteArray × Int)} {size most : Int} {ns : List Int} : (makeM ss size most ns).init ≠ [] := by
 unfold makeM lastM
 split
 ·simp [putI]
 ·assumption
end Go.Proofs.YtjohiaoepbnicaaGreat
namespace Go.Am
set_option linter.unusedSimpArgs false
set_option linter.unusedVariables false
open Go.RowKit
def BCells (cs : List Value) (n : Nat) (S : Nat → Prop) : Prop := cs.length = n ∧ ∀ i, i < n → ∃ x : Bool, cs[i]? = some (.bool x) ∧ (x = true ↔ S i)
theorem BCells.zero (n : Nat) : BCells (rep n [.bool false]) n fun _ => False := by
 have h : rep n [.bool false] = List.replicate n (.bool false) := by
  unfold rep
  induction n with
  | zero => rfl
  | succ n ih => rw [List.replicate_succ, List.flatten_cons, ih, List.replicate_succ]; rfl
 rw [h]
 exact ⟨by simp, fun i hi => ⟨false, by rw [List.getElem?_replicate, if_pos hi], by simp⟩⟩
theorem BCells.set {cs : List Value} {n k : Nat} {S : Nat → Prop} (h : BCells cs n S) (hk : k < n) : BCells (cs.set k (.bool true)) n fun i => i = k ∨ S i := by
 refine ⟨by rw [List.length_set, h.1], fun i hi => ?_⟩
 by_cases e : i = k
 ·subst e
  exact ⟨true, by rw [List.getElem?_set_self (by rw [h.1]; exact hk)], by simp⟩
 ·obtain ⟨x, h1, h2⟩ := h.2 i hi
  exact ⟨x, by rw [List.getElem?_set_ne (fun q => e q.symm)]; exact h1, by simp [e, h2]⟩
theorem BCells.iff {cs : List Value} {n : Nat} {S S' : Nat → Prop} (h : BCells cs n S) (hS : ∀ i, i < n → (S i ↔ S' i)) : BCells cs n S' :=
 ⟨h.1, fun i hi => by obtain ⟨x, h1, h2⟩ := h.2 i hi; exact ⟨x, h1, h2.trans (hS i hi)⟩⟩
def BRow (H : Heap) (el : TypeId) (b n : Nat) (S : Nat → Prop) : Prop := ∃ cs, H b = some (.cells cs 1 none false (some el)) ∧ BCells cs n S
theorem BRow.same {H H' : Heap} {el : TypeId} {b n : Nat} {S : Nat → Prop} (h : BRow H el b n S) (hs : H' b = H b) : BRow H' el b n S := by
 obtain ⟨cs, h1, h2⟩ := h
 exact ⟨cs, hs.trans h1, h2⟩
theorem BRow.iff {H : Heap} {el : TypeId} {b n : Nat} {S S' : Nat → Prop} (h : BRow H el b n S) (hS : ∀ i, i < n → (S i ↔ S' i)) : BRow H el b n S' := by
 obtain ⟨cs, h1, h2⟩ := h
 exact ⟨cs, h1, h2.iff hS⟩
theorem BRow.get {H : Heap} {el : TypeId} {b n : Nat} {S : Nat → Prop} (h : BRow H el b n S) {j : Int} (h0 : 0 ≤ j) (h1 : j < n) : ∃ x : Bool, cellAt H ⟨b, 0 + j.toNat * 1, none⟩ (.bool x) ∧ (x = true ↔ S j.toNat) := by
 obtain ⟨cs, hH, hc⟩ := h
 obtain ⟨x, hx, hS⟩ := hc.2 j.toNat (by omega)
 refine ⟨x, ?_, hS⟩
 unfold cellAt getc
 simp only [hH]
 have hl := hc.1
 rw [if_pos ⟨trivial, by omega⟩]
 obtain ⟨hjl, hje⟩ := List.getElem?_eq_some_iff.1 hx
 rw [Nat.zero_add, Nat.mul_one, List.take_one, List.head?_drop, List.getElem?_eq_getElem hjl, hje]
 rfl
theorem BRow.new {H : Heap} {el : TypeId} {b n : Nat} : BRow (H.put b (.cells (rep n [.bool false]) 1 none false (some el))) el b n fun _ => False := ⟨_, Heap.put_eq, BCells.zero n⟩
theorem aMakeSlice_bools {P : Program} {nx : Nat} {t el : TypeId} {m : Nat} (hu : P.underlying t = some (.slice el)) (hs : szOf P el = some 1) (hb : bytesOfT P el = some 1) (hz : zeroOf P el = some [.bool false]) (hm : m ≤ 1000000000) :
  aMakeSlice P nx t (.int .i64 m) (.int .i64 m) = some (.slice (some ⟨nx, 0, none⟩) m m, .new (.cells (rep m [.bool false]) 1 none false (some el))) := by
 unfold aMakeSlice
 simp only [hu, hs, hb, hz, Int.toNat_natCast]
 rw [if_pos ⟨by omega, by omega, by omega, by omega, rfl⟩]
section
variable {P : Program} {W0 : World} {ops : Array Oper} {H : Heap} {nx n : Nat} {type : TypeId} {pos : String} {after : Array Edge} {l : List Oper} {tm : Nat → Value} {QQ : ASt → Prop} {el : TypeId}
theorem OpsL.setB {t : TypeId} {x y : Operand} {b m : Nat} {j : Int} {S : Nat → Prop} (hx : ASt.ev ⟨tm, n, H, nx⟩ x = some (.pointer (some ⟨b, 0 + j.toNat * 1, none⟩))) (hy : ASt.ev ⟨tm, n, H, nx⟩ y = some (.bool true)) (hz : szOf P t = some 1)
  (hr : BRow H el b m S) (h0 : 0 ≤ j) (h1 : j < m) (h : ∀ H', BRow H' el b m (fun i => i = j.toNat ∨ S i) → (∀ i, i ≠ b → H' i = H i) → OpsL P W0 ops l ⟨tm, n, H', nx⟩ QQ) :
  OpsL P W0 ops (⟨none, .store t x y, type, pos, after, none⟩ :: l) ⟨tm, n, H, nx⟩ QQ := by
 obtain ⟨cs, hH, hc⟩ := hr
 have hl := hc.1
 refine OpsL.storeAt (a := ⟨b, 0 + j.toNat * 1, none⟩) (cs' := cs.set j.toNat (.bool true)) j.toNat hx hy hz rfl rfl hH (by simp) (by omega) rfl ?_
 exact h _ ⟨_, Heap.put_eq, hc.set (by omega)⟩ fun i hi => Heap.put_ne hi
end
section
variable {P : Program} {W0 : World} {ops : Array Oper} {H : Heap} {nx n : Nat} {type : TypeId} {pos : String} {after : Array Edge} {l : List Oper} {tm : Nat → Value} {QQ : ASt → Prop} {el : TypeId}
end
end Go.Am
