import Derived.Test.YtooakbmehcchnaaQFM12
set_option linter.unusedSimpArgs false
set_option linter.unusedVariables false
set_option maxRecDepth 100000
set_option maxHeartbeats 16000000
namespace Go.Am
open Go.RowKit
def nilV : MoV := ⟨.slice none 0 0, .slice none 0 0, .slice none 0 0, .slice none 0 0, .slice none 0 0, .slice none 0 0⟩
theorem rep_one (k : Nat) (z : Value) : rep k [z] = List.replicate k z := by
  unfold rep
  induction k with
  | zero => rfl
  | succ n ih => rw [List.replicate_succ, List.flatten_cons, ih, List.replicate_succ]; rfl
theorem aMakeSlice_one {P : Program} {nx : Nat} {t el : TypeId} {m bytes : Nat} {z : Value} (hu : P.underlying t = some (.slice el)) (hs : szOf P el = some 1) (hb : bytesOfT P el = some bytes) (hz : zeroOf P el = some [z]) (hm : m ≤ 100000) (hbl : bytes ≤ 1000) :
    aMakeSlice P nx t (.int .i64 m) (.int .i64 m) = some (.slice (some ⟨nx, 0, none⟩) m m, .new (.cells (List.replicate m z) 1 none false (some el))) := by
  have h1 : bytes * m ≤ 1000 * 100000 := Nat.mul_le_mul hbl hm
  unfold aMakeSlice
  simp only [hu, hs, hb, hz, Int.toNat_natCast, rep_one]
  rw [if_pos ⟨by omega, by omega, by omega, by omega, rfl⟩]
section
attribute [local irreducible] aop OpsL Trip blockExit OpsD OpsK OpsR OpsQ
variable {P : Program} {W0 : World} {σ : CH} {n : Nat} {ops : Array Oper} {l : List Oper} {tm : Nat → Value} {QQ : ASt → Prop} {d : Tmp} {type : TypeId} {pos : String} {after : Array Edge}
theorem OpsL.setAllC {c : Co} {b e k : Nat} {zs vs : List Value} {tg : Option Nat} {q : Option TypeId} {t : TypeId} {x y : Operand} (ho : ObC c σ b (.cells zs e tg false q)) (hs : szOf P t = some k) (hk : vs.length = k) (hl : vs.length = zs.length) (h1 : vs.all (·.oneCell') = true)
    (hx : ASt.ev ⟨tm, n, σ.H, σ.nx⟩ x = some (.pointer (some ⟨b, 0, tg⟩))) (hy : ASt.ev ⟨tm, n, σ.H, σ.nx⟩ y = some (.agg vs.toArray))
    (h : ∀ τ, ObC c τ b (.cells vs e tg false q) → Chg [c] σ τ → OpsL P W0 ops l ⟨tm, n, τ.H, τ.nx⟩ QQ) :
    OpsL P W0 ops (⟨none, .store t x y, type, pos, after, none⟩ :: l) ⟨tm, n, σ.H, σ.nx⟩ QQ := by
  refine OpsL.upd (aop_store (a := ⟨b, 0, tg⟩) (k := k) (u := .agg vs.toArray) hx hy hs (by rw [← hk]; rfl) (o := .cells vs e tg false q) (setc_allN (vs := vs) ho.2.2 hl h1)) ?_
  refine h ⟨σ.nx, σ.C, σ.H.put b (.cells vs e tg false q)⟩ ⟨ho.1, ho.2.1, Heap.put_eq⟩ ⟨Nat.le_refl _, fun i hi => ⟨rfl, fun hn => Heap.put_ne fun e => ?_⟩⟩
  subst e
  rw [ho.2.1] at hn
  exact hn (List.mem_singleton.2 rfl)
end
end Go.Am
namespace Go.Proofs.Ytooakbmehcchnaa
open Go.Am Go.RowKit
attribute [local irreducible] aop OpsL Trip blockExit OpsD OpsK OpsR OpsQ
structure J5 (σ0 : CH) (X : MkX) (q : MkP) (l : List Nat) (tm : Nat → Value) (σ : CH) : Prop where
  old : OldC σ0 σ
  a : ObC .self σ X.A (mObj X.pl X.cl ⟨if 5 ∈ l then .slice none 0 0 else tm 43, if 7 ∈ l then .slice none 0 0 else tm 45, .slice none 0 0, .slice none 0 0, .slice none 0 0, .slice none 0 0⟩)
  b : ObC .next σ X.B (nextO X.nv 0)
  r : ∃ cs, cs.length = 8 ∧ ObC .tmp σ X.a4 (.cells cs 0 none false (some 28))
  n : IntsC .old σ X.nv X.ns
  t4 : tm 4 = .pointer (some ⟨X.a4, 0, none⟩)
  t5 : tm 5 = .pointer (some ⟨X.A, 0, none⟩)
  t6 : tm 6 = .int .i64 q.k
  t7 : tm 7 = .int .i64 q.n
  t8 : tm 8 = .pointer (some ⟨X.B, 0, none⟩)
  t42 : tm 42 = .int .i64 q.n
  t44 : tm 44 = .int .i64 q.k
  t46 : 4 ∉ l → tm 46 = .pointer (some ⟨X.A, 0 + 2, none⟩)
  t47 : 6 ∉ l → tm 47 = .pointer (some ⟨X.A, 0 + 3, none⟩)
  of : 1 ∉ l → PlainC 3 .of σ (tm 43) ((List.replicate q.n (0 : Int)).map (.int .i64 ·))
  en : 3 ∉ l → PlainC 3 .entry σ (tm 45) ((List.replicate q.k (0 : Int)).map (.int .i64 ·))
  cA : 5 ∈ l → 7 ∈ l
theorem makeC0 (W0 : World) {σ0 : CH} {nv : Value} {ns : List Int} {size : Int} (hold : ∀ i, i < σ0.nx → σ0.C i = .old) (hn : IntsC .old σ0 nv ns) (hs : -9223372036854775808 ≤ size ∧ size ≤ 9223372036854775807) :
    ACalls Try.prog W0 21 [.int .i64 size, nv] σ0.nx σ0.H fun v nx' H' => ∃ V σ, v = .agg (moV (makeF size ns) V).toArray ∧ nx' = σ.nx ∧ H' = σ.H ∧ OldC σ0 σ ∧ MkO σ (makeF size ns) V := by
  refine ACalls.by_trip (fn := Try.f21) (c := _) Try.func21 rfl (fun tm n hn0 htm => ?_)
  have e0 : tm 0 = .int .i64 size := htm 0
  have e1 : tm 1 = nv := htm 1
  clear htm
  replace hn0 : n = 220 := hn0
  obtain ⟨na, nc, rfl⟩ := hn.at.slice
  obtain ⟨hs0, hs1⟩ := hs
  have hold0 : OldC σ0 σ0 := ⟨Nat.le_refl _, fun i hi => ⟨hold i hi, rfl⟩⟩
  obtain ⟨z1, z2, z3, z4, z5, z6⟩ := mkP_ok size
  have a1 := Int.emod_nonneg size (show (3 : Int) ≠ 0 by omega)
  have b1 := Int.emod_nonneg (size.tdiv 3) (show (3 : Int) ≠ 0 by omega)
  have c1 := Int.emod_nonneg (size.tdiv 9) (show (3 : Int) ≠ 0 by omega)
  have d1 := Int.emod_nonneg (size.tdiv 27) (show (6 : Int) ≠ 0 by omega)
  have kpl : size % 3 = ((mkP size).pl : Int) := by simp only [mkP]; omega
  have kcl : size.tdiv 3 % 3 = ((mkP size).cl : Int) := by simp only [mkP]; omega
  have kk : 1 + size.tdiv 9 % 3 = ((mkP size).k : Int) := by simp only [mkP]; omega
  have kn : ((mkP size).k : Int) + size.tdiv 27 % 6 = ((mkP size).n : Int) := by simp only [mkP]; omega
  refine Trip.seq ?_
  refine Trip.ops ?_
  refine OpsL.newC .tmp (aop_alloc (l := moC 0 0 nilV) (by exact rfl)) (by subst_vars; decide) ?_
  intro σ1 h4 x1
  replace hold0 := hold0.keep x1 (by simp)
  replace hn := hn.keep x1 (by simp)
  refine OpsL.nil ?_
  (change Trip _ _ _ _ _)
  repeat (first | (refine OpsL.q (by exact omv) ?_) | (refine Trip.seq ?_) | (refine Trip.ops ?_))
  refine OpsL.c2 (hf := entersWithinN) (hc := (withinC W0 size 3 (by omega) (by omega))) (h := ?_)
  rintro v nx1 H1 ⟨rfl, rfl, rfl⟩
  repeat (first | (refine OpsL.q (by exact omv) ?_))
  refine OpsL.p (by subst_vars; decide) (aop_quoT (a := size) (b := 3) (by (first | (simp only [ASt.ev, tmPut, ↓reduceIte, Nat.reduceEqDiff, *]; done))) (by (first | (simp only [ASt.ev, tmPut, ↓reduceIte, Nat.reduceEqDiff, *]; rfl))) (by omega) hs0 hs1) ?_
  refine OpsL.c2 (hf := entersWithinN) (hc := (withinC W0 (size.tdiv 3) 3 (by omega) (by omega))) (h := ?_)
  rintro v nx1 H1 ⟨rfl, rfl, rfl⟩
  refine OpsL.p (by subst_vars; decide) (aop_build (l := [(0, .int .i64 (size % 3)), (1, .int .i64 (size.tdiv 3 % 3))]) (v := .agg (moC (size % 3) (size.tdiv 3 % 3) nilV).toArray) (by simp [evParts, ASt.ev, tmPut]) (by kernel_rfl)) ?_
  refine OpsL.newC .self (aop_alloc (l := moC 0 0 nilV) (by exact rfl)) (by subst_vars; decide) ?_
  intro σ2 ha x2
  replace hold0 := hold0.keep x2 (by simp)
  replace hn := hn.keep x2 (by simp)
  replace h4 := h4.keep x2 (by simp)
  refine OpsL.setAllC (vs := moC (size % 3) (size.tdiv 3 % 3) nilV) ha (by exact rfl) rfl rfl rfl (by (first | (simp only [ASt.ev, tmPut, ↓reduceIte, Nat.reduceEqDiff, *]; done))) (by (first | (simp only [ASt.ev, tmPut, ↓reduceIte, Nat.reduceEqDiff, *]; done))) ?_
  intro σ3 ha3 x3
  replace hold0 := hold0.keep x3 (by simp)
  replace hn := hn.keep x3 (by simp)
  replace h4 := h4.keep x3 (by simp)
  refine OpsL.nil ?_
  (change Trip _ _ _ _ _)
  obtain ⟨A, hA⟩ : ∃ A, σ1.nx = A := ⟨_, rfl⟩
  obtain ⟨a4, ha4⟩ : ∃ A, σ0.nx = A := ⟨_, rfl⟩
  rw [hA] at ha3
  rw [ha4] at h4
  repeat (first | (refine OpsL.q (by exact omv) ?_) | (refine Trip.seq ?_) | (refine Trip.ops ?_))
  refine OpsL.p (by subst_vars; decide) (aop_quoT (a := size) (b := 9) (by (first | (simp only [ASt.ev, tmPut, ↓reduceIte, Nat.reduceEqDiff, *]; done))) (by (first | (simp only [ASt.ev, tmPut, ↓reduceIte, Nat.reduceEqDiff, *]; rfl))) (by omega) hs0 hs1) ?_
  refine OpsL.c2 (hf := entersWithinN) (hc := (withinC W0 (size.tdiv 9) 3 (by omega) (by omega))) (h := ?_)
  rintro v nx1 H1 ⟨rfl, rfl, rfl⟩
  refine OpsL.p (by subst_vars; decide) (aop_add (a := 1) (b := size.tdiv 9 % 3) (by (first | (simp only [ASt.ev, tmPut, ↓reduceIte, Nat.reduceEqDiff, *]; rfl))) (by (first | (simp only [ASt.ev, tmPut, ↓reduceIte, Nat.reduceEqDiff, *]; done))) (by omega)) ?_
  rw [kk]
  (first | (refine OpsL.q (by exact oasg) ?_))
  refine OpsL.nil ?_
  (change Trip _ _ _ _ _)
  repeat (first | (refine OpsL.q (by exact omv) ?_) | (refine Trip.seq ?_) | (refine Trip.ops ?_))
  refine OpsL.p (by subst_vars; decide) (aop_quoT (a := size) (b := 27) (by (first | (simp only [ASt.ev, tmPut, ↓reduceIte, Nat.reduceEqDiff, *]; done))) (by (first | (simp only [ASt.ev, tmPut, ↓reduceIte, Nat.reduceEqDiff, *]; rfl))) (by omega) hs0 hs1) ?_
  refine OpsL.c2 (hf := entersWithinN) (hc := (withinC W0 (size.tdiv 27) 6 (by omega) (by omega))) (h := ?_)
  rintro v nx1 H1 ⟨rfl, rfl, rfl⟩
  refine OpsL.p (by subst_vars; decide) (aop_add (a := (mkP size).k) (b := size.tdiv 27 % 6) (by (first | (simp only [ASt.ev, tmPut, ↓reduceIte, Nat.reduceEqDiff, *]; done))) (by (first | (simp only [ASt.ev, tmPut, ↓reduceIte, Nat.reduceEqDiff, *]; done))) (by omega)) ?_
  rw [kn]
  (first | (refine OpsL.q (by exact oasg) ?_))
  refine OpsL.nil ?_
  (change Trip _ _ _ _ _)
  repeat (first | (refine OpsL.q (by exact omv) ?_) | (refine Trip.seq ?_) | (refine Trip.ops ?_))
  refine OpsL.p (by subst_vars; decide) (aop_build (l := [(0, .slice na ns.length nc)]) (v := .agg #[.slice na ns.length nc, .int .i64 0]) (by simp [evParts, ASt.ev, tmPut, *]) (by kernel_rfl)) ?_
  refine OpsL.newC .next (aop_box (v := .agg #[.slice na ns.length nc, .int .i64 0]) (by (first | (simp only [ASt.ev, tmPut, ↓reduceIte, Nat.reduceEqDiff, *]; done)))) (by subst_vars; decide) ?_
  intro σ4 hb x4
  replace hold0 := hold0.keep x4 (by simp)
  replace hn := hn.keep x4 (by simp)
  replace h4 := h4.keep x4 (by simp)
  replace ha3 := ha3.keep x4 (by simp)
  replace hb : ObC .next σ4 σ3.nx (nextO (.slice na ns.length nc) 0) := hb
  (first | (refine OpsL.q (by exact oasg) ?_))
  refine OpsL.nil ?_
  (change Trip _ _ _ _ _)
  rw [kpl, kcl] at ha3
  have hmk : makeF size ns = makeQ ns (mkP size) := rfl
  rw [hmk]
  have hq := mkP_ok size
  generalize mkP size = q at *
  clear kpl kcl kk kn a1 b1 c1 d1 x1 x2 x3 x4 ha
  repeat (first | (refine Trip.seq ?_))
  obtain ⟨X, hX⟩ : ∃ X : MkX, MkX.mk A σ3.nx a4 (.slice na ns.length nc) (.slice none 0 0) ns q.pl q.cl = X := ⟨_, rfl⟩
  refine Trip.mono (Q := fun e st => e = .normal ∧ ∃ tm σ, st = ⟨tm, n, σ.H, σ.nx⟩ ∧ J5 σ0 X q [] tm σ) ?_ ?_
  · refine OpsQ.drawn [1, 3, 4, 5, 6, 7] (K := fun _ _ _ => True) mixed13 (by kernel_rfl) (by kernel_rfl) [0, 2, 1, 3, 4, 5, 6, 7] (by kernel_rfl) (fun _ _ => trivial) ?_
    refine OpsQ.one rfl rfl rfl (by kernel_rfl) ?_
    repeat (first | (refine OpsL.q (by exact omv) ?_) | (refine OpsL.nil ?_; (skip)))
    refine OpsQ.one rfl rfl rfl (by kernel_rfl) ?_
    repeat (first | (refine OpsL.q (by exact omv) ?_) | (refine OpsL.nil ?_; (skip)))
    refine OpsQ.uni (L0 := [1, 3, 4, 5, 6, 7]) (J := fun l st => ∃ tm σ, st = ⟨tm, n, σ.H, σ.nx⟩ ∧ J5 σ0 X q l tm σ ∧ (1 ∈ l → 5 ∈ l) ∧ (3 ∈ l → 7 ∈ l)) (fun _ _ _ _ _ => trivial) ?_ ?_ _ _ _ (Nat.le_refl _) (fun _ h => h) (by decide) ?_
    · rintro l st j hsub hnd ⟨tm, σ, rfl, h, h15, h37⟩ hj hfr
      have hmem : ∀ k, k ∈ l.erase j ↔ k ≠ j ∧ k ∈ l := fun k => by rw [hnd.mem_erase_iff]
      have hdep : ∀ k, depD _ j k = true → k ≠ j → k ∉ l := fun k hd hk hkl => by
        have := front_iff.1 hfr k ((hmem k).2 ⟨hk, hkl⟩)
        rw [hd] at this
        cases this
      have hj9 := hsub j hj
      simp only [List.mem_cons, List.not_mem_nil, or_false] at hj9
      have t5 := h.t5
      have t42 := h.t42
      have t44 := h.t44
      rcases hj9 with rfl | rfl | rfl | rfl | rfl | rfl
      · have hin5 := h15 hj
        refine ActStep.walk rfl rfl ?_
        refine OpsL.newC .of (aop_makeSlice (by (first | (simp only [ASt.ev, tmPut, ↓reduceIte, Nat.reduceEqDiff, *]; done))) (by (first | (simp only [ASt.ev, tmPut, ↓reduceIte, Nat.reduceEqDiff, *]; done))) (aMakeSlice_one (m := q.n) (bytes := 8) (z := .int .i64 0) (by exact rfl) (by exact rfl) (by exact rfl) (by exact rfl) (by omega) (by omega))) (by subst_vars; decide) ?_
        intro τ ho hx
        refine OpsL.nil ⟨trivial, _, τ, rfl, ⟨(h.old.keep hx (by simp)), ((by have m1 := hin5; have m2 := h.cA m1; have q := h.a.keep hx (by simp); simpa [mObj, hmem, tmPut, m1, m2] using q)), (h.b.keep hx (by simp)), ((by obtain ⟨cs, q1, q2⟩ := h.r; exact ⟨cs, q1, q2.keep hx (by simp)⟩)), (h.n.keep hx (by simp)), (by simpa [tmPut] using h.t4), (by simpa [tmPut] using h.t5), (by simpa [tmPut] using h.t6), (by simpa [tmPut] using h.t7), (by simpa [tmPut] using h.t8), (by simpa [tmPut] using h.t42), (by simpa [tmPut] using h.t44), (fun hk => by have q := h.t46 (fun q => hk ((hmem 4).2 ⟨by decide, q⟩)); simpa [tmPut] using q), (fun hk => by have q := h.t47 (fun q => hk ((hmem 6).2 ⟨by decide, q⟩)); simpa [tmPut] using q), (fun _ => ⟨σ.nx, by simp [tmPut], by rw [List.map_replicate]; exact ho⟩), (fun hk => by have q := (h.en (fun q => hk ((hmem 3).2 ⟨by decide, q⟩))).keep hx (by simp); simpa [tmPut] using q), (fun q => (hmem 7).2 ⟨by decide, h.cA ((hmem 5).1 q).2⟩)⟩, (fun q => absurd rfl ((hmem 1).1 q).1), (fun q => (hmem 7).2 ⟨by decide, h37 ((hmem 3).1 q).2⟩)⟩
      · have hin7 := h37 hj
        refine ActStep.walk rfl rfl ?_
        refine OpsL.newC .entry (aop_makeSlice (by (first | (simp only [ASt.ev, tmPut, ↓reduceIte, Nat.reduceEqDiff, *]; done))) (by (first | (simp only [ASt.ev, tmPut, ↓reduceIte, Nat.reduceEqDiff, *]; done))) (aMakeSlice_one (m := q.k) (bytes := 8) (z := .int .i64 0) (by exact rfl) (by exact rfl) (by exact rfl) (by exact rfl) (by omega) (by omega))) (by subst_vars; decide) ?_
        intro τ ho hx
        refine OpsL.nil ⟨trivial, _, τ, rfl, ⟨(h.old.keep hx (by simp)), ((by have m2 := hin7; have q := h.a.keep hx (by simp); simpa [mObj, hmem, tmPut, m2] using q)), (h.b.keep hx (by simp)), ((by obtain ⟨cs, q1, q2⟩ := h.r; exact ⟨cs, q1, q2.keep hx (by simp)⟩)), (h.n.keep hx (by simp)), (by simpa [tmPut] using h.t4), (by simpa [tmPut] using h.t5), (by simpa [tmPut] using h.t6), (by simpa [tmPut] using h.t7), (by simpa [tmPut] using h.t8), (by simpa [tmPut] using h.t42), (by simpa [tmPut] using h.t44), (fun hk => by have q := h.t46 (fun q => hk ((hmem 4).2 ⟨by decide, q⟩)); simpa [tmPut] using q), (fun hk => by have q := h.t47 (fun q => hk ((hmem 6).2 ⟨by decide, q⟩)); simpa [tmPut] using q), (fun hk => by have q := (h.of (fun q => hk ((hmem 1).2 ⟨by decide, q⟩))).keep hx (by simp); simpa [tmPut] using q), (fun _ => ⟨σ.nx, by simp [tmPut], by rw [List.map_replicate]; exact ho⟩), (fun q => (hmem 7).2 ⟨by decide, h.cA ((hmem 5).1 q).2⟩)⟩, (fun q => (hmem 5).2 ⟨by decide, h15 ((hmem 1).1 q).2⟩), (fun q => absurd rfl ((hmem 3).1 q).1)⟩
      · have hx : Chg [] σ σ := Chg.refl
        refine ActStep.walk rfl rfl ?_
        refine OpsL.p (by subst_vars; decide) (aop_fieldAddr (v := .pointer (some ⟨X.A, 0 + 2, none⟩)) (by (first | (simp only [ASt.ev, tmPut, ↓reduceIte, Nat.reduceEqDiff, *]; rfl))) (by exact rfl)) ?_
        refine OpsL.nil ⟨trivial, _, σ, rfl, ⟨(h.old.keep hx (by simp)), ((by have q := h.a.keep hx (by simp); simpa [mObj, hmem, tmPut] using q)), (h.b.keep hx (by simp)), ((by obtain ⟨cs, q1, q2⟩ := h.r; exact ⟨cs, q1, q2.keep hx (by simp)⟩)), (h.n.keep hx (by simp)), (by simpa [tmPut] using h.t4), (by simpa [tmPut] using h.t5), (by simpa [tmPut] using h.t6), (by simpa [tmPut] using h.t7), (by simpa [tmPut] using h.t8), (by simpa [tmPut] using h.t42), (by simpa [tmPut] using h.t44), (fun _ => by simp [tmPut, h.t5]), (fun hk => by have q := h.t47 (fun q => hk ((hmem 6).2 ⟨by decide, q⟩)); simpa [tmPut] using q), (fun hk => by have q := (h.of (fun q => hk ((hmem 1).2 ⟨by decide, q⟩))).keep hx (by simp); simpa [tmPut] using q), (fun hk => by have q := (h.en (fun q => hk ((hmem 3).2 ⟨by decide, q⟩))).keep hx (by simp); simpa [tmPut] using q), (fun q => (hmem 7).2 ⟨by decide, h.cA ((hmem 5).1 q).2⟩)⟩, (fun q => (hmem 5).2 ⟨by decide, h15 ((hmem 1).1 q).2⟩), (fun q => (hmem 7).2 ⟨by decide, h37 ((hmem 3).1 q).2⟩)⟩
      · have hown := h.of (hdep 1 (by kernel_rfl) (by decide))
        obtain ⟨vsl, hsl⟩ : ∃ x : SV, tm 43 = slV x := by
          obtain ⟨b, q1, q2⟩ := hown
          exact ⟨(some ⟨b, 0, none⟩, _, _), q1⟩
        have e1 := h.t46 (hdep 4 (by kernel_rfl) (by decide))
        have ha := h.a
        rw [if_pos hj, if_pos (h.cA hj)] at ha
        refine ActStep.walk rfl rfl ?_
        refine OpsL.setC (k := 2) (v := slV vsl) (cs' := moC X.pl X.cl ⟨slV vsl, .slice none 0 0, .slice none 0 0, .slice none 0 0, .slice none 0 0, .slice none 0 0⟩) ha (by simp [moC]) rfl (by exact rfl) rfl rfl (by (first | (simp only [ASt.ev, tmPut, ↓reduceIte, Nat.reduceEqDiff, *]; done))) (by (first | (simp only [ASt.ev, tmPut, ↓reduceIte, Nat.reduceEqDiff, *]; done))) rfl ?_
        rintro τ ha7 hx -
        refine OpsL.nil ⟨trivial, _, τ, rfl, ⟨(h.old.keep hx (by simp)), ((by have q := ha7; have m0 := h.cA hj; simpa [mObj, hmem, tmPut, hsl, m0] using q)), (h.b.keep hx (by simp)), ((by obtain ⟨cs, q1, q2⟩ := h.r; exact ⟨cs, q1, q2.keep hx (by simp)⟩)), (h.n.keep hx (by simp)), (by simpa [tmPut] using h.t4), (by simpa [tmPut] using h.t5), (by simpa [tmPut] using h.t6), (by simpa [tmPut] using h.t7), (by simpa [tmPut] using h.t8), (by simpa [tmPut] using h.t42), (by simpa [tmPut] using h.t44), (fun hk => by have q := h.t46 (fun q => hk ((hmem 4).2 ⟨by decide, q⟩)); simpa [tmPut] using q), (fun hk => by have q := h.t47 (fun q => hk ((hmem 6).2 ⟨by decide, q⟩)); simpa [tmPut] using q), (fun hk => by have q := (h.of (fun q => hk ((hmem 1).2 ⟨by decide, q⟩))).keep hx (by simp); simpa [tmPut] using q), (fun hk => by have q := (h.en (fun q => hk ((hmem 3).2 ⟨by decide, q⟩))).keep hx (by simp); simpa [tmPut] using q), (fun q => (hmem 7).2 ⟨by decide, h.cA ((hmem 5).1 q).2⟩)⟩, (fun q => absurd ((hmem 1).1 q).2 (hdep 1 (by kernel_rfl) (by decide))), (fun q => (hmem 7).2 ⟨by decide, h37 ((hmem 3).1 q).2⟩)⟩
      · have hx : Chg [] σ σ := Chg.refl
        refine ActStep.walk rfl rfl ?_
        refine OpsL.p (by subst_vars; decide) (aop_fieldAddr (v := .pointer (some ⟨X.A, 0 + 3, none⟩)) (by (first | (simp only [ASt.ev, tmPut, ↓reduceIte, Nat.reduceEqDiff, *]; rfl))) (by exact rfl)) ?_
        refine OpsL.nil ⟨trivial, _, σ, rfl, ⟨(h.old.keep hx (by simp)), ((by have q := h.a.keep hx (by simp); simpa [mObj, hmem, tmPut] using q)), (h.b.keep hx (by simp)), ((by obtain ⟨cs, q1, q2⟩ := h.r; exact ⟨cs, q1, q2.keep hx (by simp)⟩)), (h.n.keep hx (by simp)), (by simpa [tmPut] using h.t4), (by simpa [tmPut] using h.t5), (by simpa [tmPut] using h.t6), (by simpa [tmPut] using h.t7), (by simpa [tmPut] using h.t8), (by simpa [tmPut] using h.t42), (by simpa [tmPut] using h.t44), (fun hk => by have q := h.t46 (fun q => hk ((hmem 4).2 ⟨by decide, q⟩)); simpa [tmPut] using q), (fun _ => by simp [tmPut, h.t5]), (fun hk => by have q := (h.of (fun q => hk ((hmem 1).2 ⟨by decide, q⟩))).keep hx (by simp); simpa [tmPut] using q), (fun hk => by have q := (h.en (fun q => hk ((hmem 3).2 ⟨by decide, q⟩))).keep hx (by simp); simpa [tmPut] using q), (fun q => (hmem 7).2 ⟨by decide, h.cA ((hmem 5).1 q).2⟩)⟩, (fun q => (hmem 5).2 ⟨by decide, h15 ((hmem 1).1 q).2⟩), (fun q => (hmem 7).2 ⟨by decide, h37 ((hmem 3).1 q).2⟩)⟩
      · have hown := h.en (hdep 3 (by kernel_rfl) (by decide))
        obtain ⟨vsl, hsl⟩ : ∃ x : SV, tm 45 = slV x := by
          obtain ⟨b, q1, q2⟩ := hown
          exact ⟨(some ⟨b, 0, none⟩, _, _), q1⟩
        have e1 := h.t47 (hdep 6 (by kernel_rfl) (by decide))
        have ha := h.a
        rw [if_neg (hdep 5 (by kernel_rfl) (by decide)), if_pos hj] at ha
        refine ActStep.walk rfl rfl ?_
        refine OpsL.setC (k := 3) (v := slV vsl) (cs' := moC X.pl X.cl ⟨tm 43, slV vsl, .slice none 0 0, .slice none 0 0, .slice none 0 0, .slice none 0 0⟩) ha (by simp [moC]) rfl (by exact rfl) rfl rfl (by (first | (simp only [ASt.ev, tmPut, ↓reduceIte, Nat.reduceEqDiff, *]; done))) (by (first | (simp only [ASt.ev, tmPut, ↓reduceIte, Nat.reduceEqDiff, *]; done))) rfl ?_
        rintro τ ha7 hx -
        refine OpsL.nil ⟨trivial, _, τ, rfl, ⟨(h.old.keep hx (by simp)), ((by have q := ha7; have m0 := hdep 5 (by kernel_rfl) (by decide); simpa [mObj, hmem, tmPut, hsl, m0] using q)), (h.b.keep hx (by simp)), ((by obtain ⟨cs, q1, q2⟩ := h.r; exact ⟨cs, q1, q2.keep hx (by simp)⟩)), (h.n.keep hx (by simp)), (by simpa [tmPut] using h.t4), (by simpa [tmPut] using h.t5), (by simpa [tmPut] using h.t6), (by simpa [tmPut] using h.t7), (by simpa [tmPut] using h.t8), (by simpa [tmPut] using h.t42), (by simpa [tmPut] using h.t44), (fun hk => by have q := h.t46 (fun q => hk ((hmem 4).2 ⟨by decide, q⟩)); simpa [tmPut] using q), (fun hk => by have q := h.t47 (fun q => hk ((hmem 6).2 ⟨by decide, q⟩)); simpa [tmPut] using q), (fun hk => by have q := (h.of (fun q => hk ((hmem 1).2 ⟨by decide, q⟩))).keep hx (by simp); simpa [tmPut] using q), (fun hk => by have q := (h.en (fun q => hk ((hmem 3).2 ⟨by decide, q⟩))).keep hx (by simp); simpa [tmPut] using q), (fun q => absurd ((hmem 5).1 q).2 (hdep 5 (by kernel_rfl) (by decide)))⟩, (fun q => (hmem 5).2 ⟨by decide, h15 ((hmem 1).1 q).2⟩), (fun q => absurd ((hmem 3).1 q).2 (hdep 3 (by kernel_rfl) (by decide)))⟩
    · rintro st ⟨tm, σ, rfl, h, -, -⟩
      exact ⟨rfl, tm, σ, rfl, h⟩
    · subst hX
      refine ⟨_, σ4, rfl, ⟨hold0, by simpa [mObj, nilV] using ha3, hb, ⟨_, rfl, h4⟩, hn, by simp [tmPut, *], by simp [tmPut, *], by simp [tmPut, *], by simp [tmPut, *], by simp [tmPut, *], by simp [tmPut, *], by simp [tmPut, *], fun q => absurd q (by simp), fun q => absurd q (by simp), fun q => absurd q (by simp), fun q => absurd q (by simp), by simp⟩, by simp, by simp⟩
  · clear e0 e1 hold0 ha3 hb h4 hn
    rintro e st ⟨rfl, tm, σ, rfl, h⟩
    obtain ⟨h1, ha, hb, hr, hn, t4, t5, t6, t7, t8, -, -, -, -, hof, hen, -⟩ := h
    replace hof := hof (by simp)
    replace hen := hen (by simp)
    rw [if_neg (by simp), if_neg (by simp)] at ha
    (change Trip _ _ _ _ _)
    repeat (first | (refine OpsL.q (by exact omv) ?_) | (refine Trip.seq ?_) | (refine Trip.ops ?_))
    refine OpsL.newC .table (aop_makeSlice (by (first | (simp only [ASt.ev, tmPut, ↓reduceIte, Nat.reduceEqDiff, *]; done))) (by (first | (simp only [ASt.ev, tmPut, ↓reduceIte, Nat.reduceEqDiff, *]; done))) (aMakeSlice_one (m := q.k) (bytes := 24) (z := .slice none 0 0) (by exact rfl) (by exact rfl) (by exact rfl) (by exact rfl) (by omega) (by omega))) (by subst_vars; decide) ?_
    intro τ ho hx
    have hM : MkS σ0 τ { X with tv := .slice (some ⟨σ.nx, 0, none⟩) q.k q.k } (Go.Am.d1 ns q 0) ⟨tm 43, tm 45, .slice none 0 0, .slice none 0 0, .slice none 0 0, .slice none 0 0⟩ := by
      obtain ⟨cs, r1, r2⟩ := hr
      refine ⟨h1.keep hx (by simp), ha.keep hx (by simp), ?_, ⟨cs, r1, r2.keep hx (by simp)⟩, hn.keep hx (by simp), ?_, hen.keep hx (by simp), ⟨List.replicate q.k (none, 0, 0), ⟨σ.nx, by simp, by rw [List.map_replicate]; exact ho⟩, ?_⟩, OwnC.nil, OwnLC.nil, OwnLC.nil, OwnLC.nil⟩
      · exact hb.keep hx (by simp)
      · have := hof.keep hx (by simp)
        simpa [Go.Am.d1, l1F] using this
      · refine ⟨by simp [Go.Am.d1], fun i x hxi => ?_⟩
        have hi : i < q.k := by have := (List.getElem?_eq_some_iff.1 hxi).1; simpa [Go.Am.d1] using this
        refine ⟨(none, 0, 0), by rw [List.getElem?_replicate, if_pos hi], ?_⟩
        have e : (Go.Am.d1 ns q 0).T[i]? = some [] := by
          show ((List.range q.k).map fun (c : Nat) => tabF [] (c : Int))[i]? = some []
          rw [List.getElem?_map, List.getElem?_range hi]; rfl
        rw [e] at hxi
        cases hxi
        exact OwnC.nil
    have hXns : X.ns = ns := by rw [← hX]
    have hpl : X.pl = q.pl := by rw [← hX]
    have hcl : X.cl = q.cl := by rw [← hX]
    clear hX h1 ha hb hr hn hof hen ho hx
    obtain ⟨Y, hY⟩ : ∃ Y : MkX, Y = { X with tv := .slice (some ⟨σ.nx, 0, none⟩) q.k q.k } := ⟨_, rfl⟩
    have y1 : Y.A = X.A := by rw [hY]
    have y2 : Y.B = X.B := by rw [hY]
    have y3 : Y.a4 = X.a4 := by rw [hY]
    have y4 : Y.tv = .slice (some ⟨σ.nx, 0, none⟩) q.k q.k := by rw [hY]
    have y5 : Y.ns = ns := by rw [hY]; exact hXns
    have y6 : Y.pl = q.pl := by rw [hY]; exact hpl
    have y7 : Y.cl = q.cl := by rw [hY]; exact hcl
    rw [← hY, ← y5] at hM
    rw [← y3] at t4
    rw [← y1] at t5
    rw [← y2] at t8
    rw [← y4]
    clear hY y1 y2 y3 y4 hXns hpl hcl
    (first | (refine OpsL.q (by exact oasg) ?_))
    refine OpsL.nil ?_
    (change Trip _ _ _ _ _)
    refine Trip.seq (Trip.seq ?_)
    refine Trip.ops ?_
    (first | (refine OpsL.q (by exact oasg) ?_))
    refine OpsL.nil ?_
    (change Trip _ _ _ _ _)
    refine mkL1 (X := Y) (q := q) W0 hq hn0 ⟨by simp [tmPut, *], by simp [tmPut, *], by simp [tmPut, *], by simp [tmPut, *], by simp [tmPut, *], by simp [tmPut]⟩ (by simp [tmPut]) hM ?_
    clear t4 t5 t6 t7 t8 hM
    intro tm σ V ⟨t4, t5, t6, t7, t8, t9⟩ hM
    rw [d1_d2] at hM
    dsimp only
    refine Trip.seq (Trip.seq ?_)
    refine Trip.ops ?_
    (first | (refine OpsL.q (by exact oasg) ?_))
    refine OpsL.nil ?_
    (change Trip _ _ _ _ _)
    refine mkL2 (X := Y) (q := q) W0 hq hn0 ⟨by simp [tmPut, *], by simp [tmPut, *], by simp [tmPut, *], by simp [tmPut, *], by simp [tmPut, *], by simp [tmPut, *]⟩ (by simp [tmPut]) hM ?_
    clear t4 t5 t6 t7 t8 t9 hM
    intro tm σ V ⟨t4, t5, t6, t7, t8, t9⟩ hM
    rw [d2_d3] at hM
    dsimp only
    refine Trip.seq (Trip.seq ?_)
    refine Trip.ops ?_
    (first | (refine OpsL.q (by exact oasg) ?_))
    refine OpsL.nil ?_
    (change Trip _ _ _ _ _)
    refine mkL3 (X := Y) (q := q) W0 hq hn0 y6 y7 ⟨by simp [tmPut, *], by simp [tmPut, *], by simp [tmPut, *], by simp [tmPut, *], by simp [tmPut, *], by simp [tmPut, *]⟩ (by simp [tmPut]) hM ?_
    clear t4 t5 t6 t7 t8 t9 hM
    intro tm σ V ⟨t4, t5, t6, t7, t8, t9⟩ hM
    dsimp only
    obtain ⟨cs, hcs, h4⟩ := hM.r
    have hga : getc σ.H ⟨Y.A, 0, none⟩ 8 = some (moC Y.pl Y.cl V) := getc_all hM.a.2.2 rfl
    refine Trip.seq ?_
    refine Trip.ops ?_
    refine OpsL.p (by subst_vars; decide) (aop_loadAgg (k := 8) (by (first | (simp only [ASt.ev, tmPut, ↓reduceIte, Nat.reduceEqDiff, *]; done))) (by exact rfl) rfl (by exact rfl) hga) ?_
    have so : V.o.oneCell' = true := by obtain ⟨_, e, _⟩ := hM.of.block; rw [e]; rfl
    have se : V.e.oneCell' = true := by obtain ⟨_, e, _⟩ := hM.en.block; rw [e]; rfl
    have sf : V.f.oneCell' = true := by obtain ⟨_, _, e⟩ := OwnC.slice encBo_len hM.fi; rw [e]; rfl
    have si : V.i.oneCell' = true := by obtain ⟨_, q1, _⟩ := hM.inn; obtain ⟨_, _, e⟩ := OwnC.slice encS_len q1; rw [e]; rfl
    have sl : V.l.oneCell' = true := by obtain ⟨_, q1, _⟩ := hM.low; obtain ⟨_, _, e⟩ := OwnC.slice encS_len q1; rw [e]; rfl
    have sr : V.r.oneCell' = true := by obtain ⟨_, q1, _⟩ := hM.ret; obtain ⟨_, _, e⟩ := OwnC.slice encS_len q1; rw [e]; rfl
    refine OpsL.setAllC (vs := moC Y.pl Y.cl V) h4 (by exact rfl) rfl (by rw [hcs]; rfl) (by simp only [moC, List.all_cons, List.all_nil, so, se, sf, si, sl, sr, Bool.and_true]; rfl) (by (first | (simp only [ASt.ev, tmPut, ↓reduceIte, Nat.reduceEqDiff, *]; done))) (by (first | (simp only [ASt.ev, tmPut, ↓reduceIte, Nat.reduceEqDiff, *]; done))) ?_
    intro τ ho hx
    refine OpsL.nil ?_
    (change Trip _ _ _ _ _)
    refine Trip.ret ?_
    refine ⟨.inr rfl, _, res_cell (by simp [tmPut, *]) (readAt_agg (by exact rfl) rfl (by exact rfl) (getc_all ho.2.2 rfl)), V, τ, ?_, rfl, rfl, hM.old.keep hx (by simp), ?_⟩
    · rw [y6, y7]
      rfl
    · have h1 := hM.of.keep hx (by simp)
      have h2 := hM.en.keep hx (by simp)
      have h3 := hM.fi.keep hx (by simp)
      have h5 := Row2.keepL hx (by simp) (fun _ _ => by simp) hM.inn
      have h6 := Row2.keepL hx (by simp) (fun _ _ => by simp) hM.low
      have h7 := Row3.keepL hx (by simp) (fun _ _ => by simp) (fun _ _ _ => by simp) hM.ret
      rw [y5] at h1 h2 h3 h5 h6 h7
      exact ⟨h1, h2, h3, h5, h6, h7⟩
end Go.Proofs.Ytooakbmehcchnaa
namespace Go.Am
theorem iffT {P : Prop} (h : true = true ↔ P) : P := h.1 rfl
theorem iffF {P : Prop} (h : false = true ↔ P) : ¬ P := fun q => by cases h.2 q
theorem boolF {P : Prop} [Decidable P] (h : ¬ P) : Value.bool false = Value.bool (decide P) := by rw [decide_eq_false h]
theorem boolD {P Q : Prop} [Decidable P] [Decidable Q] (h : P ↔ Q) : Value.bool (decide P) = Value.bool (decide Q) := by rw [decide_eq_decide.2 h]
end Go.Am
namespace Go.Proofs.Ytooakbmehcchnaa
open Go.Am Go.RowKit
attribute [local irreducible] aop OpsL Trip blockExit OpsD OpsK OpsR
theorem entersFrom : Am.Enters Try.prog 56 := ⟨Try.f56, Try.func56, by kernel_rfl, by kernel_rfl⟩
theorem isFromC (W0 : World) {nx : Nat} {H : Heap} (a b c : Int) : ACalls Try.prog W0 56 [.int .i64 a, .int .i64 b, .int .i64 c] nx H fun v nx' H' => ∃ d : Bool, v = .bool d ∧ (d = true ↔ (a ≤ b ∧ b ≤ c)) ∧ nx' = nx ∧ H' = H := by
  refine ACalls.by_trip (fn := Try.f56) (c := _) Try.func56 rfl (fun tm n hn0 htm => ?_)
  have e0 : tm 0 = .int .i64 a := htm 0
  have e1 : tm 1 = .int .i64 b := htm 1
  have e2 : tm 2 = .int .i64 c := htm 2
  clear htm
  replace hn0 : n = 15 := hn0
  repeat (first | (refine OpsL.q (by first | exact omv | exact oasg | exact oleq | exact opkT) ?_) | (refine Trip.seq ?_) | (refine Trip.ops ?_) | (refine Trip.ret ?_; (dsimp only)) | (refine OpsL.nil ?_; (change Trip _ _ _ _ _)) | (refine OpsL.ung ?_) | (refine OpsL.gT (fun _ => ?_) (fun _ => ?_)))
  · exact ⟨.inr rfl, _, res_tmp, decide (b ≤ c), by simp [tmPut, *], by simp [*], rfl, rfl⟩
  · repeat (first | (refine OpsL.q (by first | exact oasg | exact opkF) ?_) | (refine Trip.ret ?_; (dsimp only)) | (refine OpsL.nil ?_; (change Trip _ _ _ _ _)) | (refine OpsL.skp ?_))
    exact ⟨.inr rfl, _, res_tmp, false, by simp [tmPut, *], by simp [*], rfl, rfl⟩
theorem entersIsIn : Am.Enters Try.prog 57 := ⟨Try.f57, Try.func57, by kernel_rfl, by kernel_rfl⟩
theorem isInC (W0 : World) {nx : Nat} {H : Heap} {m : Mo} {V : MoV} (hm : MoIn H m V) (hn : MoLen m) (p k : Int) : ACalls Try.prog W0 57 [.agg (moV m V).toArray, .int .i64 p, .int .i64 k] nx H fun v nx' H' => v = .bool (inF m p k) ∧ Ext nx H nx' H' := by
  refine ACalls.by_trip (fn := Try.f57) (c := _) Try.func57 rfl (fun tm n hn0 htm => ?_)
  have e0 : tm 0 = .agg (moV m V).toArray := htm 0
  have e1 : tm 1 = .int .i64 p := htm 1
  have e2 : tm 2 = .int .i64 k := htm 2
  clear htm
  replace hn0 : n = 22 := hn0
  refine Trip.ok fun hok => ?_
  replace hok : ∀ id o, H id = some o → id < nx := hok
  refine Trip.seq ?_
  refine Trip.ops ?_
  refine OpsL.boxM hm hok ?_ (by (first | (simp only [ASt.ev, tmPut, ↓reduceIte, Nat.reduceEqDiff, *]; done))) (by subst_vars; decide)
  intro G x0 okG hb hG
  clear e0
  obtain ⟨oa, oc, ov⟩ := hG.of.slice
  have oh := hG.of
  have g2 := hb.c2
  rw [ov] at oh g2
  have q0 := hn.of
  repeat (first | (refine OpsL.q (by first | exact omv | exact oasg | exact osub | exact olen | exact ofa | exact old) ?_) | (refine Trip.seq ?_) | (refine Trip.ops ?_) | (refine OpsL.nil ?_; (change Trip _ _ _ _ _)))
  refine OpsL.c3 (hf := entersFrom) (hc := (isFromC W0 _ _ _)) (h := ?_)
  rintro v1 nx1 H1 ⟨d, rfl, hd, rfl, rfl⟩
  cases d
  · replace hd := iffF hd
    repeat (first | (refine OpsL.q (by first | exact omv | exact oasg | exact opkF) ?_) | (refine Trip.ret ?_; (dsimp only)) | (refine OpsL.nil ?_; (change Trip _ _ _ _ _)) | (refine OpsL.skp ?_))
    exact ⟨.inr rfl, _, res_tmp, boolF (fun q => hd q.1), x0⟩
  · replace hd := iffT hd
    obtain ⟨p0, p1⟩ := hd
    obtain ⟨q, rfl, hc⟩ := IntsAt.atI oh p0 (show p < m.of.length by omega)
    repeat (first | (refine OpsL.q (by first | exact omv | exact oasg | exact oeql | exact oixa | exact ofa | exact old | exact opkT) ?_) | (refine Trip.ret ?_; (dsimp only)) | (refine OpsL.nil ?_; (change Trip _ _ _ _ _)) | (refine OpsL.ung ?_))
    exact ⟨.inr rfl, _, res_tmp, boolD ⟨fun h => ⟨⟨p0, p1⟩, h⟩, fun h => h.2⟩, x0⟩
theorem entersAreIn : Am.Enters Try.prog 58 := ⟨Try.f58, Try.func58, by kernel_rfl, by kernel_rfl⟩
theorem areInC (W0 : World) {nx : Nat} {H : Heap} {m : Mo} {V : MoV} (hm : MoIn H m V) (hn : MoLen m) {lv : Value} {l : List Int} (hl : IntsAt H lv l) (hll : l.length ≤ 100000) (k : Int) : ACalls Try.prog W0 58 [.agg (moV m V).toArray, lv, .int .i64 k] nx H fun v nx' H' => v = .bool (areF m l k) ∧ Ext nx H nx' H' := by
  refine ACalls.by_trip (fn := Try.f58) (c := _) Try.func58 rfl (fun tm n hn0 htm => ?_)
  have e0 : tm 0 = .agg (moV m V).toArray := htm 0
  have e1 : tm 1 = lv := htm 1
  have e2 : tm 2 = .int .i64 k := htm 2
  clear htm
  replace hn0 : n = 21 := hn0
  refine Trip.ok fun hok => ?_
  replace hok : ∀ id o, H id = some o → id < nx := hok
  refine Trip.seq ?_
  refine Trip.ops ?_
  refine OpsL.boxM hm hok ?_ (by (first | (simp only [ASt.ev, tmPut, ↓reduceIte, Nat.reduceEqDiff, *]; done))) (by subst_vars; decide)
  intro G x0 okG hb hG
  clear e0
  obtain ⟨la, lc, rfl⟩ := hl.slice
  have hlG := hl.ext x0 hok
  repeat (first | (refine OpsL.q (by first | exact omv | exact oasg | exact olen) ?_) | (refine Trip.seq ?_) | (refine Trip.ops ?_) | (refine Trip.block ?_) | (refine OpsL.nil ?_; (change Trip _ _ _ _ _)))
  refine Trip.inv (fun (i : Nat) s => ∃ (tm : Nat → Value) (nx' : Nat) (H' : Heap), s = ⟨tm, n, H', nx'⟩ ∧ Ext (nx + 1) G nx' H' ∧ tm 2 = .int .i64 k ∧ tm 3 = .pointer (some ⟨nx, 0, none⟩) ∧ tm 9 = .slice la l.length lc ∧ tm 10 = .int .i64 l.length ∧ tm 11 = .int .i64 i ∧ i ≤ l.length ∧ allN i (fun i => inF m (l.getD i 0) k) = true) (fun i => l.length - i) 0 ?_ ?_
  · exact ⟨_, _, _, rfl, Ext.refl, by simp [tmPut, *], by simp [tmPut, *], by simp [tmPut, *], by simp [tmPut, *], by simp [tmPut, *], by omega, allN_zero⟩
  clear e1 e2
  rintro i s ⟨tm, nx', H', rfl, hx, e2, e3, e9, e10, e11, hi, hall⟩
  repeat (first | (refine OpsL.q (by exact olss) ?_) | (refine Trip.seq ?_) | (refine Trip.ops ?_) | (refine Trip.block ?_) | (refine Trip.itA (fun _ => ?_) (fun _ => ?_)) | (refine Trip.skip ?_; (change Trip _ _ _ _ _)) | (refine OpsL.nil ?_; (change Trip _ _ _ _ _)))
  · have hlt : i < l.length := by omega
    obtain ⟨q, rfl, hc⟩ := IntsAt.atI (hlG.ext hx okG) (show (0 : Int) ≤ i by omega) (show (i : Int) < l.length by omega)
    rw [Int.toNat_natCast] at hc
    repeat (first | (refine OpsL.q (by first | exact oasg | exact oixa | exact old) ?_) | (refine Trip.seq ?_) | (refine Trip.ops ?_) | (refine OpsL.nil ?_; (change Trip _ _ _ _ _)))
    refine OpsL.loadM (hb.ext hx okG) ?_ (by (first | (simp only [ASt.ev, tmPut, ↓reduceIte, Nat.reduceEqDiff, *]; done))) (by subst_vars; decide)
    repeat (first | (refine OpsL.q (by exact omv) ?_))
    refine OpsL.c3 (hf := entersIsIn) (hc := (isInC W0 (hG.ext hx okG) hn _ _)) (h := ?_)
    rintro v1 nx1 H1 ⟨rfl, y1⟩
    cases hs : inF m (l.getD i 0) k
    · repeat (first | (refine OpsL.q (by exact onot) ?_) | (refine OpsL.nil ?_; (change Trip _ _ _ _ _)))
      refine Trip.ifT ?_
      repeat (first | (refine OpsL.q (by exact oasg) ?_) | (refine Trip.seq ?_) | (refine Trip.ops ?_) | (refine Trip.ret ?_; ((repeat (refine blockExit_ret ?_)); dsimp only)) | (refine OpsL.nil ?_; (change Trip _ _ _ _ _)))
      exact ⟨.inr rfl, _, res_tmp, by rw [show areF m l k = false from allN_no hlt hs]; rfl, (x0.trans hx).trans y1⟩
    · repeat (first | (refine OpsL.q (by exact onot) ?_) | (refine OpsL.nil ?_; (change Trip _ _ _ _ _)))
      refine Trip.ifF ?_
      repeat (first | (refine OpsL.q (by first | exact omv | exact oadd) ?_) | (refine Trip.ops ?_) | (refine Trip.skip ?_; ((repeat (refine blockExit_normal ?_)); change Trip _ _ _ _ _)) | (refine OpsL.nil ?_; (dsimp only)))
      exact ⟨i + 1, ⟨_, _, _, rfl, hx.trans y1, by simp [tmPut, *], by simp [tmPut, *], by simp [tmPut, *], by simp [tmPut, *], by simp [tmPut, *], by omega, allN_put hall hs⟩, by omega⟩
  · repeat (first | (refine OpsL.q (by exact oasg) ?_) | (refine Trip.seq ?_) | (refine Trip.ops ?_) | (refine Trip.exit ?_; ((repeat (refine blockExit_eq ?_)); change Trip _ _ _ _ _)) | (refine Trip.ret ?_; (dsimp only)) | (refine OpsL.nil ?_; (change Trip _ _ _ _ _)))
    have hi2 : i = l.length := by omega
    subst hi2
    exact ⟨.inr rfl, _, res_tmp, by rw [show areF m l k = true from hall]; rfl, x0.trans hx⟩
theorem entersSized : Am.Enters Try.prog 41 := ⟨Try.f41, Try.func41, by kernel_rfl, by kernel_rfl⟩
theorem isSizedC (W0 : World) {nx : Nat} {H : Heap} {m : Mo} {V : MoV} (hm : MoIn H m V) : ACalls Try.prog W0 41 [.agg (moV m V).toArray] nx H fun v nx' H' => v = .bool (sizedF m) ∧ Ext nx H nx' H' := by
  refine ACalls.by_trip (fn := Try.f41) (c := _) Try.func41 rfl (fun tm n hn0 htm => ?_)
  have e0 : tm 0 = .agg (moV m V).toArray := htm 0
  clear htm
  replace hn0 : n = 53 := hn0
  refine Trip.ok fun hok => ?_
  replace hok : ∀ id o, H id = some o → id < nx := hok
  refine Trip.seq ?_
  refine Trip.ops ?_
  refine OpsL.boxM hm hok ?_ (by (first | (simp only [ASt.ev, tmPut, ↓reduceIte, Nat.reduceEqDiff, *]; done))) (by subst_vars; decide)
  intro G x0 okG hb hG
  clear e0
  obtain ⟨oa, oc, ov⟩ := hG.of.slice
  have oh := hG.of
  have g2 := hb.c2
  rw [ov] at oh g2
  obtain ⟨ea, ec, ev⟩ := hG.entry.slice
  have eh := hG.entry
  have g3 := hb.c3
  rw [ev] at eh g3
  obtain ⟨fa, fc, fv⟩ := hG.final.slice
  have fh := hG.final
  have g4 := hb.c4
  rw [fv] at fh g4
  obtain ⟨ia, ic, iv⟩ := hG.inn.slice
  have ih := hG.inn
  have g5 := hb.c5
  rw [iv] at ih g5
  obtain ⟨la, lc, lv⟩ := hG.low.slice
  have lh := hG.low
  have g6 := hb.c6
  rw [lv] at lh g6
  obtain ⟨ra, rc, rv⟩ := hG.ret.slice
  have rh := hG.ret
  have g7 := hb.c7
  rw [rv] at rh g7
  have g0 := hb.c0
  have g1 := hb.c1
  repeat (first | (refine OpsL.q (by first | exact oasg | exact olen | exact ofa | exact old) ?_) | (refine Trip.seq ?_) | (refine Trip.ops ?_) | (refine OpsL.nil ?_; (change Trip _ _ _ _ _)))
  refine OpsL.c3 (hf := entersFrom) (hc := (isFromC W0 _ _ _)) (h := ?_)
  rintro v0 nx0 H0 ⟨d, rfl, hd0, rfl, rfl⟩
  cases d
  · replace hd0 := iffF hd0
    repeat (first | (refine OpsL.q (by first | exact omv | exact oasg | exact opkF) ?_) | (refine Trip.ret ?_; (dsimp only)) | (refine OpsL.nil ?_; (change Trip _ _ _ _ _)) | (refine OpsL.skp ?_))
    exact ⟨.inr rfl, _, res_tmp, boolF (by omega), x0⟩
  replace hd0 := iffT hd0
  repeat (first | (refine OpsL.q (by first | exact omv | exact ofa | exact old) ?_) | (refine OpsL.ung ?_))
  refine OpsL.c3 (hf := entersFrom) (hc := (isFromC W0 _ _ _)) (h := ?_)
  rintro v1 nx1 H1 ⟨d, rfl, hd1, rfl, rfl⟩
  cases d
  · replace hd1 := iffF hd1
    repeat (first | (refine OpsL.q (by first | exact omv | exact oasg | exact opkT | exact opkF) ?_) | (refine Trip.ret ?_; (dsimp only)) | (refine OpsL.nil ?_; (change Trip _ _ _ _ _)) | (refine OpsL.skp ?_))
    exact ⟨.inr rfl, _, res_tmp, boolF (by omega), x0⟩
  replace hd1 := iffT hd1
  repeat (first | (refine OpsL.q (by first | exact omv | exact opkT) ?_) | (refine OpsL.ung ?_))
  refine OpsL.c3 (hf := entersFrom) (hc := (isFromC W0 _ _ _)) (h := ?_)
  rintro v2 nx2 H2 ⟨d, rfl, hd2, rfl, rfl⟩
  cases d
  · replace hd2 := iffF hd2
    repeat (first | (refine OpsL.q (by first | exact omv | exact oasg | exact opkT | exact opkF) ?_) | (refine Trip.ret ?_; (dsimp only)) | (refine OpsL.nil ?_; (change Trip _ _ _ _ _)) | (refine OpsL.skp ?_))
    exact ⟨.inr rfl, _, res_tmp, boolF (by omega), x0⟩
  replace hd2 := iffT hd2
  repeat (first | (refine OpsL.q (by first | exact omv | exact olen | exact ofa | exact old | exact opkT) ?_) | (refine OpsL.ung ?_))
  refine OpsL.c3 (hf := entersFrom) (hc := (isFromC W0 _ _ _)) (h := ?_)
  rintro v3 nx3 H3 ⟨d, rfl, hd3, rfl, rfl⟩
  cases d
  · replace hd3 := iffF hd3
    repeat (first | (refine OpsL.q (by first | exact omv | exact oasg | exact opkT | exact opkF) ?_) | (refine Trip.ret ?_; (dsimp only)) | (refine OpsL.nil ?_; (change Trip _ _ _ _ _)) | (refine OpsL.skp ?_))
    exact ⟨.inr rfl, _, res_tmp, boolF (by omega), x0⟩
  replace hd3 := iffT hd3
  repeat' (first | (refine OpsL.q (by first | exact omv | exact oasg | exact oeql | exact olen | exact ofa | exact old | exact opkT | exact opkF) ?_) | (refine Trip.ret ?_; (dsimp only)) | (refine OpsL.nil ?_; (change Trip _ _ _ _ _)) | (refine OpsL.ung ?_) | (refine OpsL.skp ?_) | (refine OpsL.gT (fun _ => ?_) (fun _ => ?_)))
  all_goals first | exact ⟨.inr rfl, _, res_tmp, boolF (by omega), x0⟩ | exact ⟨.inr rfl, _, res_tmp, boolD (by omega), x0⟩
theorem entersHoused : Am.Enters Try.prog 42 := ⟨Try.f42, Try.func42, by kernel_rfl, by kernel_rfl⟩
theorem isHousedC (W0 : World) {nx : Nat} {H : Heap} {m : Mo} {V : MoV} (hm : MoIn H m V) (hn : MoLen m) : ACalls Try.prog W0 42 [.agg (moV m V).toArray] nx H fun v nx' H' => v = .bool (housedF m) ∧ Ext nx H nx' H' := by
  refine ACalls.by_trip (fn := Try.f42) (c := _) Try.func42 rfl (fun tm n hn0 htm => ?_)
  have e0 : tm 0 = .agg (moV m V).toArray := htm 0
  clear htm
  replace hn0 : n = 36 := hn0
  refine Trip.ok fun hok => ?_
  replace hok : ∀ id o, H id = some o → id < nx := hok
  refine Trip.seq ?_
  refine Trip.ops ?_
  refine OpsL.boxM hm hok ?_ (by (first | (simp only [ASt.ev, tmPut, ↓reduceIte, Nat.reduceEqDiff, *]; done))) (by subst_vars; decide)
  intro G x0 okG hb hG
  clear e0
  obtain ⟨oa, oc, ov⟩ := hG.of.slice
  have oh := hG.of
  have g2 := hb.c2
  rw [ov] at oh g2
  obtain ⟨ea, ec, ev⟩ := hG.entry.slice
  have eh := hG.entry
  have g3 := hb.c3
  rw [ev] at eh g3
  have q0 := hn.of
  have q1 := hn.entry
  repeat (first | (refine OpsL.q (by first | exact omv | exact oasg | exact olen | exact ofa | exact old) ?_) | (refine Trip.seq ?_) | (refine Trip.ops ?_) | (refine Trip.block ?_) | (refine OpsL.nil ?_; (change Trip _ _ _ _ _)))
  refine Trip.inv (fun (i : Nat) s => ∃ (tm : Nat → Value), s = ⟨tm, n, G, nx + 1⟩ ∧ tm 1 = .pointer (some ⟨nx, 0, none⟩) ∧ tm 8 = .slice oa m.of.length oc ∧ tm 9 = .int .i64 m.of.length ∧ tm 10 = .int .i64 i ∧ i ≤ m.of.length ∧ allN i (fun i => decide (0 ≤ m.of.getD i 0 ∧ m.of.getD i 0 ≤ (m.entry.length : Int) - 1)) = true) (fun i => m.of.length - i) 0 ?_ ?_
  · exact ⟨_, rfl, by simp [tmPut, *], by simp [tmPut, *], by simp [tmPut, *], by simp [tmPut, *], by omega, allN_zero⟩
  rintro i s ⟨tm, rfl, e1, e8, e9, e10, hi, hall⟩
  repeat (first | (refine OpsL.q (by exact olss) ?_) | (refine Trip.seq ?_) | (refine Trip.ops ?_) | (refine Trip.block ?_) | (refine Trip.itA (fun _ => ?_) (fun _ => ?_)) | (refine Trip.skip ?_; (change Trip _ _ _ _ _)) | (refine OpsL.nil ?_; (change Trip _ _ _ _ _)))
  · have hlt : i < m.of.length := by omega
    obtain ⟨q, rfl, hc⟩ := IntsAt.atI oh (show (0 : Int) ≤ i by omega) (show (i : Int) < m.of.length by omega)
    rw [Int.toNat_natCast] at hc
    repeat (first | (refine OpsL.q (by first | exact omv | exact oasg | exact osub | exact olen | exact oixa | exact ofa | exact old) ?_) | (refine Trip.seq ?_) | (refine Trip.ops ?_) | (refine OpsL.nil ?_; (change Trip _ _ _ _ _)))
    refine OpsL.c3 (hf := entersFrom) (hc := (isFromC W0 _ _ _)) (h := ?_)
    rintro v1 nx1 H1 ⟨d, rfl, hd, rfl, rfl⟩
    cases d
    · replace hd := iffF hd
      repeat (first | (refine OpsL.q (by exact onot) ?_) | (refine OpsL.nil ?_; (change Trip _ _ _ _ _)))
      refine Trip.ifT ?_
      repeat (first | (refine OpsL.q (by exact oasg) ?_) | (refine Trip.seq ?_) | (refine Trip.ops ?_) | (refine Trip.ret ?_; ((repeat (refine blockExit_ret ?_)); dsimp only)) | (refine OpsL.nil ?_; (change Trip _ _ _ _ _)))
      exact ⟨.inr rfl, _, res_tmp, by unfold housedF; rw [allN_no hlt (by simpa using hd)]; rfl, x0⟩
    · replace hd := iffT hd
      repeat (first | (refine OpsL.q (by exact onot) ?_) | (refine OpsL.nil ?_; (change Trip _ _ _ _ _)))
      refine Trip.ifF ?_
      repeat (first | (refine OpsL.q (by first | exact omv | exact oadd) ?_) | (refine Trip.ops ?_) | (refine Trip.skip ?_; ((repeat (refine blockExit_normal ?_)); change Trip _ _ _ _ _)) | (refine OpsL.nil ?_; (dsimp only)))
      exact ⟨i + 1, ⟨_, rfl, by simp [tmPut, *], by simp [tmPut, *], by simp [tmPut, *], by simp [tmPut, *], by omega, allN_put hall (by simpa using hd)⟩, by omega⟩
  have hi2 : i = m.of.length := by omega
  subst hi2
  repeat (first | (refine OpsL.q (by first | exact omv | exact olen | exact ofa | exact old) ?_) | (refine Trip.seq ?_) | (refine Trip.ops ?_) | (refine Trip.block ?_) | (refine Trip.exit ?_; ((repeat (refine blockExit_eq ?_)); change Trip _ _ _ _ _)) | (refine OpsL.nil ?_; (change Trip _ _ _ _ _)))
  have hall1 := hall
  clear e8 e9 e10 hall
  refine Trip.inv (fun (i : Nat) s => ∃ (tm : Nat → Value) (nx' : Nat) (H' : Heap), s = ⟨tm, n, H', nx'⟩ ∧ Ext (nx + 1) G nx' H' ∧ tm 1 = .pointer (some ⟨nx, 0, none⟩) ∧ tm 23 = .slice ea m.entry.length ec ∧ tm 24 = .int .i64 m.entry.length ∧ tm 25 = .int .i64 i ∧ i ≤ m.entry.length ∧ allN i (fun i => inF m (m.entry.getD i 0) i) = true) (fun i => m.entry.length - i) 0 ?_ ?_
  · exact ⟨_, _, _, rfl, Ext.refl, by simp [tmPut, *], by simp [tmPut, *], by simp [tmPut, *], by simp [tmPut, *], by omega, allN_zero⟩
  clear e1
  rintro i s ⟨tm, nx', H', rfl, hx, e1, e8, e9, e10, hi, hall⟩
  repeat (first | (refine OpsL.q (by first | exact omv | exact olss) ?_) | (refine Trip.seq ?_) | (refine Trip.ops ?_) | (refine Trip.block ?_) | (refine Trip.itA (fun _ => ?_) (fun _ => ?_)) | (refine Trip.skip ?_; (change Trip _ _ _ _ _)) | (refine OpsL.nil ?_; (change Trip _ _ _ _ _)))
  · have hlt : i < m.entry.length := by omega
    obtain ⟨q, rfl, hc⟩ := IntsAt.atI (eh.ext hx okG) (show (0 : Int) ≤ i by omega) (show (i : Int) < m.entry.length by omega)
    rw [Int.toNat_natCast] at hc
    repeat (first | (refine OpsL.q (by first | exact oasg | exact oixa | exact old) ?_) | (refine Trip.seq ?_) | (refine Trip.ops ?_) | (refine OpsL.nil ?_; (change Trip _ _ _ _ _)))
    refine OpsL.loadM (hb.ext hx okG) ?_ (by (first | (simp only [ASt.ev, tmPut, ↓reduceIte, Nat.reduceEqDiff, *]; done))) (by subst_vars; decide)
    repeat (first | (refine OpsL.q (by exact omv) ?_))
    refine OpsL.c3 (hf := entersIsIn) (hc := (isInC W0 (hG.ext hx okG) hn _ _)) (h := ?_)
    rintro v1 nx1 H1 ⟨rfl, y1⟩
    cases hs : inF m (m.entry.getD i 0) i
    · repeat (first | (refine OpsL.q (by exact onot) ?_) | (refine OpsL.nil ?_; (change Trip _ _ _ _ _)))
      refine Trip.ifT ?_
      repeat (first | (refine OpsL.q (by exact oasg) ?_) | (refine Trip.seq ?_) | (refine Trip.ops ?_) | (refine Trip.ret ?_; ((repeat (refine blockExit_ret ?_)); dsimp only)) | (refine OpsL.nil ?_; (change Trip _ _ _ _ _)))
      exact ⟨.inr rfl, _, res_tmp, by unfold housedF; rw [allN_no (n := m.entry.length) hlt hs, Bool.and_false]; rfl, (x0.trans hx).trans y1⟩
    · repeat (first | (refine OpsL.q (by exact onot) ?_) | (refine OpsL.nil ?_; (change Trip _ _ _ _ _)))
      refine Trip.ifF ?_
      repeat (first | (refine OpsL.q (by first | exact omv | exact oadd) ?_) | (refine Trip.ops ?_) | (refine Trip.skip ?_; ((repeat (refine blockExit_normal ?_)); change Trip _ _ _ _ _)) | (refine OpsL.nil ?_; (dsimp only)))
      exact ⟨i + 1, ⟨_, _, _, rfl, hx.trans y1, by simp [tmPut, *], by simp [tmPut, *], by simp [tmPut, *], by simp [tmPut, *], by omega, allN_put hall hs⟩, by omega⟩
  · repeat (first | (refine OpsL.q (by exact oasg) ?_) | (refine Trip.seq ?_) | (refine Trip.ops ?_) | (refine Trip.exit ?_; ((repeat (refine blockExit_eq ?_)); change Trip _ _ _ _ _)) | (refine Trip.ret ?_; (dsimp only)) | (refine OpsL.nil ?_; (change Trip _ _ _ _ _)))
    have hi2 : i = m.entry.length := by omega
    subst hi2
    exact ⟨.inr rfl, _, res_tmp, by unfold housedF; rw [hall1, hall]; rfl, x0.trans hx⟩
end Go.Proofs.Ytooakbmehcchnaa
namespace Go.Proofs.Ytooakbmehcchnaa
open Go.Am Go.RowKit
attribute [local irreducible] aop OpsL Trip blockExit OpsD OpsK OpsR
theorem entersPlain : Am.Enters Try.prog 43 := ⟨Try.f43, Try.func43, by kernel_rfl, by kernel_rfl⟩
theorem isPlainC (W0 : World) {nx : Nat} {H : Heap} {m : Mo} {V : MoV} (hm : MoIn H m V) (hn : MoLen m) {p : Nat} (hp : p < m.of.length) (hp1 : p < m.inn.length) : ACalls Try.prog W0 43 [.agg (moV m V).toArray, .int .i64 p] nx H fun v nx' H' => v = .bool (plnF m p) ∧ Ext nx H nx' H' := by
  refine ACalls.by_trip (fn := Try.f43) (c := _) Try.func43 rfl (fun tm n hn0 htm => ?_)
  have e0 : tm 0 = .agg (moV m V).toArray := htm 0
  have e1 : tm 1 = .int .i64 p := htm 1
  clear htm
  replace hn0 : n = 28 := hn0
  refine Trip.ok fun hok => ?_
  replace hok : ∀ id o, H id = some o → id < nx := hok
  refine Trip.seq ?_
  refine Trip.ops ?_
  refine OpsL.boxM hm hok ?_ (by (first | (simp only [ASt.ev, tmPut, ↓reduceIte, Nat.reduceEqDiff, *]; done))) (by subst_vars; decide)
  intro G x0 okG hb hG
  clear e0
  obtain ⟨oa, oc, ov⟩ := hG.of.slice
  have oh := hG.of
  have g2 := hb.c2
  rw [ov] at oh g2
  obtain ⟨ia, ic, iv⟩ := hG.inn.slice
  have ih := hG.inn
  have g5 := hb.c5
  rw [iv] at ih g5
  have g0 := hb.c0
  obtain ⟨q, rfl, hc⟩ := IntsAt.atI oh (show (0 : Int) ≤ p by omega) (show (p : Int) < m.of.length by omega)
  obtain ⟨q1, rb, rk, rfl, hc1, hrow⟩ := L2At.atI ih (show (0 : Int) ≤ p by omega) (show (p : Int) < m.inn.length by omega)
  simp only [Int.toNat_natCast] at hc hc1 hrow
  have hl := hn.inn1 p
  repeat (first | (refine OpsL.q (by exact oasg) ?_) | (refine Trip.seq ?_) | (refine OpsL.nil ?_; (change Trip _ _ _ _ _)))
  cases hd : decide (((m.inn.getD p []).length : Int) = m.plains)
  · refine OpsR.drawnW [21] (K := fun _ _ => True) mixed13 (by kernel_rfl) (by kernel_rfl) [0, 1, 2, 3, 4, 5, 6, 7, 8, 9, 10, 11, 12, 13, 14, 15, 16, 17, 18, 19, 20, 21, 22, 23] (by kernel_rfl) trivial ?_
    refine OpsR.one rfl rfl rfl (by kernel_rfl) ?_
    repeat (first | (refine OpsL.q (by exact ofa) ?_) | (refine OpsL.nil ?_; (dsimp only)))
    refine OpsR.one rfl rfl rfl (by kernel_rfl) ?_
    repeat (first | (refine OpsL.q (by exact old) ?_) | (refine OpsL.nil ?_; (skip)))
    refine OpsR.one rfl rfl rfl (by kernel_rfl) ?_
    repeat (first | (refine OpsL.q (by exact omv) ?_) | (refine OpsL.nil ?_; (skip)))
    refine OpsR.one rfl rfl rfl (by kernel_rfl) ?_
    repeat (first | (refine OpsL.q (by exact oixa) ?_) | (refine OpsL.nil ?_; (dsimp only)))
    refine OpsR.one rfl rfl rfl (by kernel_rfl) ?_
    repeat (first | (refine OpsL.q (by exact old) ?_) | (refine OpsL.nil ?_; (skip)))
    refine OpsR.one rfl rfl rfl (by kernel_rfl) ?_
    repeat (first | (refine OpsL.q (by exact olen) ?_) | (refine OpsL.nil ?_; (skip)))
    refine OpsR.one rfl rfl rfl (by kernel_rfl) ?_
    repeat (first | (refine OpsL.q (by exact ofa) ?_) | (refine OpsL.nil ?_; (dsimp only)))
    refine OpsR.one rfl rfl rfl (by kernel_rfl) ?_
    repeat (first | (refine OpsL.q (by exact old) ?_) | (refine OpsL.nil ?_; (skip)))
    refine OpsR.one rfl rfl rfl (by kernel_rfl) ?_
    repeat (first | (refine OpsL.q (by exact oeql) ?_) | (refine OpsL.nil ?_; (skip)))
    refine OpsR.one rfl rfl rfl (by kernel_rfl) ?_
    repeat (first | (refine OpsL.q (by exact omv) ?_) | (refine OpsL.nil ?_; (skip)))
    refine OpsR.one rfl rfl rfl (by kernel_rfl) ?_
    repeat (first | (refine OpsL.nil ?_; (skip)) | (refine OpsL.skp ?_))
    refine OpsR.one rfl rfl rfl (by kernel_rfl) ?_
    repeat (first | (refine OpsL.nil ?_; (skip)) | (refine OpsL.skp ?_))
    refine OpsR.one rfl rfl rfl (by kernel_rfl) ?_
    repeat (first | (refine OpsL.nil ?_; (skip)) | (refine OpsL.skp ?_))
    refine OpsR.one rfl rfl rfl (by kernel_rfl) ?_
    repeat (first | (refine OpsL.nil ?_; (skip)) | (refine OpsL.skp ?_))
    refine OpsR.one rfl rfl rfl (by kernel_rfl) ?_
    repeat (first | (refine OpsL.nil ?_; (skip)) | (refine OpsL.skp ?_))
    refine OpsR.one rfl rfl rfl (by kernel_rfl) ?_
    repeat (first | (refine OpsL.nil ?_; (skip)) | (refine OpsL.skp ?_))
    refine OpsR.one rfl rfl rfl (by kernel_rfl) ?_
    repeat (first | (refine OpsL.nil ?_; (skip)) | (refine OpsL.skp ?_))
    refine OpsR.one rfl rfl rfl (by kernel_rfl) ?_
    repeat (first | (refine OpsL.nil ?_; (skip)) | (refine OpsL.skp ?_))
    refine OpsR.one rfl rfl rfl (by kernel_rfl) ?_
    repeat (first | (refine OpsL.nil ?_; (skip)) | (refine OpsL.skp ?_))
    refine OpsR.one rfl rfl rfl (by kernel_rfl) ?_
    repeat (first | (refine OpsL.nil ?_; (skip)) | (refine OpsL.skp ?_))
    refine OpsR.one rfl rfl rfl (by kernel_rfl) ?_
    repeat (first | (refine OpsL.nil ?_; (skip)) | (refine OpsL.skp ?_))
    refine OpsR.act (by kernel_rfl) (ActStep.walk rfl rfl ?_)
    repeat (first | (refine OpsL.nil ?_; (skip)) | (refine OpsL.skp ?_))
    refine ⟨trivial, ?_⟩
    refine OpsR.one rfl rfl rfl (by kernel_rfl) ?_
    repeat (first | (refine OpsL.q (by exact opkF) ?_) | (refine OpsL.nil ?_; (skip)))
    refine OpsR.one rfl rfl rfl (by kernel_rfl) ?_
    repeat (first | (refine OpsL.q (by exact oasg) ?_) | (refine OpsL.nil ?_; (skip)))
    refine OpsR.nil ?_
    (change Trip _ _ _ _ _)
    repeat (first | (refine Trip.ret ?_; (dsimp only)))
    exact ⟨.inr rfl, _, res_tmp, by unfold plnF; rw [hd]; rfl, x0⟩
  · refine OpsR.drawnW [21] (K := fun _ _ => True) mixed13 (by kernel_rfl) (by kernel_rfl) [0, 1, 2, 3, 4, 5, 6, 7, 8, 9, 10, 11, 12, 13, 14, 15, 16, 17, 18, 19, 20, 21, 22, 23] (by kernel_rfl) trivial ?_
    refine OpsR.one rfl rfl rfl (by kernel_rfl) ?_
    repeat (first | (refine OpsL.q (by exact ofa) ?_) | (refine OpsL.nil ?_; (dsimp only)))
    refine OpsR.one rfl rfl rfl (by kernel_rfl) ?_
    repeat (first | (refine OpsL.q (by exact old) ?_) | (refine OpsL.nil ?_; (skip)))
    refine OpsR.one rfl rfl rfl (by kernel_rfl) ?_
    repeat (first | (refine OpsL.q (by exact omv) ?_) | (refine OpsL.nil ?_; (skip)))
    refine OpsR.one rfl rfl rfl (by kernel_rfl) ?_
    repeat (first | (refine OpsL.q (by exact oixa) ?_) | (refine OpsL.nil ?_; (dsimp only)))
    refine OpsR.one rfl rfl rfl (by kernel_rfl) ?_
    repeat (first | (refine OpsL.q (by exact old) ?_) | (refine OpsL.nil ?_; (skip)))
    refine OpsR.one rfl rfl rfl (by kernel_rfl) ?_
    repeat (first | (refine OpsL.q (by exact olen) ?_) | (refine OpsL.nil ?_; (skip)))
    refine OpsR.one rfl rfl rfl (by kernel_rfl) ?_
    repeat (first | (refine OpsL.q (by exact ofa) ?_) | (refine OpsL.nil ?_; (dsimp only)))
    refine OpsR.one rfl rfl rfl (by kernel_rfl) ?_
    repeat (first | (refine OpsL.q (by exact old) ?_) | (refine OpsL.nil ?_; (skip)))
    refine OpsR.one rfl rfl rfl (by kernel_rfl) ?_
    repeat (first | (refine OpsL.q (by exact oeql) ?_) | (refine OpsL.nil ?_; (skip)))
    refine OpsR.one rfl rfl rfl (by kernel_rfl) ?_
    repeat (first | (refine OpsL.q (by exact omv) ?_) | (refine OpsL.nil ?_; (skip)))
    refine OpsR.one rfl rfl rfl (by kernel_rfl) ?_
    repeat (first | (refine OpsL.ung ?_))
    refine OpsL.loadM hb ?_ (by (first | (simp only [ASt.ev, tmPut, ↓reduceIte, Nat.reduceEqDiff, *]; done))) (by subst_vars; decide)
    repeat (first | (refine OpsL.nil ?_; (skip)))
    refine OpsR.one rfl rfl rfl (by kernel_rfl) ?_
    repeat (first | (refine OpsL.q (by exact ofa) ?_) | (refine OpsL.nil ?_; (dsimp only)) | (refine OpsL.ung ?_))
    refine OpsR.one rfl rfl rfl (by kernel_rfl) ?_
    repeat (first | (refine OpsL.q (by exact old) ?_) | (refine OpsL.nil ?_; (skip)) | (refine OpsL.ung ?_))
    refine OpsR.one rfl rfl rfl (by kernel_rfl) ?_
    repeat (first | (refine OpsL.q (by exact omv) ?_) | (refine OpsL.nil ?_; (skip)) | (refine OpsL.ung ?_))
    refine OpsR.one rfl rfl rfl (by kernel_rfl) ?_
    repeat (first | (refine OpsL.q (by exact oixa) ?_) | (refine OpsL.nil ?_; (dsimp only)) | (refine OpsL.ung ?_))
    refine OpsR.one rfl rfl rfl (by kernel_rfl) ?_
    repeat (first | (refine OpsL.q (by exact old) ?_) | (refine OpsL.nil ?_; (skip)) | (refine OpsL.ung ?_))
    refine OpsR.one rfl rfl rfl (by kernel_rfl) ?_
    repeat (first | (refine OpsL.q (by exact ofa) ?_) | (refine OpsL.nil ?_; (dsimp only)) | (refine OpsL.ung ?_))
    refine OpsR.one rfl rfl rfl (by kernel_rfl) ?_
    repeat (first | (refine OpsL.q (by exact old) ?_) | (refine OpsL.nil ?_; (skip)) | (refine OpsL.ung ?_))
    refine OpsR.one rfl rfl rfl (by kernel_rfl) ?_
    repeat (first | (refine OpsL.q (by exact omv) ?_) | (refine OpsL.nil ?_; (skip)) | (refine OpsL.ung ?_))
    refine OpsR.one rfl rfl rfl (by kernel_rfl) ?_
    repeat (first | (refine OpsL.q (by exact oixa) ?_) | (refine OpsL.nil ?_; (dsimp only)) | (refine OpsL.ung ?_))
    refine OpsR.one rfl rfl rfl (by kernel_rfl) ?_
    repeat (first | (refine OpsL.q (by exact old) ?_) | (refine OpsL.nil ?_; (skip)) | (refine OpsL.ung ?_))
    refine OpsR.act (by kernel_rfl) (ActStep.walk rfl rfl ?_)
    repeat (first | (refine OpsL.ung ?_))
    refine OpsL.c3 (hf := entersAreIn) (hc := (areInC W0 hG hn hrow hl _)) (h := ?_)
    rintro v1 nx1 H1 ⟨rfl, y1⟩
    refine OpsL.nil ⟨trivial, ?_⟩
    refine OpsR.one rfl rfl rfl (by kernel_rfl) ?_
    repeat (first | (refine OpsL.q (by exact opkT) ?_) | (refine OpsL.nil ?_; (skip)))
    refine OpsR.one rfl rfl rfl (by kernel_rfl) ?_
    repeat (first | (refine OpsL.q (by exact oasg) ?_) | (refine OpsL.nil ?_; (skip)))
    refine OpsR.nil ?_
    (change Trip _ _ _ _ _)
    repeat (first | (refine Trip.ret ?_; (dsimp only)))
    exact ⟨.inr rfl, _, res_tmp, by unfold plnF; rw [hd]; rfl, x0.trans y1⟩
theorem entersLow : Am.Enters Try.prog 44 := ⟨Try.f44, Try.func44, by kernel_rfl, by kernel_rfl⟩
theorem isLowC (W0 : World) {nx : Nat} {H : Heap} {m : Mo} {V : MoV} (hm : MoIn H m V) (hn : MoLen m) {p : Nat} (hp : p < m.of.length) (hp1 : p < m.low.length) : ACalls Try.prog W0 44 [.agg (moV m V).toArray, .int .i64 p] nx H fun v nx' H' => v = .bool (lowF m p) ∧ Ext nx H nx' H' := by
  refine ACalls.by_trip (fn := Try.f44) (c := _) Try.func44 rfl (fun tm n hn0 htm => ?_)
  have e0 : tm 0 = .agg (moV m V).toArray := htm 0
  have e1 : tm 1 = .int .i64 p := htm 1
  clear htm
  replace hn0 : n = 36 := hn0
  refine Trip.ok fun hok => ?_
  replace hok : ∀ id o, H id = some o → id < nx := hok
  refine Trip.seq ?_
  refine Trip.ops ?_
  refine OpsL.boxM hm hok ?_ (by (first | (simp only [ASt.ev, tmPut, ↓reduceIte, Nat.reduceEqDiff, *]; done))) (by subst_vars; decide)
  intro G x0 okG hb hG
  clear e0
  obtain ⟨oa, oc, ov⟩ := hG.of.slice
  have oh := hG.of
  have g2 := hb.c2
  rw [ov] at oh g2
  obtain ⟨ia, ic, iv⟩ := hG.low.slice
  have ih := hG.low
  have g6 := hb.c6
  rw [iv] at ih g6
  have g1 := hb.c1
  obtain ⟨q, rfl, hc⟩ := IntsAt.atI oh (show (0 : Int) ≤ p by omega) (show (p : Int) < m.of.length by omega)
  obtain ⟨q1, rb, rk, rfl, hc1, hrow⟩ := L2At.atI ih (show (0 : Int) ≤ p by omega) (show (p : Int) < m.low.length by omega)
  simp only [Int.toNat_natCast] at hc hc1 hrow
  have hl := hn.low1 p
  repeat (first | (refine OpsL.q (by first | exact omv | exact oasg | exact ofa | exact old | exact oixa) ?_) | (refine Trip.seq ?_) | (refine Trip.ops ?_) | (refine OpsL.nil ?_; (change Trip _ _ _ _ _)))
  by_cases h0 : m.of.getD p 0 = 0
  · refine OpsL.neqF ?_ (c := h0)
    replace h0 : decide (m.of.getD p 0 = 0) = true := decide_eq_true h0
    repeat (first | (refine OpsL.nil ?_; (change Trip _ _ _ _ _)))
    refine Trip.ifF ?_
    repeat (first | (refine Trip.seq ?_) | (refine Trip.skip ?_; (change Trip _ _ _ _ _)))
    cases hd : decide (((m.low.getD p []).length : Int) = m.closings)
    · refine OpsR.drawnW [16] (K := fun _ _ => True) mixed13 (by kernel_rfl) (by kernel_rfl) [0, 1, 2, 3, 4, 5, 6, 7, 8, 9, 10, 11, 12, 13, 14, 15, 16, 17, 18] (by kernel_rfl) trivial ?_
      refine OpsR.one rfl rfl rfl (by kernel_rfl) ?_
      repeat (first | (refine OpsL.q (by exact ofa) ?_) | (refine OpsL.nil ?_; (dsimp only)))
      refine OpsR.one rfl rfl rfl (by kernel_rfl) ?_
      repeat (first | (refine OpsL.q (by exact old) ?_) | (refine OpsL.nil ?_; (skip)))
      refine OpsR.one rfl rfl rfl (by kernel_rfl) ?_
      repeat (first | (refine OpsL.q (by exact omv) ?_) | (refine OpsL.nil ?_; (skip)))
      refine OpsR.one rfl rfl rfl (by kernel_rfl) ?_
      repeat (first | (refine OpsL.q (by exact oixa) ?_) | (refine OpsL.nil ?_; (dsimp only)))
      refine OpsR.one rfl rfl rfl (by kernel_rfl) ?_
      repeat (first | (refine OpsL.q (by exact old) ?_) | (refine OpsL.nil ?_; (skip)))
      refine OpsR.one rfl rfl rfl (by kernel_rfl) ?_
      repeat (first | (refine OpsL.q (by exact olen) ?_) | (refine OpsL.nil ?_; (skip)))
      refine OpsR.one rfl rfl rfl (by kernel_rfl) ?_
      repeat (first | (refine OpsL.q (by exact ofa) ?_) | (refine OpsL.nil ?_; (dsimp only)))
      refine OpsR.one rfl rfl rfl (by kernel_rfl) ?_
      repeat (first | (refine OpsL.q (by exact old) ?_) | (refine OpsL.nil ?_; (skip)))
      refine OpsR.one rfl rfl rfl (by kernel_rfl) ?_
      repeat (first | (refine OpsL.q (by exact oeql) ?_) | (refine OpsL.nil ?_; (skip)))
      refine OpsR.one rfl rfl rfl (by kernel_rfl) ?_
      repeat (first | (refine OpsL.q (by exact omv) ?_) | (refine OpsL.nil ?_; (skip)))
      refine OpsR.one rfl rfl rfl (by kernel_rfl) ?_
      repeat (first | (refine OpsL.nil ?_; (skip)) | (refine OpsL.skp ?_))
      refine OpsR.one rfl rfl rfl (by kernel_rfl) ?_
      repeat (first | (refine OpsL.nil ?_; (skip)) | (refine OpsL.skp ?_))
      refine OpsR.one rfl rfl rfl (by kernel_rfl) ?_
      repeat (first | (refine OpsL.nil ?_; (skip)) | (refine OpsL.skp ?_))
      refine OpsR.one rfl rfl rfl (by kernel_rfl) ?_
      repeat (first | (refine OpsL.nil ?_; (skip)) | (refine OpsL.skp ?_))
      refine OpsR.one rfl rfl rfl (by kernel_rfl) ?_
      repeat (first | (refine OpsL.nil ?_; (skip)) | (refine OpsL.skp ?_))
      refine OpsR.one rfl rfl rfl (by kernel_rfl) ?_
      repeat (first | (refine OpsL.nil ?_; (skip)) | (refine OpsL.skp ?_))
      refine OpsR.act (by kernel_rfl) (ActStep.walk rfl rfl ?_)
      repeat (first | (refine OpsL.nil ?_; (skip)) | (refine OpsL.skp ?_))
      refine ⟨trivial, ?_⟩
      refine OpsR.one rfl rfl rfl (by kernel_rfl) ?_
      repeat (first | (refine OpsL.q (by exact opkF) ?_) | (refine OpsL.nil ?_; (skip)))
      refine OpsR.one rfl rfl rfl (by kernel_rfl) ?_
      repeat (first | (refine OpsL.q (by exact oasg) ?_) | (refine OpsL.nil ?_; (skip)))
      refine OpsR.nil ?_
      (change Trip _ _ _ _ _)
      repeat (first | (refine Trip.ret ?_; (dsimp only)))
      exact ⟨.inr rfl, _, res_tmp, by unfold lowF; rw [if_pos (of_decide_eq_true h0), hd]; rfl, x0⟩
    · refine OpsR.drawnW [16] (K := fun _ _ => True) mixed13 (by kernel_rfl) (by kernel_rfl) [0, 1, 2, 3, 4, 5, 6, 7, 8, 9, 10, 11, 12, 13, 14, 15, 16, 17, 18] (by kernel_rfl) trivial ?_
      refine OpsR.one rfl rfl rfl (by kernel_rfl) ?_
      repeat (first | (refine OpsL.q (by exact ofa) ?_) | (refine OpsL.nil ?_; (dsimp only)))
      refine OpsR.one rfl rfl rfl (by kernel_rfl) ?_
      repeat (first | (refine OpsL.q (by exact old) ?_) | (refine OpsL.nil ?_; (skip)))
      refine OpsR.one rfl rfl rfl (by kernel_rfl) ?_
      repeat (first | (refine OpsL.q (by exact omv) ?_) | (refine OpsL.nil ?_; (skip)))
      refine OpsR.one rfl rfl rfl (by kernel_rfl) ?_
      repeat (first | (refine OpsL.q (by exact oixa) ?_) | (refine OpsL.nil ?_; (dsimp only)))
      refine OpsR.one rfl rfl rfl (by kernel_rfl) ?_
      repeat (first | (refine OpsL.q (by exact old) ?_) | (refine OpsL.nil ?_; (skip)))
      refine OpsR.one rfl rfl rfl (by kernel_rfl) ?_
      repeat (first | (refine OpsL.q (by exact olen) ?_) | (refine OpsL.nil ?_; (skip)))
      refine OpsR.one rfl rfl rfl (by kernel_rfl) ?_
      repeat (first | (refine OpsL.q (by exact ofa) ?_) | (refine OpsL.nil ?_; (dsimp only)))
      refine OpsR.one rfl rfl rfl (by kernel_rfl) ?_
      repeat (first | (refine OpsL.q (by exact old) ?_) | (refine OpsL.nil ?_; (skip)))
      refine OpsR.one rfl rfl rfl (by kernel_rfl) ?_
      repeat (first | (refine OpsL.q (by exact oeql) ?_) | (refine OpsL.nil ?_; (skip)))
      refine OpsR.one rfl rfl rfl (by kernel_rfl) ?_
      repeat (first | (refine OpsL.q (by exact omv) ?_) | (refine OpsL.nil ?_; (skip)))
      refine OpsR.one rfl rfl rfl (by kernel_rfl) ?_
      repeat (first | (refine OpsL.ung ?_))
      refine OpsL.loadM hb ?_ (by (first | (simp only [ASt.ev, tmPut, ↓reduceIte, Nat.reduceEqDiff, *]; done))) (by subst_vars; decide)
      repeat (first | (refine OpsL.nil ?_; (skip)))
      refine OpsR.one rfl rfl rfl (by kernel_rfl) ?_
      repeat (first | (refine OpsL.q (by exact ofa) ?_) | (refine OpsL.nil ?_; (dsimp only)) | (refine OpsL.ung ?_))
      refine OpsR.one rfl rfl rfl (by kernel_rfl) ?_
      repeat (first | (refine OpsL.q (by exact old) ?_) | (refine OpsL.nil ?_; (skip)) | (refine OpsL.ung ?_))
      refine OpsR.one rfl rfl rfl (by kernel_rfl) ?_
      repeat (first | (refine OpsL.q (by exact omv) ?_) | (refine OpsL.nil ?_; (skip)) | (refine OpsL.ung ?_))
      refine OpsR.one rfl rfl rfl (by kernel_rfl) ?_
      repeat (first | (refine OpsL.q (by exact oixa) ?_) | (refine OpsL.nil ?_; (dsimp only)) | (refine OpsL.ung ?_))
      refine OpsR.one rfl rfl rfl (by kernel_rfl) ?_
      repeat (first | (refine OpsL.q (by exact old) ?_) | (refine OpsL.nil ?_; (skip)) | (refine OpsL.ung ?_))
      refine OpsR.act (by kernel_rfl) (ActStep.walk rfl rfl ?_)
      repeat (first | (refine OpsL.ung ?_))
      refine OpsL.c3 (hf := entersAreIn) (hc := (areInC W0 hG hn hrow hl _)) (h := ?_)
      rintro v1 nx1 H1 ⟨rfl, y1⟩
      refine OpsL.nil ⟨trivial, ?_⟩
      refine OpsR.one rfl rfl rfl (by kernel_rfl) ?_
      repeat (first | (refine OpsL.q (by exact opkT) ?_) | (refine OpsL.nil ?_; (skip)))
      refine OpsR.one rfl rfl rfl (by kernel_rfl) ?_
      repeat (first | (refine OpsL.q (by exact oasg) ?_) | (refine OpsL.nil ?_; (skip)))
      refine OpsR.nil ?_
      (change Trip _ _ _ _ _)
      repeat (first | (refine Trip.ret ?_; (dsimp only)))
      exact ⟨.inr rfl, _, res_tmp, by unfold lowF; rw [if_pos (of_decide_eq_true h0), hd]; rfl, x0.trans y1⟩
  · refine OpsL.neqT ?_ (c := h0)
    repeat (first | (refine OpsL.nil ?_; (change Trip _ _ _ _ _)))
    refine Trip.ifT ?_
    repeat (first | (refine OpsL.q (by first | exact omv | exact oasg | exact oeql | exact olen | exact oixa | exact ofa | exact old) ?_) | (refine Trip.seq ?_) | (refine Trip.ops ?_) | (refine Trip.ret ?_; (dsimp only)) | (refine OpsL.nil ?_; (change Trip _ _ _ _ _)))
    exact ⟨.inr rfl, _, res_tmp, by unfold lowF; rw [if_neg h0]; rfl, x0⟩
end Go.Proofs.Ytooakbmehcchnaa
namespace Go.Proofs.Ytooakbmehcchnaa
open Go.Am Go.RowKit
attribute [local irreducible] aop OpsL Trip blockExit OpsD OpsK OpsR
theorem entersRet : Am.Enters Try.prog 45 := ⟨Try.f45, Try.func45, by kernel_rfl, by kernel_rfl⟩
theorem isRetC (W0 : World) {nx : Nat} {H : Heap} {m : Mo} {V : MoV} (hm : MoIn H m V) (hn : MoLen m) {p : Nat} (hp : p < m.of.length) (hp1 : p < m.ret.length) : ACalls Try.prog W0 45 [.agg (moV m V).toArray, .int .i64 p] nx H fun v nx' H' => v = .bool (retF m p) ∧ Ext nx H nx' H' := by
  refine ACalls.by_trip (fn := Try.f45) (c := _) Try.func45 rfl (fun tm n hn0 htm => ?_)
  have e0 : tm 0 = .agg (moV m V).toArray := htm 0
  have e1 : tm 1 = .int .i64 p := htm 1
  clear htm
  replace hn0 : n = 65 := hn0
  refine Trip.ok fun hok => ?_
  replace hok : ∀ id o, H id = some o → id < nx := hok
  refine Trip.seq ?_
  refine Trip.ops ?_
  refine OpsL.boxM hm hok ?_ (by (first | (simp only [ASt.ev, tmPut, ↓reduceIte, Nat.reduceEqDiff, *]; done))) (by subst_vars; decide)
  intro G x0 okG hb hG
  clear e0
  obtain ⟨oa, oc, ov⟩ := hG.of.slice
  have oh := hG.of
  have g2 := hb.c2
  rw [ov] at oh g2
  obtain ⟨ra, rc, rv⟩ := hG.ret.slice
  have rh := hG.ret
  have g7 := hb.c7
  rw [rv] at rh g7
  have g1 := hb.c1
  obtain ⟨q, rfl, hc⟩ := IntsAt.atI oh (show (0 : Int) ≤ p by omega) (show (p : Int) < m.of.length by omega)
  obtain ⟨q1, rb, rk, rfl, hc1, hrow⟩ := L3At.atI rh (show (0 : Int) ≤ p by omega) (show (p : Int) < m.ret.length by omega)
  simp only [Int.toNat_natCast] at hc hc1 hrow
  have hl := hn.ret1 p
  have hl2 := hn.ret2 p
  have q0 := hn.of
  repeat (first | (refine OpsL.q (by first | exact omv | exact oasg | exact ofa | exact old | exact oixa) ?_) | (refine Trip.seq ?_) | (refine Trip.ops ?_) | (refine OpsL.nil ?_; (change Trip _ _ _ _ _)))
  by_cases h0 : m.of.getD p 0 = 0
  · refine OpsL.eqlT ?_ (c := h0)
    replace h0 : decide (m.of.getD p 0 = 0) = true := decide_eq_true h0
    repeat (first | (refine OpsL.nil ?_; (change Trip _ _ _ _ _)))
    refine Trip.ifT ?_
    repeat (first | (refine OpsL.q (by first | exact omv | exact oasg | exact oeql | exact olen | exact oixa | exact ofa | exact old) ?_) | (refine Trip.seq ?_) | (refine Trip.ops ?_) | (refine Trip.ret ?_; (dsimp only)) | (refine OpsL.nil ?_; (change Trip _ _ _ _ _)))
    exact ⟨.inr rfl, _, res_tmp, by unfold retF; rw [if_pos (of_decide_eq_true h0)]; rfl, x0⟩
  refine OpsL.eqlF ?_ (c := h0)
  repeat (first | (refine OpsL.nil ?_; (change Trip _ _ _ _ _)))
  refine Trip.ifF ?_
  repeat (first | (refine Trip.seq ?_) | (refine Trip.skip ?_; (change Trip _ _ _ _ _)))
  have hrF : retF m p = (decide (((m.ret.getD p []).length : Int) = m.closings) && allN (m.ret.getD p []).length fun j => rowF m ((m.ret.getD p []).getD j [])) := by unfold retF; rw [if_neg h0]
  rw [hrF]
  clear hrF h0
  generalize m.ret.getD p [] = L at *
  refine Trip.mono (Q := fun e st => e = .normal ∧ ∃ tm' : Nat → Value, st = ⟨tm', n, G, nx + 1⟩ ∧ tm' 1 = .int .i64 p ∧ tm' 2 = .pointer (some ⟨nx, 0, none⟩) ∧ tm' 30 = .bool (!decide ((L.length : Int) = m.closings))) ?_ ?_
  · refine OpsR.drawnW [] (K := fun _ _ => True) mixed13 (by kernel_rfl) (by kernel_rfl) [0, 1, 2, 3, 4, 5, 6, 7, 8] (by kernel_rfl) trivial ?_
    refine OpsR.one rfl rfl rfl (by kernel_rfl) ?_
    repeat (first | (refine OpsL.q (by exact ofa) ?_) | (refine OpsL.nil ?_; (dsimp only)))
    refine OpsR.one rfl rfl rfl (by kernel_rfl) ?_
    repeat (first | (refine OpsL.q (by exact old) ?_) | (refine OpsL.nil ?_; (skip)))
    refine OpsR.one rfl rfl rfl (by kernel_rfl) ?_
    repeat (first | (refine OpsL.q (by exact omv) ?_) | (refine OpsL.nil ?_; (skip)))
    refine OpsR.one rfl rfl rfl (by kernel_rfl) ?_
    repeat (first | (refine OpsL.q (by exact oixa) ?_) | (refine OpsL.nil ?_; (dsimp only)))
    refine OpsR.one rfl rfl rfl (by kernel_rfl) ?_
    repeat (first | (refine OpsL.q (by exact old) ?_) | (refine OpsL.nil ?_; (skip)))
    refine OpsR.one rfl rfl rfl (by kernel_rfl) ?_
    repeat (first | (refine OpsL.q (by exact olen) ?_) | (refine OpsL.nil ?_; (skip)))
    refine OpsR.one rfl rfl rfl (by kernel_rfl) ?_
    repeat (first | (refine OpsL.q (by exact ofa) ?_) | (refine OpsL.nil ?_; (dsimp only)))
    refine OpsR.one rfl rfl rfl (by kernel_rfl) ?_
    repeat (first | (refine OpsL.q (by exact old) ?_) | (refine OpsL.nil ?_; (skip)))
    refine OpsR.one rfl rfl rfl (by kernel_rfl) ?_
    cases hd : decide ((L.length : Int) = m.closings)
    · refine OpsL.neqT ?_ (c := of_decide_eq_false hd)
      refine OpsL.nil ?_
      refine OpsR.nil ?_
      exact ⟨rfl, _, rfl, by simp [tmPut, *], by simp [tmPut, *], by simp [tmPut, *]⟩
    · refine OpsL.neqF ?_ (c := of_decide_eq_true hd)
      refine OpsL.nil ?_
      refine OpsR.nil ?_
      exact ⟨rfl, _, rfl, by simp [tmPut, *], by simp [tmPut, *], by simp [tmPut, *]⟩
  clear e1
  rintro e st ⟨rfl, tm', rfl, e1, e2, e30⟩
  (change Trip _ _ _ _ _)
  repeat fail
  cases hd : decide ((L.length : Int) = m.closings)
  · rw [hd] at e30
    replace e30 : tm' 30 = .bool true := e30
    refine Trip.ifT ?_
    repeat (first | (refine OpsL.q (by exact oasg) ?_) | (refine Trip.seq ?_) | (refine Trip.ops ?_) | (refine Trip.ret ?_; (dsimp only)) | (refine OpsL.nil ?_; (change Trip _ _ _ _ _)))
    exact ⟨.inr rfl, _, res_tmp, rfl, x0⟩
  rw [hd] at e30
  replace e30 : tm' 30 = .bool false := e30
  refine Trip.ifF ?_
  repeat (first | (refine OpsL.q (by first | exact omv | exact olen | exact oixa | exact ofa | exact old) ?_) | (refine Trip.seq ?_) | (refine Trip.ops ?_) | (refine Trip.block ?_) | (refine Trip.skip ?_; (change Trip _ _ _ _ _)) | (refine OpsL.nil ?_; (change Trip _ _ _ _ _)))
  rw [Bool.true_and]
  clear e30 hd
  refine Trip.inv (fun (i : Nat) s => ∃ (tm : Nat → Value) (nx' : Nat) (H' : Heap), s = ⟨tm, n, H', nx'⟩ ∧ Ext (nx + 1) G nx' H' ∧ tm 1 = .int .i64 p ∧ tm 2 = .pointer (some ⟨nx, 0, none⟩) ∧ tm 35 = .slice rb L.length rk ∧ tm 36 = .int .i64 L.length ∧ tm 37 = .int .i64 i ∧ i ≤ L.length ∧ allN i (fun j => rowF m (L.getD j [])) = true) (fun i => L.length - i) 0 ?_ ?_
  · exact ⟨_, _, _, rfl, Ext.refl, by simp [tmPut, *], by simp [tmPut, *], by simp [tmPut, *], by simp [tmPut, *], by simp [tmPut, *], by omega, allN_zero⟩
  clear e1 e2
  rintro i s ⟨tm, nx', H', rfl, hx, e1, e2, e35, e36, e37, hi, hall⟩
  have c2 := cell_ext hx okG g2
  refine Trip.ok fun hokH => ?_
  replace hokH : ∀ id o, H' id = some o → id < nx' := hokH
  repeat (first | (refine OpsL.q (by exact olss) ?_) | (refine Trip.seq ?_) | (refine Trip.ops ?_) | (refine Trip.block ?_) | (refine Trip.itA (fun _ => ?_) (fun _ => ?_)) | (refine Trip.skip ?_; (change Trip _ _ _ _ _)) | (refine OpsL.nil ?_; (change Trip _ _ _ _ _)))
  · have hlt : i < L.length := by omega
    obtain ⟨q2, sb, sk, rfl, hc2, hrow2⟩ := L2At.atI (hrow.ext hx okG) (show (0 : Int) ≤ i by omega) (show (i : Int) < L.length by omega)
    simp only [Int.toNat_natCast] at hc2 hrow2
    have hl3 := hl2 i
    obtain ⟨R, hR⟩ : ∃ R, L.getD i [] = R := ⟨_, rfl⟩
    rw [hR] at hc2 hrow2 hl3
    repeat (first | (refine OpsL.q (by first | exact omv | exact oasg | exact olen | exact ofa | exact old | exact oixa) ?_) | (refine Trip.seq ?_) | (refine Trip.ops ?_) | (refine OpsL.nil ?_; (change Trip _ _ _ _ _)))
    by_cases hd : (R.length : Int) = m.of.length
    · refine OpsL.neqF ?_ (c := hd)
      replace hd : decide ((R.length : Int) = m.of.length) = true := decide_eq_true hd
      have hrow3 : rowF m (L.getD i []) = allN R.length fun q => inF m (R.getD q 0) (m.of.getD q 0) := by unfold rowF; rw [hR, hd]; rfl
      repeat (first | (refine OpsL.nil ?_; (change Trip _ _ _ _ _)))
      refine Trip.ifF ?_
      repeat (first | (refine OpsL.q (by first | exact omv | exact olen) ?_) | (refine Trip.seq ?_) | (refine Trip.ops ?_) | (refine Trip.block ?_) | (refine Trip.skip ?_; (change Trip _ _ _ _ _)) | (refine OpsL.nil ?_; (change Trip _ _ _ _ _)))
      have okH : ∀ id o, H' id = some o → id < nx' := hokH
      refine Trip.inv (fun (j : Nat) s => ∃ (tm : Nat → Value) (nx2 : Nat) (H2 : Heap), s = ⟨tm, n, H2, nx2⟩ ∧ Ext nx' H' nx2 H2 ∧ tm 1 = .int .i64 p ∧ tm 2 = .pointer (some ⟨nx, 0, none⟩) ∧ tm 35 = .slice (some q2) L.length rk ∧ tm 36 = .int .i64 L.length ∧ tm 37 = .int .i64 i ∧ tm 47 = .slice sb R.length sk ∧ tm 48 = .int .i64 R.length ∧ tm 49 = .int .i64 j ∧ j ≤ R.length ∧ allN j (fun q => inF m (R.getD q 0) (m.of.getD q 0)) = true) (fun j => R.length - j) 0 ?_ ?_
      · exact ⟨_, _, _, rfl, Ext.refl, by simp [tmPut, *], by simp [tmPut, *], by simp [tmPut, *], by simp [tmPut, *], by simp [tmPut, *], by simp [tmPut, *], by simp [tmPut, *], by simp [tmPut, *], by omega, allN_zero⟩
      clear e1 e2 e35 e36 e37 c2
      rintro j s ⟨tm, nx2, H2, rfl, hx2, e1, e2, e35, e36, e37, e47, e48, e49, hj, hallj⟩
      have hy := hx.trans hx2
      have c2 := cell_ext hy okG g2
      repeat (first | (refine OpsL.q (by first | exact omv | exact olss) ?_) | (refine Trip.seq ?_) | (refine Trip.ops ?_) | (refine Trip.block ?_) | (refine Trip.itA (fun _ => ?_) (fun _ => ?_)) | (refine Trip.skip ?_; (change Trip _ _ _ _ _)) | (refine OpsL.nil ?_; (change Trip _ _ _ _ _)))
      · have hltj : j < R.length := by omega
        have hltj2 : j < m.of.length := by have := of_decide_eq_true hd; omega
        obtain ⟨q3, rfl, hc3⟩ := IntsAt.atI (hrow2.ext hx2 okH) (show (0 : Int) ≤ j by omega) (show (j : Int) < R.length by omega)
        obtain ⟨q4, hq4, hc4⟩ := IntsAt.atI (oh.ext hy okG) (show (0 : Int) ≤ j by omega) (show (j : Int) < m.of.length by omega)
        cases hq4
        simp only [Int.toNat_natCast] at hc3 hc4
        repeat (first | (refine OpsL.q (by first | exact oasg | exact oixa | exact old) ?_) | (refine Trip.seq ?_) | (refine OpsL.nil ?_; (change Trip _ _ _ _ _)))
        refine Trip.mono (Q := fun e st => e = .normal ∧ ∃ (tm' : Nat → Value) (nx3 : Nat) (H3 : Heap), st = ⟨tm', n, H3, nx3⟩ ∧ Ext nx2 H2 nx3 H3 ∧ tm' 1 = .int .i64 p ∧ tm' 2 = .pointer (some ⟨nx, 0, none⟩) ∧ tm' 35 = .slice (some q2) L.length rk ∧ tm' 36 = .int .i64 L.length ∧ tm' 37 = .int .i64 i ∧ tm' 47 = .slice (some q3) R.length sk ∧ tm' 48 = .int .i64 R.length ∧ tm' 49 = .int .i64 j ∧ tm' 62 = .bool (!inF m (R.getD j 0) (m.of.getD j 0))) ?_ ?_
        · refine OpsR.drawnW [7] (K := fun _ _ => True) mixed13 (by kernel_rfl) (by kernel_rfl) [0, 1, 2, 3, 4, 5, 6, 7, 8] (by kernel_rfl) trivial ?_
          refine OpsR.one rfl rfl rfl (by kernel_rfl) ?_
          refine OpsL.loadM (hb.ext hy okG) ?_ (by (first | (simp only [ASt.ev, tmPut, ↓reduceIte, Nat.reduceEqDiff, *]; done))) (by subst_vars; decide)
          repeat (first | (refine OpsL.nil ?_; (dsimp only)))
          refine OpsR.one rfl rfl rfl (by kernel_rfl) ?_
          repeat (first | (refine OpsL.q (by exact omv) ?_) | (refine OpsL.nil ?_; (skip)))
          refine OpsR.one rfl rfl rfl (by kernel_rfl) ?_
          repeat (first | (refine OpsL.q (by exact ofa) ?_) | (refine OpsL.nil ?_; (dsimp only)))
          refine OpsR.one rfl rfl rfl (by kernel_rfl) ?_
          repeat (first | (refine OpsL.q (by exact old) ?_) | (refine OpsL.nil ?_; (skip)))
          refine OpsR.one rfl rfl rfl (by kernel_rfl) ?_
          repeat (first | (refine OpsL.q (by exact omv) ?_) | (refine OpsL.nil ?_; (skip)))
          refine OpsR.one rfl rfl rfl (by kernel_rfl) ?_
          repeat (first | (refine OpsL.q (by exact oixa) ?_) | (refine OpsL.nil ?_; (dsimp only)))
          refine OpsR.one rfl rfl rfl (by kernel_rfl) ?_
          repeat (first | (refine OpsL.q (by exact old) ?_) | (refine OpsL.nil ?_; (skip)))
          refine OpsR.act (by kernel_rfl) (ActStep.walk rfl rfl ?_)
          refine OpsL.c3 (hf := entersIsIn) (hc := (isInC W0 (hG.ext hy okG) hn _ _)) (h := ?_)
          rintro v1 nx3 H3 ⟨rfl, y3⟩
          refine OpsL.nil ⟨trivial, ?_⟩
          refine OpsR.one rfl rfl rfl (by kernel_rfl) ?_
          repeat (first | (refine OpsL.q (by exact onot) ?_) | (refine OpsL.nil ?_; (skip)))
          refine OpsR.nil ?_
          exact ⟨rfl, _, _, _, rfl, y3, by simp [tmPut, *], by simp [tmPut, *], by simp [tmPut, *], by simp [tmPut, *], by simp [tmPut, *], by simp [tmPut, *], by simp [tmPut, *], by simp [tmPut, *], by simp [tmPut, *]⟩
        clear e1 e2 e35 e36 e37 e47 e48 e49 c2
        rintro e st ⟨rfl, tm', nx3, H3, rfl, x3, e1, e2, e35, e36, e37, e47, e48, e49, e62⟩
        (change Trip _ _ _ _ _)
        repeat fail
        cases hs : inF m (R.getD j 0) (m.of.getD j 0)
        · rw [hs] at e62
          replace e62 : tm' 62 = .bool true := e62
          refine Trip.ifT ?_
          repeat (first | (refine OpsL.q (by exact oasg) ?_) | (refine Trip.seq ?_) | (refine Trip.ops ?_) | (refine Trip.ret ?_; ((repeat (refine blockExit_ret ?_)); dsimp only)) | (refine OpsL.nil ?_; (change Trip _ _ _ _ _)))
          exact ⟨.inr rfl, _, res_tmp, by rw [allN_no hlt (hrow3.trans (allN_no hltj hs))]; rfl, (x0.trans hy).trans x3⟩
        · rw [hs] at e62
          replace e62 : tm' 62 = .bool false := e62
          refine Trip.ifF ?_
          repeat (first | (refine OpsL.q (by first | exact omv | exact oadd) ?_) | (refine Trip.ops ?_) | (refine Trip.skip ?_; ((repeat (refine blockExit_normal ?_)); change Trip _ _ _ _ _)) | (refine OpsL.nil ?_; (dsimp only)))
          exact ⟨j + 1, ⟨_, _, _, rfl, hx2.trans x3, by simp [tmPut, *], by simp [tmPut, *], by simp [tmPut, *], by simp [tmPut, *], by simp [tmPut, *], by simp [tmPut, *], by simp [tmPut, *], by simp [tmPut, *], by omega, allN_put hallj hs⟩, by omega⟩
      · have hj2 : j = R.length := by omega
        subst hj2
        repeat (first | (refine OpsL.q (by first | exact omv | exact oadd) ?_) | (refine Trip.ops ?_) | (refine Trip.exit ?_; ((repeat (first | refine blockExit_eq ?_ | refine blockExit_normal ?_)); change Trip _ _ _ _ _)) | (refine OpsL.nil ?_; (dsimp only)))
        exact ⟨i + 1, ⟨_, _, _, rfl, hy, by simp [tmPut, *], by simp [tmPut, *], by simp [tmPut, *], by simp [tmPut, *], by simp [tmPut, *], by omega, allN_put hall (hrow3.trans hallj)⟩, by omega⟩
    · refine OpsL.neqT ?_ (c := hd)
      repeat (first | (refine OpsL.nil ?_; (change Trip _ _ _ _ _)))
      refine Trip.ifT ?_
      repeat (first | (refine OpsL.q (by exact oasg) ?_) | (refine Trip.seq ?_) | (refine Trip.ops ?_) | (refine Trip.ret ?_; ((repeat (refine blockExit_ret ?_)); dsimp only)) | (refine OpsL.nil ?_; (change Trip _ _ _ _ _)))
      exact ⟨.inr rfl, _, res_tmp, by rw [allN_no hlt (show rowF m (L.getD i []) = false by unfold rowF; rw [hR, decide_eq_false hd]; rfl)]; rfl, x0.trans hx⟩
  · repeat (first | (refine OpsL.q (by exact oasg) ?_) | (refine Trip.seq ?_) | (refine Trip.ops ?_) | (refine Trip.exit ?_; ((repeat (refine blockExit_eq ?_)); change Trip _ _ _ _ _)) | (refine Trip.ret ?_; (dsimp only)) | (refine OpsL.nil ?_; (change Trip _ _ _ _ _)))
    have hi2 : i = L.length := by omega
    subst hi2
    exact ⟨.inr rfl, _, res_tmp, by rw [hall]; rfl, x0.trans hx⟩
end Go.Proofs.Ytooakbmehcchnaa
namespace Go.Proofs.Ytooakbmehcchnaa
open Go.Am Go.RowKit
attribute [local irreducible] aop OpsL Trip blockExit OpsD OpsK OpsR
theorem entersIsMod : Am.Enters Try.prog 30 := ⟨Try.f30, Try.func30, by kernel_rfl, by kernel_rfl⟩
theorem isModC (W0 : World) {nx : Nat} {H : Heap} {m : Mo} {V : MoV} (hm : MoIn H m V) (hn : MoLen m) : ACalls Try.prog W0 30 [.agg (moV m V).toArray] nx H fun v nx' H' => v = .bool (modF m) ∧ Ext nx H nx' H' := by
  refine ACalls.by_trip (fn := Try.f30) (c := _) Try.func30 rfl (fun tm n hn0 htm => ?_)
  have e0 : tm 0 = .agg (moV m V).toArray := htm 0
  clear htm
  replace hn0 : n = 35 := hn0
  refine Trip.ok fun hok => ?_
  replace hok : ∀ id o, H id = some o → id < nx := hok
  refine Trip.seq ?_
  refine Trip.ops ?_
  refine OpsL.boxM hm hok ?_ (by (first | (simp only [ASt.ev, tmPut, ↓reduceIte, Nat.reduceEqDiff, *]; done))) (by subst_vars; decide)
  intro G x0 okG hb hG
  clear e0
  obtain ⟨oa, oc, ov⟩ := hG.of.slice
  have oh := hG.of
  have g2 := hb.c2
  rw [ov] at oh g2
  have q0 := hn.of
  repeat (first | (refine OpsL.q (by exact oasg) ?_) | (refine Trip.seq ?_) | (refine Trip.ops ?_) | (refine OpsL.nil ?_; (change Trip _ _ _ _ _)))
  refine OpsL.loadM hb ?_ (by (first | (simp only [ASt.ev, tmPut, ↓reduceIte, Nat.reduceEqDiff, *]; done))) (by subst_vars; decide)
  refine OpsL.c1 (hf := entersSized) (hc := (isSizedC W0 hG).ok) (h := ?_)
  rintro v1 nx1 H1 ⟨⟨rfl, y1⟩, ok1⟩
  cases hs1 : sizedF m
  · repeat (first | (refine OpsL.q (by first | exact omv | exact onot | exact opkT) ?_) | (refine OpsL.nil ?_; (change Trip _ _ _ _ _)) | (refine OpsL.skp ?_))
    refine Trip.ifT ?_
    repeat (first | (refine OpsL.q (by exact oasg) ?_) | (refine Trip.seq ?_) | (refine Trip.ops ?_) | (refine Trip.ret ?_; (dsimp only)) | (refine OpsL.nil ?_; (change Trip _ _ _ _ _)))
    exact ⟨.inr rfl, _, res_tmp, by simp [tmPut, modF, hs1], x0.trans y1⟩
  repeat (first | (refine OpsL.q (by first | exact omv | exact onot) ?_) | (refine OpsL.ung ?_))
  refine OpsL.loadM (hb.ext y1 okG) ?_ (by (first | (simp only [ASt.ev, tmPut, ↓reduceIte, Nat.reduceEqDiff, *]; done))) (by subst_vars; decide)
  repeat (first | (refine OpsL.ung ?_))
  refine OpsL.c1 (hf := entersHoused) (hc := (isHousedC W0 (hG.ext y1 okG) hn).ok) (h := ?_)
  rintro v2 nx2 H2 ⟨⟨rfl, y2⟩, ok2⟩
  have z2 := y1.trans y2
  cases hs2 : housedF m
  · repeat (first | (refine OpsL.q (by first | exact onot | exact opkF) ?_) | (refine OpsL.nil ?_; (change Trip _ _ _ _ _)) | (refine OpsL.ung ?_))
    refine Trip.ifT ?_
    repeat (first | (refine OpsL.q (by exact oasg) ?_) | (refine Trip.seq ?_) | (refine Trip.ops ?_) | (refine Trip.ret ?_; (dsimp only)) | (refine OpsL.nil ?_; (change Trip _ _ _ _ _)))
    exact ⟨.inr rfl, _, res_tmp, by simp [tmPut, modF, hs1, hs2], x0.trans z2⟩
  have c2 := cell_ext z2 okG g2
  repeat (first | (refine OpsL.q (by first | exact onot | exact opkF) ?_) | (refine OpsL.nil ?_; (change Trip _ _ _ _ _)) | (refine OpsL.ung ?_))
  refine Trip.ifF ?_
  repeat (first | (refine OpsL.q (by first | exact omv | exact olen | exact ofa | exact old) ?_) | (refine Trip.seq ?_) | (refine Trip.ops ?_) | (refine Trip.block ?_) | (refine Trip.skip ?_; (change Trip _ _ _ _ _)) | (refine OpsL.nil ?_; (change Trip _ _ _ _ _)))
  have hF : modF m = allN m.of.length (stateF m) := by unfold modF; rw [hs1, hs2]; rfl
  obtain ⟨-, -, -, -, f1, f2, f3, f4⟩ := of_decide_eq_true hs1
  rw [hF]
  clear hF c2
  refine Trip.inv (fun (i : Nat) s => ∃ (tm : Nat → Value) (nx' : Nat) (H' : Heap), s = ⟨tm, n, H', nx'⟩ ∧ Ext (nx + 1) G nx' H' ∧ tm 1 = .pointer (some ⟨nx, 0, none⟩) ∧ tm 14 = .int .i64 m.of.length ∧ tm 15 = .int .i64 i ∧ i ≤ m.of.length ∧ allN i (stateF m) = true) (fun i => m.of.length - i) 0 ?_ ?_
  · exact ⟨_, _, _, rfl, z2, by simp [tmPut, *], by simp [tmPut, *], by simp [tmPut, *], by omega, allN_zero⟩
  rintro i s ⟨tm, nx', H', rfl, hx, e1, e14, e15, hi, hall⟩
  repeat (first | (refine OpsL.q (by first | exact omv | exact oasg | exact olss) ?_) | (refine Trip.seq ?_) | (refine Trip.ops ?_) | (refine Trip.block ?_) | (refine Trip.itA (fun _ => ?_) (fun _ => ?_)) | (refine Trip.skip ?_; (change Trip _ _ _ _ _)) | (refine OpsL.nil ?_; (change Trip _ _ _ _ _)))
  · have hlt : i < m.of.length := by omega
    refine OpsL.loadM (hb.ext hx okG) ?_ (by (first | (simp only [ASt.ev, tmPut, ↓reduceIte, Nat.reduceEqDiff, *]; done))) (by subst_vars; decide)
    repeat (first | (refine OpsL.q (by exact omv) ?_))
    refine OpsL.c2 (hf := entersPlain) (hc := (isPlainC W0 (hG.ext hx okG) hn hlt (by omega)).ok) (h := ?_)
    rintro v3 nx3 H3 ⟨⟨rfl, y3⟩, ok3⟩
    have z3 := hx.trans y3
    cases hp : plnF m i
    · repeat (first | (refine OpsL.q (by first | exact omv | exact onot | exact opkT) ?_) | (refine OpsL.nil ?_; (change Trip _ _ _ _ _)) | (refine OpsL.skp ?_))
      refine Trip.ifT ?_
      repeat (first | (refine OpsL.q (by exact oasg) ?_) | (refine Trip.seq ?_) | (refine Trip.ops ?_) | (refine Trip.ret ?_; ((repeat (refine blockExit_ret ?_)); dsimp only)) | (refine OpsL.nil ?_; (change Trip _ _ _ _ _)))
      exact ⟨.inr rfl, _, res_tmp, by rw [allN_no hlt (by simp [stateF, hp])]; rfl, x0.trans z3⟩
    repeat (first | (refine OpsL.q (by first | exact omv | exact onot) ?_) | (refine OpsL.ung ?_))
    refine OpsL.loadM (hb.ext z3 okG) ?_ (by (first | (simp only [ASt.ev, tmPut, ↓reduceIte, Nat.reduceEqDiff, *]; done))) (by subst_vars; decide)
    repeat (first | (refine OpsL.q (by exact omv) ?_) | (refine OpsL.ung ?_))
    refine OpsL.c2 (hf := entersLow) (hc := (isLowC W0 (hG.ext z3 okG) hn hlt (by omega)).ok) (h := ?_)
    rintro v4 nx4 H4 ⟨⟨rfl, y4⟩, ok4⟩
    have z4 := z3.trans y4
    cases hl : lowF m i
    · repeat (first | (refine OpsL.q (by first | exact omv | exact onot | exact opkT | exact opkF) ?_) | (refine OpsL.nil ?_; (change Trip _ _ _ _ _)) | (refine OpsL.ung ?_) | (refine OpsL.skp ?_))
      refine Trip.ifT ?_
      repeat (first | (refine OpsL.q (by exact oasg) ?_) | (refine Trip.seq ?_) | (refine Trip.ops ?_) | (refine Trip.ret ?_; ((repeat (refine blockExit_ret ?_)); dsimp only)) | (refine OpsL.nil ?_; (change Trip _ _ _ _ _)))
      exact ⟨.inr rfl, _, res_tmp, by rw [allN_no hlt (by simp [stateF, hp, hl])]; rfl, x0.trans z4⟩
    repeat (first | (refine OpsL.q (by first | exact omv | exact onot | exact opkF) ?_) | (refine OpsL.ung ?_))
    refine OpsL.loadM (hb.ext z4 okG) ?_ (by (first | (simp only [ASt.ev, tmPut, ↓reduceIte, Nat.reduceEqDiff, *]; done))) (by subst_vars; decide)
    repeat (first | (refine OpsL.q (by exact omv) ?_) | (refine OpsL.ung ?_))
    refine OpsL.c2 (hf := entersRet) (hc := (isRetC W0 (hG.ext z4 okG) hn hlt (by omega)).ok) (h := ?_)
    rintro v5 nx5 H5 ⟨⟨rfl, y5⟩, ok5⟩
    have z5 := z4.trans y5
    cases hr : retF m i
    · repeat (first | (refine OpsL.q (by first | exact onot | exact opkF) ?_) | (refine OpsL.nil ?_; (change Trip _ _ _ _ _)) | (refine OpsL.ung ?_))
      refine Trip.ifT ?_
      repeat (first | (refine OpsL.q (by exact oasg) ?_) | (refine Trip.seq ?_) | (refine Trip.ops ?_) | (refine Trip.ret ?_; ((repeat (refine blockExit_ret ?_)); dsimp only)) | (refine OpsL.nil ?_; (change Trip _ _ _ _ _)))
      exact ⟨.inr rfl, _, res_tmp, by rw [allN_no hlt (by simp [stateF, hp, hl, hr])]; rfl, x0.trans z5⟩
    repeat (first | (refine OpsL.q (by first | exact onot | exact opkF) ?_) | (refine OpsL.nil ?_; (change Trip _ _ _ _ _)) | (refine OpsL.ung ?_))
    refine Trip.ifF ?_
    repeat (first | (refine OpsL.q (by first | exact omv | exact oadd) ?_) | (refine Trip.ops ?_) | (refine Trip.skip ?_; ((repeat (refine blockExit_normal ?_)); change Trip _ _ _ _ _)) | (refine OpsL.nil ?_; (dsimp only)))
    exact ⟨i + 1, ⟨_, _, _, rfl, z5, by simp [tmPut, *], by simp [tmPut, *], by simp [tmPut, *], by omega, allN_put hall (by simp [stateF, hp, hl, hr])⟩, by omega⟩
  · repeat (first | (refine OpsL.q (by exact oasg) ?_) | (refine Trip.seq ?_) | (refine Trip.ops ?_) | (refine Trip.exit ?_; ((repeat (refine blockExit_eq ?_)); change Trip _ _ _ _ _)) | (refine Trip.ret ?_; (dsimp only)) | (refine OpsL.nil ?_; (change Trip _ _ _ _ _)))
    have hi2 : i = m.of.length := by omega
    subst hi2
    exact ⟨.inr rfl, _, res_tmp, by rw [hall]; rfl, x0.trans hx⟩
theorem entersFCheck : Am.Enters Try.prog 19 := ⟨Try.f19, Try.func19, by kernel_rfl, by kernel_rfl⟩
theorem fcheckC (W0 : World) {nx : Nat} {H : Heap} {m : Mo} {V : MoV} (hm : MoIn H m V) (hn : MoLen m) : ACalls Try.prog W0 19 [.agg (moV m V).toArray] nx H fun v nx' H' => v = .int .i64 (if modF m then 0 else 11) ∧ Ext nx H nx' H' := by
  refine ACalls.by_trip (fn := Try.f19) (c := _) Try.func19 rfl (fun tm n hn0 htm => ?_)
  have e0 : tm 0 = .agg (moV m V).toArray := htm 0
  clear htm
  replace hn0 : n = 6 := hn0
  refine Trip.ok fun hok => ?_
  replace hok : ∀ id o, H id = some o → id < nx := hok
  refine Trip.seq ?_
  refine Trip.ops ?_
  refine OpsL.boxM hm hok ?_ (by (first | (simp only [ASt.ev, tmPut, ↓reduceIte, Nat.reduceEqDiff, *]; done))) (by subst_vars; decide)
  intro G x0 okG hb hG
  clear e0
  repeat (first | (refine OpsL.q (by exact oasg) ?_) | (refine Trip.seq ?_) | (refine Trip.ops ?_) | (refine OpsL.nil ?_; (change Trip _ _ _ _ _)))
  refine OpsL.loadM hb ?_ (by (first | (simp only [ASt.ev, tmPut, ↓reduceIte, Nat.reduceEqDiff, *]; done))) (by subst_vars; decide)
  refine OpsL.c1 (hf := entersIsMod) (hc := (isModC W0 hG hn)) (h := ?_)
  rintro v1 nx1 H1 ⟨rfl, y1⟩
  cases hs1 : modF m
  · repeat (first | (refine OpsL.q (by exact onot) ?_) | (refine OpsL.nil ?_; (change Trip _ _ _ _ _)))
    refine Trip.ifT ?_
    repeat (first | (refine OpsL.q (by exact oasg) ?_) | (refine Trip.seq ?_) | (refine Trip.ops ?_) | (refine Trip.ret ?_; (dsimp only)) | (refine OpsL.nil ?_; (change Trip _ _ _ _ _)))
    exact ⟨.inr rfl, _, res_tmp, by simp [tmPut, *], x0.trans y1⟩
  · repeat (first | (refine OpsL.q (by exact onot) ?_) | (refine OpsL.nil ?_; (change Trip _ _ _ _ _)))
    refine Trip.ifF ?_
    repeat (first | (refine OpsL.q (by exact oasg) ?_) | (refine Trip.seq ?_) | (refine Trip.ops ?_) | (refine Trip.skip ?_; (change Trip _ _ _ _ _)) | (refine Trip.ret ?_; (dsimp only)) | (refine OpsL.nil ?_; (change Trip _ _ _ _ _)))
    exact ⟨.inr rfl, _, res_tmp, by simp [tmPut, *], x0.trans y1⟩
end Go.Proofs.Ytooakbmehcchnaa
namespace Go.Am
open Go.RowKit
theorem wf64 {a : Int} (h : (Lit.int .i64 a).wf = true) : -9223372036854775808 ≤ a ∧ a ≤ 9223372036854775807 := by
  have h' : (decide (IntKind.i64.min ≤ a) && decide (a ≤ IntKind.i64.max)) = true := h
  rw [Bool.and_eq_true, decide_eq_true_eq, decide_eq_true_eq] at h'
  exact h'
theorem res_cell2 {P : Program} {st : ASt} {t s : Tmp} {ty : TypeId} {a : Addr} {v : Value} (ht : st.tm t = .pointer (some a)) (hr : readAt P st.H ty a = some v) : aResults P st #[.cell t ty, .tmp s] = some (.tuple #[v, st.tm s]) := by simp [aResults, aResultL, aResult, ht, hr]
def noMo : Mo := ⟨0, 0, [], [], [], [], [], []⟩
end Go.Am
namespace Go.Proofs.Ytooakbmehcchnaa
open Go.Am Go.RowKit
attribute [local irreducible] aop OpsL Trip blockExit OpsD OpsK OpsR OpsQ
theorem MkO.in {σ : CH} {m : Mo} {V : MoV} (h : MkO σ m V) : MoIn σ.H m V :=
  ⟨h.of.ints, h.en.ints, h.fi.bools, OwnLC.at (fun _ _ _ hr => hr.ints) h.inn, OwnLC.at (fun _ _ _ hr => hr.ints) h.low, OwnLC.at (fun _ _ _ hr => OwnLC.at (fun _ _ _ hr => hr.ints) hr) h.ret⟩
theorem MkO.keep {S : List Co} {σ τ : CH} {m : Mo} {V : MoV} (hx : Chg S σ τ) (hS : ∀ c ∈ S, c = .self ∨ c = .tmp) (h : MkO σ m V) : MkO τ m V := by
  have hn : ∀ c : Co, c ≠ .self → c ≠ .tmp → c ∉ S := fun c h1 h2 hc => by rcases hS c hc with e | e; exact h1 e; exact h2 e
  exact ⟨h.of.keep hx (hn _ (by simp) (by simp)), h.en.keep hx (hn _ (by simp) (by simp)), h.fi.keep hx (hn _ (by simp) (by simp)), Row2.keepL hx (hn _ (by simp) (by simp)) (fun _ _ => hn _ (by simp) (by simp)) h.inn, Row2.keepL hx (hn _ (by simp) (by simp)) (fun _ _ => hn _ (by simp) (by simp)) h.low, Row3.keepL hx (hn _ (by simp) (by simp)) (fun _ _ => hn _ (by simp) (by simp)) (fun _ _ _ => hn _ (by simp) (by simp)) h.ret⟩
theorem MkO.one {σ : CH} {m : Mo} {V : MoV} (h : MkO σ m V) : (moV m V).all (·.oneCell') = true := by
  have so : V.o.oneCell' = true := by obtain ⟨_, e, _⟩ := h.of.block; rw [e]; rfl
  have se : V.e.oneCell' = true := by obtain ⟨_, e, _⟩ := h.en.block; rw [e]; rfl
  have sf : V.f.oneCell' = true := by obtain ⟨_, _, e⟩ := OwnC.slice encBo_len h.fi; rw [e]; rfl
  have si : V.i.oneCell' = true := by obtain ⟨_, q1, _⟩ := h.inn; obtain ⟨_, _, e⟩ := OwnC.slice encS_len q1; rw [e]; rfl
  have sl : V.l.oneCell' = true := by obtain ⟨_, q1, _⟩ := h.low; obtain ⟨_, _, e⟩ := OwnC.slice encS_len q1; rw [e]; rfl
  have sr : V.r.oneCell' = true := by obtain ⟨_, q1, _⟩ := h.ret; obtain ⟨_, _, e⟩ := OwnC.slice encS_len q1; rw [e]; rfl
  simp only [moV, List.all_cons, List.all_nil, so, se, sf, si, sl, sr, Bool.and_true]
  rfl
theorem entersMake : Am.Enters Try.prog 21 := ⟨Try.f21, Try.func21, by kernel_rfl, by kernel_rfl⟩
theorem makeC (W0 : World) {nx : Nat} {H : Heap} {nv : Value} {ns : List Int} {size : Int} (hn : IntsAt H nv ns) (hok : ∀ id o, H id = some o → id < nx) (hs : -9223372036854775808 ≤ size ∧ size ≤ 9223372036854775807) :
    ACalls Try.prog W0 21 [.int .i64 size, nv] nx H fun v nx' H' => ∃ V σ, v = .agg (moV (makeF size ns) V).toArray ∧ nx' = σ.nx ∧ H' = σ.H ∧ OldC ⟨nx, fun _ => .old, H⟩ σ ∧ MkO σ (makeF size ns) V :=
  makeC0 W0 (σ0 := ⟨nx, fun _ => .old, H⟩) (fun _ _ => rfl) (IntsC.of hn hok) hs
theorem entersFSmall : Am.Enters Try.prog 16 := ⟨Try.f16, Try.func16, by kernel_rfl, by kernel_rfl⟩
theorem smallBadC (W0 : World) {nx : Nat} {H : Heap} {m : Mo} {V : MoV} (hm : MoIn H m V) (hn : MoLen m) (hbad : modF m = false) : ACalls Try.prog W0 16 [.agg (moV m V).toArray] nx H fun v nx' H' => v = .tuple #[.agg (moV noMo nilV).toArray, .int .i64 11] ∧ Ext nx H nx' H' := by
  refine ACalls.by_trip (fn := Try.f16) (c := _) Try.func16 rfl (fun tm n hn0 htm => ?_)
  have e0 : tm 0 = .agg (moV m V).toArray := htm 0
  clear htm
  replace hn0 : n = 18 := hn0
  refine Trip.ok fun hok => ?_
  replace hok : ∀ id o, H id = some o → id < nx := hok
  refine Trip.seq ?_
  refine Trip.ops ?_
  refine OpsL.boxM hm hok ?_ (by (first | (simp only [ASt.ev, tmPut, ↓reduceIte, Nat.reduceEqDiff, *]; done))) (by subst_vars; decide)
  intro G x0 okG hb hG
  clear e0
  refine OpsL.new (by subst_vars; decide) (aop_alloc (l := moV noMo nilV) (by exact rfl)) ?_
  have x1 : Ext (nx + 1) G (nx + 1 + 1) (G.put (nx + 1) (.cells (moV noMo nilV) 0 none false (some 28))) := Ext.newPut
  have ok1 := ok_new (o := (.cells (moV noMo nilV) 0 none false (some 28))) okG
  have hF : (G.put (nx + 1) (.cells (moV noMo nilV) 0 none false (some 28))) (nx + 1) = some (.cells (moV noMo nilV) 0 none false (some 28)) := Heap.put_eq
  generalize (G.put (nx + 1) (.cells (moV noMo nilV) 0 none false (some 28))) = F at *
  repeat (first | (refine OpsL.q (by exact oasg) ?_) | (refine Trip.seq ?_) | (refine Trip.ops ?_) | (refine OpsL.nil ?_; (change Trip _ _ _ _ _)))
  refine OpsL.loadM (hb.ext x1 okG) ?_ (by (first | (simp only [ASt.ev, tmPut, ↓reduceIte, Nat.reduceEqDiff, *]; done))) (by subst_vars; decide)
  refine OpsL.c1 (hf := entersIsMod) (hc := (isModC W0 (hG.ext x1 okG) hn)) (h := ?_)
  rintro v1 nx1 H1 ⟨rfl, y1⟩
  rw [hbad]
  repeat (first | (refine OpsL.q (by exact onot) ?_) | (refine OpsL.nil ?_; (change Trip _ _ _ _ _)))
  refine Trip.ifT ?_
  repeat (first | (refine Trip.seq ?_) | (refine Trip.ops ?_))
  have hF1 : H1 (nx + 1) = some (.cells (moV noMo nilV) 0 none false (some 28)) := by rw [y1.2 _ (by omega), hF]
  refine OpsL.p (by subst_vars; decide) (aop_build (l := []) (v := .agg (moV noMo nilV).toArray) (by simp [evParts]) (by kernel_rfl)) ?_
  refine OpsL.upd (aop_store (a := ⟨nx + 1, 0, none⟩) (k := 8) (u := .agg (moV noMo nilV).toArray) (by (first | (simp only [ASt.ev, tmPut, ↓reduceIte, Nat.reduceEqDiff, *]; done))) (by (first | (simp only [ASt.ev, tmPut, ↓reduceIte, Nat.reduceEqDiff, *]; done))) (by exact rfl) rfl (o := .cells (moV noMo nilV) 0 none false (some 28)) (setc_allN (vs := moV noMo nilV) hF1 rfl rfl)) ?_
  repeat (first | (refine OpsL.q (by exact oasg) ?_) | (refine Trip.ret ?_; (dsimp only)) | (refine OpsL.nil ?_; (change Trip _ _ _ _ _)))
  have hlast : Ext nx H nx1 (H1.put (nx + 1) (.cells (moV noMo nilV) 0 none false (some 28))) := by
    refine ((x0.trans x1).trans y1).put ?_
    omega
  exact ⟨.inr rfl, _, res_cell2 (a := ⟨nx + 1, 0, none⟩) (v := .agg (moV noMo nilV).toArray) (by simp [tmPut, *]) (readAt_agg (vs := moV noMo nilV) (by exact rfl) rfl (by exact rfl) (getc_all Heap.put_eq rfl)), rfl, hlast⟩
end Go.Proofs.Ytooakbmehcchnaa
