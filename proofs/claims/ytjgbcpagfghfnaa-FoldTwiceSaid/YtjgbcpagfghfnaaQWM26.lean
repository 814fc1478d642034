import Derived.Test.YtjgbcpagfghfnaaQWM25
import Derived.Test.YtjgbcpagfghfnaaQWM16
set_option linter.unusedVariables false
set_option linter.unusedSimpArgs false
set_option linter.unnecessarySimpa false
namespace Go.Am
open Go.RowKit
def nilV : MoV := ⟨.slice none 0 0, .slice none 0 0, .slice none 0 0, .slice none 0 0, .slice none 0 0, .slice none 0 0⟩
theorem rep_one (k : Nat) (z : Value) : rep k [z] = List.replicate k z := by
  unfold rep
  induction k with
  | zero => rfl
  | succ n ih => rw [List.replicate_succ, List.flatten_cons, ih, List.replicate_succ]; rfl
theorem aMakeSlice_one {P : Program} {nx : Nat} {t el : TypeId} {m bytes : Nat} {z : Value} (hu : P.underlying t = some (.slice el)) (hs : szOf P el = some 1) (hb : bytesOfT P el = some bytes) (hz : zeroOf P el = some [z]) (hm : m ≤ 100000) (hbl : bytes ≤ 1000) :
    aMakeSlice P nx t (.int .i64 m) (.int .i64 m) = some (.slice (some ⟨nx, 0, none⟩) m m, .new (.cells (List.replicate m z) 1 none false (some el))) := by
  have h1 : bytes * m ≤ 1000 * 100000 := Nat.mul_le_mul hbl hm
  unfold aMakeSlice
  simp only [hu, hs, hb, hz, Int.toNat_natCast, rep_one]
  rw [if_pos ⟨by omega, by omega, by omega, by omega, rfl⟩]
section
attribute [local irreducible] aop OpsL Trip blockExit OpsD OpsK OpsR OpsQ
variable {P : Program} {W0 : World} {σ : CH} {n : Nat} {ops : Array Oper} {l : List Oper} {tm : Nat → Value} {QQ : ASt → Prop} {d : Tmp} {type : TypeId} {pos : String} {after : Array Edge}
theorem OpsL.setAllC {c : Co} {b e k : Nat} {zs vs : List Value} {tg : Option Nat} {q : Option TypeId} {t : TypeId} {x y : Operand} (ho : ObC c σ b (.cells zs e tg false q)) (hs : szOf P t = some k) (hk : vs.length = k) (hl : vs.length = zs.length) (h1 : vs.all (·.oneCell') = true)
    (hx : ASt.ev ⟨tm, n, σ.H, σ.nx⟩ x = some (.pointer (some ⟨b, 0, tg⟩))) (hy : ASt.ev ⟨tm, n, σ.H, σ.nx⟩ y = some (.agg vs.toArray))
    (h : ∀ τ, ObC c τ b (.cells vs e tg false q) → Chg [c] σ τ → OpsL P W0 ops l ⟨tm, n, τ.H, τ.nx⟩ QQ) :
    OpsL P W0 ops (⟨none, .store t x y, type, pos, after, none⟩ :: l) ⟨tm, n, σ.H, σ.nx⟩ QQ := by
  refine OpsL.upd (aop_store (a := ⟨b, 0, tg⟩) (k := k) (u := .agg vs.toArray) hx hy hs (by rw [← hk]; rfl) (o := .cells vs e tg false q) (setc_allN (vs := vs) ho.2.2 hl h1)) ?_
  refine h ⟨σ.nx, σ.C, σ.H.put b (.cells vs e tg false q)⟩ ⟨ho.1, ho.2.1, Heap.put_eq⟩ ⟨Nat.le_refl _, fun i hi => ⟨rfl, fun hn => Heap.put_ne fun e => ?_⟩⟩
  subst e
  rw [ho.2.1] at hn
  exact hn (List.mem_singleton.2 rfl)
end
end Go.Am
namespace Go.Proofs.Ytjgbcpagfghfnaa
open Go.Am Go.RowKit
attribute [local irreducible] aop OpsL Trip blockExit OpsD OpsK OpsR OpsQ
structure J5 (σ0 : CH) (X : MkX) (q : MkP) (l : List Nat) (tm : Nat → Value) (σ : CH) : Prop where
  old : OldC σ0 σ
  a : ObC .self σ X.A (mObj X.pl X.cl ⟨if 5 ∈ l then .slice none 0 0 else tm 43, if 7 ∈ l then .slice none 0 0 else tm 45, .slice none 0 0, .slice none 0 0, .slice none 0 0, .slice none 0 0⟩)
  b : ObC .next σ X.B (nextO X.nv 0)
  r : ∃ cs, cs.length = 8 ∧ ObC .tmp σ X.a4 (.cells cs 0 none false (some 29))
  n : IntsC .old σ X.nv X.ns
  t4 : tm 4 = .pointer (some ⟨X.a4, 0, none⟩)
  t5 : tm 5 = .pointer (some ⟨X.A, 0, none⟩)
  t6 : tm 6 = .int .i64 q.k
  t7 : tm 7 = .int .i64 q.n
  t8 : tm 8 = .pointer (some ⟨X.B, 0, none⟩)
  t42 : tm 42 = .int .i64 q.n
  t44 : tm 44 = .int .i64 q.k
  t46 : 4 ∉ l → tm 46 = .pointer (some ⟨X.A, 0 + 2, none⟩)
  t47 : 6 ∉ l → tm 47 = .pointer (some ⟨X.A, 0 + 3, none⟩)
  of : 1 ∉ l → PlainC 3 .of σ (tm 43) ((List.replicate q.n (0 : Int)).map (.int .i64 ·))
  en : 3 ∉ l → PlainC 3 .entry σ (tm 45) ((List.replicate q.k (0 : Int)).map (.int .i64 ·))
  cA : 5 ∈ l → 7 ∈ l
set_option maxRecDepth 20000 in
set_option maxHeartbeats 16000000 in
theorem makeC0 (W0 : World) {σ0 : CH} {nv : Value} {ns : List Int} {size : Int} (hold : ∀ i, i < σ0.nx → σ0.C i = .old) (hn : IntsC .old σ0 nv ns) (hs : -9223372036854775808 ≤ size ∧ size ≤ 9223372036854775807) :
    ACalls Try.prog W0 7 [.int .i64 size, nv] σ0.nx σ0.H fun v nx' H' => ∃ V σ, v = .agg (moV (makeF size ns) V).toArray ∧ nx' = σ.nx ∧ H' = σ.H ∧ OldC σ0 σ ∧ MkO σ (makeF size ns) V := by
  refine ACalls.by_trip (fn := Try.f7) (c := _) Try.func7 rfl (fun tm n hn0 htm => ?_)
  have e0 : tm 0 = .int .i64 size := htm 0
  have e1 : tm 1 = nv := htm 1
  clear htm
  replace hn0 : n = 220 := hn0
  obtain ⟨na, nc, rfl⟩ := hn.at.slice
  obtain ⟨hs0, hs1⟩ := hs
  have hold0 : OldC σ0 σ0 := ⟨Nat.le_refl _, fun i hi => ⟨hold i hi, rfl⟩⟩
  obtain ⟨z1, z2, z3, z4, z5, z6⟩ := mkP_ok size
  have a1 := Int.emod_nonneg size (show (3 : Int) ≠ 0 by omega)
  have b1 := Int.emod_nonneg (size.tdiv 3) (show (3 : Int) ≠ 0 by omega)
  have c1 := Int.emod_nonneg (size.tdiv 9) (show (3 : Int) ≠ 0 by omega)
  have d1 := Int.emod_nonneg (size.tdiv 27) (show (6 : Int) ≠ 0 by omega)
  have kpl : size % 3 = ((mkP size).pl : Int) := by simp only [mkP]; omega
  have kcl : size.tdiv 3 % 3 = ((mkP size).cl : Int) := by simp only [mkP]; omega
  have kk : 1 + size.tdiv 9 % 3 = ((mkP size).k : Int) := by simp only [mkP]; omega
  have kn : ((mkP size).k : Int) + size.tdiv 27 % 6 = ((mkP size).n : Int) := by simp only [mkP]; omega
  refine Trip.seq ?_
  refine Trip.ops ?_
  refine OpsL.newC .tmp (aop_alloc (l := moC 0 0 nilV) (by exact rfl)) (by subst_vars; decide) ?_
  intro σ1 h4 x1
  replace hold0 := hold0.keep x1 (by simp)
  replace hn := hn.keep x1 (by simp)
  refine OpsL.nil ?_
  (change Trip _ _ _ _ _)
  repeat (first | (refine OpsL.q (by exact omv) ?_) | (refine Trip.seq ?_) | (refine Trip.ops ?_))
  refine OpsL.c2 (hf := entersWithinN) (hc := (withinC W0 size 3 (by omega) (by omega))) (h := ?_)
  rintro v nx1 H1 ⟨rfl, rfl, rfl⟩
  repeat (first | (refine OpsL.q (by exact omv) ?_))
  refine OpsL.p (by subst_vars; decide) (aop_quoT (a := size) (b := 3) (by (first | (simp only [ASt.ev, tmPut, ↓reduceIte, Nat.reduceEqDiff, *]; done))) (by (first | (simp only [ASt.ev, tmPut, ↓reduceIte, Nat.reduceEqDiff, *]; rfl))) (by omega) hs0 hs1) ?_
  refine OpsL.c2 (hf := entersWithinN) (hc := (withinC W0 (size.tdiv 3) 3 (by omega) (by omega))) (h := ?_)
  rintro v nx1 H1 ⟨rfl, rfl, rfl⟩
  refine OpsL.p (by subst_vars; decide) (aop_build (l := [(0, .int .i64 (size % 3)), (1, .int .i64 (size.tdiv 3 % 3))]) (v := .agg (moC (size % 3) (size.tdiv 3 % 3) nilV).toArray) (by simp [evParts, ASt.ev, tmPut]) (by kernel_rfl)) ?_
  refine OpsL.newC .self (aop_alloc (l := moC 0 0 nilV) (by exact rfl)) (by subst_vars; decide) ?_
  intro σ2 ha x2
  replace hold0 := hold0.keep x2 (by simp)
  replace hn := hn.keep x2 (by simp)
  replace h4 := h4.keep x2 (by simp)
  refine OpsL.setAllC (vs := moC (size % 3) (size.tdiv 3 % 3) nilV) ha (by exact rfl) rfl rfl rfl (by (first | (simp only [ASt.ev, tmPut, ↓reduceIte, Nat.reduceEqDiff, *]; done))) (by (first | (simp only [ASt.ev, tmPut, ↓reduceIte, Nat.reduceEqDiff, *]; done))) ?_
  intro σ3 ha3 x3
  replace hold0 := hold0.keep x3 (by simp)
  replace hn := hn.keep x3 (by simp)
  replace h4 := h4.keep x3 (by simp)
  refine OpsL.nil ?_
  (change Trip _ _ _ _ _)
  obtain ⟨A, hA⟩ : ∃ A, σ1.nx = A := ⟨_, rfl⟩
  obtain ⟨a4, ha4⟩ : ∃ A, σ0.nx = A := ⟨_, rfl⟩
  rw [hA] at ha3
  rw [ha4] at h4
  repeat (first | (refine OpsL.q (by exact omv) ?_) | (refine Trip.seq ?_) | (refine Trip.ops ?_))
  refine OpsL.p (by subst_vars; decide) (aop_quoT (a := size) (b := 9) (by (first | (simp only [ASt.ev, tmPut, ↓reduceIte, Nat.reduceEqDiff, *]; done))) (by (first | (simp only [ASt.ev, tmPut, ↓reduceIte, Nat.reduceEqDiff, *]; rfl))) (by omega) hs0 hs1) ?_
  refine OpsL.c2 (hf := entersWithinN) (hc := (withinC W0 (size.tdiv 9) 3 (by omega) (by omega))) (h := ?_)
  rintro v nx1 H1 ⟨rfl, rfl, rfl⟩
  refine OpsL.p (by subst_vars; decide) (aop_add (a := 1) (b := size.tdiv 9 % 3) (by (first | (simp only [ASt.ev, tmPut, ↓reduceIte, Nat.reduceEqDiff, *]; rfl))) (by (first | (simp only [ASt.ev, tmPut, ↓reduceIte, Nat.reduceEqDiff, *]; done))) (by omega)) ?_
  rw [kk]
  (first | (refine OpsL.q (by exact oasg) ?_))
  refine OpsL.nil ?_
  (change Trip _ _ _ _ _)
  repeat (first | (refine OpsL.q (by exact omv) ?_) | (refine Trip.seq ?_) | (refine Trip.ops ?_))
  refine OpsL.p (by subst_vars; decide) (aop_quoT (a := size) (b := 27) (by (first | (simp only [ASt.ev, tmPut, ↓reduceIte, Nat.reduceEqDiff, *]; done))) (by (first | (simp only [ASt.ev, tmPut, ↓reduceIte, Nat.reduceEqDiff, *]; rfl))) (by omega) hs0 hs1) ?_
  refine OpsL.c2 (hf := entersWithinN) (hc := (withinC W0 (size.tdiv 27) 6 (by omega) (by omega))) (h := ?_)
  rintro v nx1 H1 ⟨rfl, rfl, rfl⟩
  refine OpsL.p (by subst_vars; decide) (aop_add (a := (mkP size).k) (b := size.tdiv 27 % 6) (by (first | (simp only [ASt.ev, tmPut, ↓reduceIte, Nat.reduceEqDiff, *]; done))) (by (first | (simp only [ASt.ev, tmPut, ↓reduceIte, Nat.reduceEqDiff, *]; done))) (by omega)) ?_
  rw [kn]
  (first | (refine OpsL.q (by exact oasg) ?_))
  refine OpsL.nil ?_
  (change Trip _ _ _ _ _)
  repeat (first | (refine OpsL.q (by exact omv) ?_) | (refine Trip.seq ?_) | (refine Trip.ops ?_))
  refine OpsL.p (by subst_vars; decide) (aop_build (l := [(0, .slice na ns.length nc)]) (v := .agg #[.slice na ns.length nc, .int .i64 0]) (by simp [evParts, ASt.ev, tmPut, *]) (by kernel_rfl)) ?_
  refine OpsL.newC .next (aop_box (v := .agg #[.slice na ns.length nc, .int .i64 0]) (by (first | (simp only [ASt.ev, tmPut, ↓reduceIte, Nat.reduceEqDiff, *]; done)))) (by subst_vars; decide) ?_
  intro σ4 hb x4
  replace hold0 := hold0.keep x4 (by simp)
  replace hn := hn.keep x4 (by simp)
  replace h4 := h4.keep x4 (by simp)
  replace ha3 := ha3.keep x4 (by simp)
  replace hb : ObC .next σ4 σ3.nx (nextO (.slice na ns.length nc) 0) := hb
  (first | (refine OpsL.q (by exact oasg) ?_))
  refine OpsL.nil ?_
  (change Trip _ _ _ _ _)
  rw [kpl, kcl] at ha3
  have hmk : makeF size ns = makeQ ns (mkP size) := rfl
  rw [hmk]
  have hq := mkP_ok size
  generalize mkP size = q at *
  clear kpl kcl kk kn a1 b1 c1 d1 x1 x2 x3 x4 ha
  repeat (first | (refine Trip.seq ?_))
  obtain ⟨X, hX⟩ : ∃ X : MkX, MkX.mk A σ3.nx a4 (.slice na ns.length nc) (.slice none 0 0) ns q.pl q.cl = X := ⟨_, rfl⟩
  refine Trip.mono (Q := fun e st => e = .normal ∧ ∃ tm σ, st = ⟨tm, n, σ.H, σ.nx⟩ ∧ J5 σ0 X q [] tm σ) ?_ ?_
  · refine OpsQ.drawn [1, 3, 4, 5, 6, 7] (K := fun _ _ _ => True) mixed13 (by kernel_rfl) (by kernel_rfl) [0, 2, 1, 3, 4, 5, 6, 7] (by kernel_rfl) (fun _ _ => trivial) ?_
    refine OpsQ.one rfl rfl rfl (by kernel_rfl) ?_
    repeat (first | (refine OpsL.q (by exact omv) ?_) | (refine OpsL.nil ?_; (skip)))
    refine OpsQ.one rfl rfl rfl (by kernel_rfl) ?_
    repeat (first | (refine OpsL.q (by exact omv) ?_) | (refine OpsL.nil ?_; (skip)))
    refine OpsQ.uni (L0 := [1, 3, 4, 5, 6, 7]) (J := fun l st => ∃ tm σ, st = ⟨tm, n, σ.H, σ.nx⟩ ∧ J5 σ0 X q l tm σ ∧ (1 ∈ l → 5 ∈ l) ∧ (3 ∈ l → 7 ∈ l)) (fun _ _ _ _ _ => trivial) ?_ ?_ _ _ _ (Nat.le_refl _) (fun _ h => h) (by decide) ?_
    · rintro l st j hsub hnd ⟨tm, σ, rfl, h, h15, h37⟩ hj hfr
      have hmem : ∀ k, k ∈ l.erase j ↔ k ≠ j ∧ k ∈ l := fun k => by rw [hnd.mem_erase_iff]
      have hdep : ∀ k, depD _ j k = true → k ≠ j → k ∉ l := fun k hd hk hkl => by
        have := front_iff.1 hfr k ((hmem k).2 ⟨hk, hkl⟩)
        rw [hd] at this
        cases this
      have hj9 := hsub j hj
      simp only [List.mem_cons, List.not_mem_nil, or_false] at hj9
      have t5 := h.t5
      have t42 := h.t42
      have t44 := h.t44
      rcases hj9 with rfl | rfl | rfl | rfl | rfl | rfl
      · have hin5 := h15 hj
        refine ActStep.walk rfl rfl ?_
        refine OpsL.newC .of (aop_makeSlice (by (first | (simp only [ASt.ev, tmPut, ↓reduceIte, Nat.reduceEqDiff, *]; done))) (by (first | (simp only [ASt.ev, tmPut, ↓reduceIte, Nat.reduceEqDiff, *]; done))) (aMakeSlice_one (m := q.n) (bytes := 8) (z := .int .i64 0) (by exact rfl) (by exact rfl) (by exact rfl) (by exact rfl) (by omega) (by omega))) (by subst_vars; decide) ?_
        intro τ ho hx
        refine OpsL.nil ⟨trivial, _, τ, rfl, ⟨(h.old.keep hx (by simp)), ((by have m1 := hin5; have m2 := h.cA m1; have q := h.a.keep hx (by simp); simpa [mObj, hmem, tmPut, m1, m2] using q)), (h.b.keep hx (by simp)), ((by obtain ⟨cs, q1, q2⟩ := h.r; exact ⟨cs, q1, q2.keep hx (by simp)⟩)), (h.n.keep hx (by simp)), (by simpa [tmPut] using h.t4), (by simpa [tmPut] using h.t5), (by simpa [tmPut] using h.t6), (by simpa [tmPut] using h.t7), (by simpa [tmPut] using h.t8), (by simpa [tmPut] using h.t42), (by simpa [tmPut] using h.t44), (fun hk => by have q := h.t46 (fun q => hk ((hmem 4).2 ⟨by decide, q⟩)); simpa [tmPut] using q), (fun hk => by have q := h.t47 (fun q => hk ((hmem 6).2 ⟨by decide, q⟩)); simpa [tmPut] using q), (fun _ => ⟨σ.nx, by simp [tmPut], by rw [List.map_replicate]; exact ho⟩), (fun hk => by have q := (h.en (fun q => hk ((hmem 3).2 ⟨by decide, q⟩))).keep hx (by simp); simpa [tmPut] using q), (fun q => (hmem 7).2 ⟨by decide, h.cA ((hmem 5).1 q).2⟩)⟩, (fun q => absurd rfl ((hmem 1).1 q).1), (fun q => (hmem 7).2 ⟨by decide, h37 ((hmem 3).1 q).2⟩)⟩
      · have hin7 := h37 hj
        refine ActStep.walk rfl rfl ?_
        refine OpsL.newC .entry (aop_makeSlice (by (first | (simp only [ASt.ev, tmPut, ↓reduceIte, Nat.reduceEqDiff, *]; done))) (by (first | (simp only [ASt.ev, tmPut, ↓reduceIte, Nat.reduceEqDiff, *]; done))) (aMakeSlice_one (m := q.k) (bytes := 8) (z := .int .i64 0) (by exact rfl) (by exact rfl) (by exact rfl) (by exact rfl) (by omega) (by omega))) (by subst_vars; decide) ?_
        intro τ ho hx
        refine OpsL.nil ⟨trivial, _, τ, rfl, ⟨(h.old.keep hx (by simp)), ((by have m2 := hin7; have q := h.a.keep hx (by simp); simpa [mObj, hmem, tmPut, m2] using q)), (h.b.keep hx (by simp)), ((by obtain ⟨cs, q1, q2⟩ := h.r; exact ⟨cs, q1, q2.keep hx (by simp)⟩)), (h.n.keep hx (by simp)), (by simpa [tmPut] using h.t4), (by simpa [tmPut] using h.t5), (by simpa [tmPut] using h.t6), (by simpa [tmPut] using h.t7), (by simpa [tmPut] using h.t8), (by simpa [tmPut] using h.t42), (by simpa [tmPut] using h.t44), (fun hk => by have q := h.t46 (fun q => hk ((hmem 4).2 ⟨by decide, q⟩)); simpa [tmPut] using q), (fun hk => by have q := h.t47 (fun q => hk ((hmem 6).2 ⟨by decide, q⟩)); simpa [tmPut] using q), (fun hk => by have q := (h.of (fun q => hk ((hmem 1).2 ⟨by decide, q⟩))).keep hx (by simp); simpa [tmPut] using q), (fun _ => ⟨σ.nx, by simp [tmPut], by rw [List.map_replicate]; exact ho⟩), (fun q => (hmem 7).2 ⟨by decide, h.cA ((hmem 5).1 q).2⟩)⟩, (fun q => (hmem 5).2 ⟨by decide, h15 ((hmem 1).1 q).2⟩), (fun q => absurd rfl ((hmem 3).1 q).1)⟩
      · have hx : Chg [] σ σ := Chg.refl
        refine ActStep.walk rfl rfl ?_
        refine OpsL.p (by subst_vars; decide) (aop_fieldAddr (v := .pointer (some ⟨X.A, 0 + 2, none⟩)) (by (first | (simp only [ASt.ev, tmPut, ↓reduceIte, Nat.reduceEqDiff, *]; rfl))) (by exact rfl)) ?_
        refine OpsL.nil ⟨trivial, _, σ, rfl, ⟨(h.old.keep hx (by simp)), ((by have q := h.a.keep hx (by simp); simpa [mObj, hmem, tmPut] using q)), (h.b.keep hx (by simp)), ((by obtain ⟨cs, q1, q2⟩ := h.r; exact ⟨cs, q1, q2.keep hx (by simp)⟩)), (h.n.keep hx (by simp)), (by simpa [tmPut] using h.t4), (by simpa [tmPut] using h.t5), (by simpa [tmPut] using h.t6), (by simpa [tmPut] using h.t7), (by simpa [tmPut] using h.t8), (by simpa [tmPut] using h.t42), (by simpa [tmPut] using h.t44), (fun _ => by simp [tmPut, h.t5]), (fun hk => by have q := h.t47 (fun q => hk ((hmem 6).2 ⟨by decide, q⟩)); simpa [tmPut] using q), (fun hk => by have q := (h.of (fun q => hk ((hmem 1).2 ⟨by decide, q⟩))).keep hx (by simp); simpa [tmPut] using q), (fun hk => by have q := (h.en (fun q => hk ((hmem 3).2 ⟨by decide, q⟩))).keep hx (by simp); simpa [tmPut] using q), (fun q => (hmem 7).2 ⟨by decide, h.cA ((hmem 5).1 q).2⟩)⟩, (fun q => (hmem 5).2 ⟨by decide, h15 ((hmem 1).1 q).2⟩), (fun q => (hmem 7).2 ⟨by decide, h37 ((hmem 3).1 q).2⟩)⟩
      · have hown := h.of (hdep 1 (by kernel_rfl) (by decide))
        obtain ⟨vsl, hsl⟩ : ∃ x : SV, tm 43 = slV x := by
          obtain ⟨b, q1, q2⟩ := hown
          exact ⟨(some ⟨b, 0, none⟩, _, _), q1⟩
        have e1 := h.t46 (hdep 4 (by kernel_rfl) (by decide))
        have ha := h.a
        rw [if_pos hj, if_pos (h.cA hj)] at ha
        refine ActStep.walk rfl rfl ?_
        refine OpsL.setC (k := 2) (v := slV vsl) (cs' := moC X.pl X.cl ⟨slV vsl, .slice none 0 0, .slice none 0 0, .slice none 0 0, .slice none 0 0, .slice none 0 0⟩) ha (by simp [moC]) rfl (by exact rfl) rfl rfl (by (first | (simp only [ASt.ev, tmPut, ↓reduceIte, Nat.reduceEqDiff, *]; done))) (by (first | (simp only [ASt.ev, tmPut, ↓reduceIte, Nat.reduceEqDiff, *]; done))) rfl ?_
        rintro τ ha7 hx -
        refine OpsL.nil ⟨trivial, _, τ, rfl, ⟨(h.old.keep hx (by simp)), ((by have q := ha7; have m0 := h.cA hj; simpa [mObj, hmem, tmPut, hsl, m0] using q)), (h.b.keep hx (by simp)), ((by obtain ⟨cs, q1, q2⟩ := h.r; exact ⟨cs, q1, q2.keep hx (by simp)⟩)), (h.n.keep hx (by simp)), (by simpa [tmPut] using h.t4), (by simpa [tmPut] using h.t5), (by simpa [tmPut] using h.t6), (by simpa [tmPut] using h.t7), (by simpa [tmPut] using h.t8), (by simpa [tmPut] using h.t42), (by simpa [tmPut] using h.t44), (fun hk => by have q := h.t46 (fun q => hk ((hmem 4).2 ⟨by decide, q⟩)); simpa [tmPut] using q), (fun hk => by have q := h.t47 (fun q => hk ((hmem 6).2 ⟨by decide, q⟩)); simpa [tmPut] using q), (fun hk => by have q := (h.of (fun q => hk ((hmem 1).2 ⟨by decide, q⟩))).keep hx (by simp); simpa [tmPut] using q), (fun hk => by have q := (h.en (fun q => hk ((hmem 3).2 ⟨by decide, q⟩))).keep hx (by simp); simpa [tmPut] using q), (fun q => (hmem 7).2 ⟨by decide, h.cA ((hmem 5).1 q).2⟩)⟩, (fun q => absurd ((hmem 1).1 q).2 (hdep 1 (by kernel_rfl) (by decide))), (fun q => (hmem 7).2 ⟨by decide, h37 ((hmem 3).1 q).2⟩)⟩
      · have hx : Chg [] σ σ := Chg.refl
        refine ActStep.walk rfl rfl ?_
        refine OpsL.p (by subst_vars; decide) (aop_fieldAddr (v := .pointer (some ⟨X.A, 0 + 3, none⟩)) (by (first | (simp only [ASt.ev, tmPut, ↓reduceIte, Nat.reduceEqDiff, *]; rfl))) (by exact rfl)) ?_
        refine OpsL.nil ⟨trivial, _, σ, rfl, ⟨(h.old.keep hx (by simp)), ((by have q := h.a.keep hx (by simp); simpa [mObj, hmem, tmPut] using q)), (h.b.keep hx (by simp)), ((by obtain ⟨cs, q1, q2⟩ := h.r; exact ⟨cs, q1, q2.keep hx (by simp)⟩)), (h.n.keep hx (by simp)), (by simpa [tmPut] using h.t4), (by simpa [tmPut] using h.t5), (by simpa [tmPut] using h.t6), (by simpa [tmPut] using h.t7), (by simpa [tmPut] using h.t8), (by simpa [tmPut] using h.t42), (by simpa [tmPut] using h.t44), (fun hk => by have q := h.t46 (fun q => hk ((hmem 4).2 ⟨by decide, q⟩)); simpa [tmPut] using q), (fun _ => by simp [tmPut, h.t5]), (fun hk => by have q := (h.of (fun q => hk ((hmem 1).2 ⟨by decide, q⟩))).keep hx (by simp); simpa [tmPut] using q), (fun hk => by have q := (h.en (fun q => hk ((hmem 3).2 ⟨by decide, q⟩))).keep hx (by simp); simpa [tmPut] using q), (fun q => (hmem 7).2 ⟨by decide, h.cA ((hmem 5).1 q).2⟩)⟩, (fun q => (hmem 5).2 ⟨by decide, h15 ((hmem 1).1 q).2⟩), (fun q => (hmem 7).2 ⟨by decide, h37 ((hmem 3).1 q).2⟩)⟩
      · have hown := h.en (hdep 3 (by kernel_rfl) (by decide))
        obtain ⟨vsl, hsl⟩ : ∃ x : SV, tm 45 = slV x := by
          obtain ⟨b, q1, q2⟩ := hown
          exact ⟨(some ⟨b, 0, none⟩, _, _), q1⟩
        have e1 := h.t47 (hdep 6 (by kernel_rfl) (by decide))
        have ha := h.a
        rw [if_neg (hdep 5 (by kernel_rfl) (by decide)), if_pos hj] at ha
        refine ActStep.walk rfl rfl ?_
        refine OpsL.setC (k := 3) (v := slV vsl) (cs' := moC X.pl X.cl ⟨tm 43, slV vsl, .slice none 0 0, .slice none 0 0, .slice none 0 0, .slice none 0 0⟩) ha (by simp [moC]) rfl (by exact rfl) rfl rfl (by (first | (simp only [ASt.ev, tmPut, ↓reduceIte, Nat.reduceEqDiff, *]; done))) (by (first | (simp only [ASt.ev, tmPut, ↓reduceIte, Nat.reduceEqDiff, *]; done))) rfl ?_
        rintro τ ha7 hx -
        refine OpsL.nil ⟨trivial, _, τ, rfl, ⟨(h.old.keep hx (by simp)), ((by have q := ha7; have m0 := hdep 5 (by kernel_rfl) (by decide); simpa [mObj, hmem, tmPut, hsl, m0] using q)), (h.b.keep hx (by simp)), ((by obtain ⟨cs, q1, q2⟩ := h.r; exact ⟨cs, q1, q2.keep hx (by simp)⟩)), (h.n.keep hx (by simp)), (by simpa [tmPut] using h.t4), (by simpa [tmPut] using h.t5), (by simpa [tmPut] using h.t6), (by simpa [tmPut] using h.t7), (by simpa [tmPut] using h.t8), (by simpa [tmPut] using h.t42), (by simpa [tmPut] using h.t44), (fun hk => by have q := h.t46 (fun q => hk ((hmem 4).2 ⟨by decide, q⟩)); simpa [tmPut] using q), (fun hk => by have q := h.t47 (fun q => hk ((hmem 6).2 ⟨by decide, q⟩)); simpa [tmPut] using q), (fun hk => by have q := (h.of (fun q => hk ((hmem 1).2 ⟨by decide, q⟩))).keep hx (by simp); simpa [tmPut] using q), (fun hk => by have q := (h.en (fun q => hk ((hmem 3).2 ⟨by decide, q⟩))).keep hx (by simp); simpa [tmPut] using q), (fun q => absurd ((hmem 5).1 q).2 (hdep 5 (by kernel_rfl) (by decide)))⟩, (fun q => (hmem 5).2 ⟨by decide, h15 ((hmem 1).1 q).2⟩), (fun q => absurd ((hmem 3).1 q).2 (hdep 3 (by kernel_rfl) (by decide)))⟩
    · rintro st ⟨tm, σ, rfl, h, -, -⟩
      exact ⟨rfl, tm, σ, rfl, h⟩
    · subst hX
      refine ⟨_, σ4, rfl, ⟨hold0, by simpa [mObj, nilV] using ha3, hb, ⟨_, rfl, h4⟩, hn, by simp [tmPut, *], by simp [tmPut, *], by simp [tmPut, *], by simp [tmPut, *], by simp [tmPut, *], by simp [tmPut, *], by simp [tmPut, *], fun q => absurd q (by simp), fun q => absurd q (by simp), fun q => absurd q (by simp), fun q => absurd q (by simp), by simp⟩, by simp, by simp⟩
  · clear e0 e1 hold0 ha3 hb h4 hn
    rintro e st ⟨rfl, tm, σ, rfl, h⟩
    obtain ⟨h1, ha, hb, hr, hn, t4, t5, t6, t7, t8, -, -, -, -, hof, hen, -⟩ := h
    replace hof := hof (by simp)
    replace hen := hen (by simp)
    rw [if_neg (by simp), if_neg (by simp)] at ha
    (change Trip _ _ _ _ _)
    repeat (first | (refine OpsL.q (by exact omv) ?_) | (refine Trip.seq ?_) | (refine Trip.ops ?_))
    refine OpsL.newC .table (aop_makeSlice (by (first | (simp only [ASt.ev, tmPut, ↓reduceIte, Nat.reduceEqDiff, *]; done))) (by (first | (simp only [ASt.ev, tmPut, ↓reduceIte, Nat.reduceEqDiff, *]; done))) (aMakeSlice_one (m := q.k) (bytes := 24) (z := .slice none 0 0) (by exact rfl) (by exact rfl) (by exact rfl) (by exact rfl) (by omega) (by omega))) (by subst_vars; decide) ?_
    intro τ ho hx
    have hM : MkS σ0 τ { X with tv := .slice (some ⟨σ.nx, 0, none⟩) q.k q.k } (Go.Am.d1 ns q 0) ⟨tm 43, tm 45, .slice none 0 0, .slice none 0 0, .slice none 0 0, .slice none 0 0⟩ := by
      obtain ⟨cs, r1, r2⟩ := hr
      refine ⟨h1.keep hx (by simp), ha.keep hx (by simp), ?_, ⟨cs, r1, r2.keep hx (by simp)⟩, hn.keep hx (by simp), ?_, hen.keep hx (by simp), ⟨List.replicate q.k (none, 0, 0), ⟨σ.nx, by simp, by rw [List.map_replicate]; exact ho⟩, ?_⟩, OwnC.nil, OwnLC.nil, OwnLC.nil, OwnLC.nil⟩
      · exact hb.keep hx (by simp)
      · have := hof.keep hx (by simp)
        simpa [Go.Am.d1, l1F] using this
      · refine ⟨by simp [Go.Am.d1], fun i x hxi => ?_⟩
        have hi : i < q.k := by have := (List.getElem?_eq_some_iff.1 hxi).1; simpa [Go.Am.d1] using this
        refine ⟨(none, 0, 0), by rw [List.getElem?_replicate, if_pos hi], ?_⟩
        have e : (Go.Am.d1 ns q 0).T[i]? = some [] := by
          show ((List.range q.k).map fun (c : Nat) => tabF [] (c : Int))[i]? = some []
          rw [List.getElem?_map, List.getElem?_range hi]; rfl
        rw [e] at hxi
        cases hxi
        exact OwnC.nil
    have hXns : X.ns = ns := by rw [← hX]
    have hpl : X.pl = q.pl := by rw [← hX]
    have hcl : X.cl = q.cl := by rw [← hX]
    clear hX h1 ha hb hr hn hof hen ho hx
    obtain ⟨Y, hY⟩ : ∃ Y : MkX, Y = { X with tv := .slice (some ⟨σ.nx, 0, none⟩) q.k q.k } := ⟨_, rfl⟩
    have y1 : Y.A = X.A := by rw [hY]
    have y2 : Y.B = X.B := by rw [hY]
    have y3 : Y.a4 = X.a4 := by rw [hY]
    have y4 : Y.tv = .slice (some ⟨σ.nx, 0, none⟩) q.k q.k := by rw [hY]
    have y5 : Y.ns = ns := by rw [hY]; exact hXns
    have y6 : Y.pl = q.pl := by rw [hY]; exact hpl
    have y7 : Y.cl = q.cl := by rw [hY]; exact hcl
    rw [← hY, ← y5] at hM
    rw [← y3] at t4
    rw [← y1] at t5
    rw [← y2] at t8
    rw [← y4]
    clear hY y1 y2 y3 y4 hXns hpl hcl
    (first | (refine OpsL.q (by exact oasg) ?_))
    refine OpsL.nil ?_
    (change Trip _ _ _ _ _)
    refine Trip.seq (Trip.seq ?_)
    refine Trip.ops ?_
    (first | (refine OpsL.q (by exact oasg) ?_))
    refine OpsL.nil ?_
    (change Trip _ _ _ _ _)
    refine mkL1 (X := Y) (q := q) W0 hq hn0 ⟨by simp [tmPut, *], by simp [tmPut, *], by simp [tmPut, *], by simp [tmPut, *], by simp [tmPut, *], by simp [tmPut]⟩ (by simp [tmPut]) hM ?_
    clear t4 t5 t6 t7 t8 hM
    intro tm σ V ⟨t4, t5, t6, t7, t8, t9⟩ hM
    rw [d1_d2] at hM
    dsimp only
    refine Trip.seq (Trip.seq ?_)
    refine Trip.ops ?_
    (first | (refine OpsL.q (by exact oasg) ?_))
    refine OpsL.nil ?_
    (change Trip _ _ _ _ _)
    refine mkL2 (X := Y) (q := q) W0 hq hn0 ⟨by simp [tmPut, *], by simp [tmPut, *], by simp [tmPut, *], by simp [tmPut, *], by simp [tmPut, *], by simp [tmPut, *]⟩ (by simp [tmPut]) hM ?_
    clear t4 t5 t6 t7 t8 t9 hM
    intro tm σ V ⟨t4, t5, t6, t7, t8, t9⟩ hM
    rw [d2_d3] at hM
    dsimp only
    refine Trip.seq (Trip.seq ?_)
    refine Trip.ops ?_
    (first | (refine OpsL.q (by exact oasg) ?_))
    refine OpsL.nil ?_
    (change Trip _ _ _ _ _)
    refine mkL3 (X := Y) (q := q) W0 hq hn0 y6 y7 ⟨by simp [tmPut, *], by simp [tmPut, *], by simp [tmPut, *], by simp [tmPut, *], by simp [tmPut, *], by simp [tmPut, *]⟩ (by simp [tmPut]) hM ?_
    clear t4 t5 t6 t7 t8 t9 hM
    intro tm σ V ⟨t4, t5, t6, t7, t8, t9⟩ hM
    dsimp only
    obtain ⟨cs, hcs, h4⟩ := hM.r
    have hga : getc σ.H ⟨Y.A, 0, none⟩ 8 = some (moC Y.pl Y.cl V) := getc_all hM.a.2.2 rfl
    refine Trip.seq ?_
    refine Trip.ops ?_
    refine OpsL.p (by subst_vars; decide) (aop_loadAgg (k := 8) (by (first | (simp only [ASt.ev, tmPut, ↓reduceIte, Nat.reduceEqDiff, *]; done))) (by exact rfl) rfl (by exact rfl) hga) ?_
    have so : V.o.oneCell' = true := by obtain ⟨_, e, _⟩ := hM.of.block; rw [e]; rfl
    have se : V.e.oneCell' = true := by obtain ⟨_, e, _⟩ := hM.en.block; rw [e]; rfl
    have sf : V.f.oneCell' = true := by obtain ⟨_, _, e⟩ := OwnC.slice encBo_len hM.fi; rw [e]; rfl
    have si : V.i.oneCell' = true := by obtain ⟨_, q1, _⟩ := hM.inn; obtain ⟨_, _, e⟩ := OwnC.slice encS_len q1; rw [e]; rfl
    have sl : V.l.oneCell' = true := by obtain ⟨_, q1, _⟩ := hM.low; obtain ⟨_, _, e⟩ := OwnC.slice encS_len q1; rw [e]; rfl
    have sr : V.r.oneCell' = true := by obtain ⟨_, q1, _⟩ := hM.ret; obtain ⟨_, _, e⟩ := OwnC.slice encS_len q1; rw [e]; rfl
    refine OpsL.setAllC (vs := moC Y.pl Y.cl V) h4 (by exact rfl) rfl (by rw [hcs]; rfl) (by simp only [moC, List.all_cons, List.all_nil, so, se, sf, si, sl, sr, Bool.and_true]; rfl) (by (first | (simp only [ASt.ev, tmPut, ↓reduceIte, Nat.reduceEqDiff, *]; done))) (by (first | (simp only [ASt.ev, tmPut, ↓reduceIte, Nat.reduceEqDiff, *]; done))) ?_
    intro τ ho hx
    refine OpsL.nil ?_
    (change Trip _ _ _ _ _)
    refine Trip.ret ?_
    refine ⟨.inr rfl, _, res_cell (by simp [tmPut, *]) (readAt_agg (by exact rfl) rfl (by exact rfl) (getc_all ho.2.2 rfl)), V, τ, ?_, rfl, rfl, hM.old.keep hx (by simp), ?_⟩
    · rw [y6, y7]
      rfl
    · have h1 := hM.of.keep hx (by simp)
      have h2 := hM.en.keep hx (by simp)
      have h3 := hM.fi.keep hx (by simp)
      have h5 := Row2.keepL hx (by simp) (fun _ _ => by simp) hM.inn
      have h6 := Row2.keepL hx (by simp) (fun _ _ => by simp) hM.low
      have h7 := Row3.keepL hx (by simp) (fun _ _ => by simp) (fun _ _ _ => by simp) hM.ret
      rw [y5] at h1 h2 h3 h5 h6 h7
      exact ⟨h1, h2, h3, h5, h6, h7⟩
end Go.Proofs.Ytjgbcpagfghfnaa
