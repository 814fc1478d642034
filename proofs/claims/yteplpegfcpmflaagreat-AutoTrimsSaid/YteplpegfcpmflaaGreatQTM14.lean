import Derived.Test.YteplpegfcpmflaaGreatQTM13
set_option linter.unusedSimpArgs false
set_option linter.unusedVariables false
set_option maxRecDepth 100000
set_option maxHeartbeats 64000000
namespace Go.Am
open Go.RowKit
theorem zhW {P : Program} {W0 : World} {f : FuncId} {r : Bool} {R : Nat → Heap → Prop}
  (h : ∀ w, ACalls P w f [] NG (z2s []).get fun v nx' H' => v = .bool r ∧ R nx' H') (nx : Nat) (H : Heap) : ACalls P W0 f [] nx H fun v nx' H' => v = .bool r ∧ nx' = nx ∧ H' = H := by
 intro C w args' hR hargs
 have hargs' : args' = [] := by
  have := hargs.1;simpa using this.symm
 subst hargs';refine (h w (z3j w) w [] (z7L Tabs.nil (BelD.refl _ _)) ⟨rfl, fun i p _ => by simp at p⟩).mono ?_;rintro e w' ⟨v, v', C', nx', H', rfl, ⟨rfl, _⟩, hR', hv, hS⟩;have hv' : v' = .bool r := by cases hv; rfl
 subst hv';exact ⟨_, _, C, nx, H, rfl, ⟨rfl, rfl, rfl⟩, hR.world (hR.below.trans (hR'.below.mono hR.below.size)) (fun k hk => hR'.below.block k hk), .bool r, Stp.refl _ _ _⟩
end Go.Am
namespace Go.Proofs.YteplpegfcpmflaaGreat
open Go.RowKit Go.Am
attribute [local irreducible] aop OpsL Trip zC z36 OpsK OpsR
def A0 : Aut := ⟨2, 1, [0], [1], [(0, 0, 0, 1)], [(0, 1, 1, 1)], []⟩
def E0 : Aut := ⟨0, 0, [], [], [], [], []⟩
def B0 : Aut := ⟨1, 0, [], [1], [], [], []⟩
theorem zfG (t : Thg) : ReachT A0 t ↔ t ∈ [((1, 0) : Thg), (0, 0), (1, 1), (0, 1)] := by
 have h00 : ReachT A0 (0, 0) := .init (by simp [A0]);have m1 : ((0, 0, 0, 1) : R4) ∈ zP A0 := by simp [zP, A0, z0z, z12]
 have m2 : ((0, 1, 1, 0) : R4) ∈ zP A0 := by simp [zP, A0, z0z, z12]
 have h11 : ReachT A0 (1, 1) := .step m1 (fun u hu => by
  simp only [zN, List.mem_cons, List.not_mem_nil, or_false] at hu;rcases hu with rfl | rfl
  ·exact h00
  ·exact .bot) (by simp [zV])
 have h01 : ReachT A0 (0, 1) := .step m2 (fun u hu => by
  simp only [zN, List.mem_cons, List.not_mem_nil, or_false] at hu;rcases hu with rfl | rfl
  ·exact h00
  ·exact h11) (by simp [zV])
 constructor
 ·intro h
  cases h with
  | bot => simp
  | init hs => simp only [A0, List.mem_singleton] at hs; subst hs; simp
  | step hm _ hg =>
   simp only [zP, A0, List.map_cons, List.map_nil, List.append_nil, List.cons_append, List.nil_append, List.mem_cons, List.not_mem_nil, or_false, z0z, z12] at hm;rcases hm with rfl | rfl
   ·simp only [zV, List.mem_cons, List.not_mem_nil, or_false] at hg
    rcases hg with rfl | rfl
    ·simp
    ·simp
   ·simp only [zV, List.mem_cons, List.not_mem_nil, or_false] at hg
    rcases hg with rfl | rfl
    ·simp
    ·simp
 ·intro h
  simp only [List.mem_cons, List.not_mem_nil, or_false] at h;rcases h with rfl | rfl | rfl | rfl
  ·exact .bot
  ·exact h00
  ·exact h11
  ·exact h01
theorem zf2 {L : List Int} {k : Int} (hk : k = 0 ∨ k = 1) (h : z1t A0 k L) : L = [0, 1] := by
 refine z4j zeL _ _ h.1 (by simp [z29, lt1]) fun x => ?_;rw [h.2 x, zfG];rcases hk with rfl | rfl
 ·simp
 ·simp
theorem zgX {L : List Int} (h : z1t E0 0 L) : L = [] := by
 refine List.eq_nil_iff_forall_not_mem.2 fun x hx => ?_;have := (h.2 x).1 hx;cases this with
 | init hs => cases hs
 | step hm _ _ => simp [zP, E0] at hm
theorem z4m : Am.z0F Tryz.prog 6 := ⟨Tryz.f6, Tryz.func6, by kernel_rfl, by kernel_rfl⟩
theorem z8r {α : Type} {enc : α → List Value} {sz : Nat} {H : Heap} {b e : Nat} {q : Option TypeId} {x : α} (hk : (enc x).length = sz) (h : H b = some (.cells (enc x) e none false q)) : RowsAt enc sz H (.slice (some ⟨b, 0, none⟩) 1 1) [x] := by
 refine .inr ⟨⟨b, 0, none⟩, 1, rfl, fun j hj => ?_⟩;have : j = 0 := by simpa using hj
 subst this;unfold z0L;simp only [h];rw [if_pos ⟨trivial, by omega⟩, Nat.zero_mul, Nat.zero_add, List.drop_zero, List.take_of_length_le (by omega)];rfl
theorem z49 {α : Type} {enc : α → List Value} {sz : Nat} {H : Heap} : RowsAt enc sz H (.slice none 0 0) ([] : List α) := .inl ⟨0, rfl, rfl⟩
def VA (b : Nat) : List Value := zA A0 (.slice (some ⟨b, 0, none⟩) 1 1) (.slice (some ⟨b + 1, 0, none⟩) 1 1) (.slice (some ⟨b + 2, 0, none⟩) 1 1) (.slice (some ⟨b + 3, 0, none⟩) 1 1) (.slice none 0 0)
def VE : List Value := zA E0 (.slice none 0 0) (.slice none 0 0) (.slice none 0 0) (.slice none 0 0) (.slice none 0 0)
theorem zh0 (W0 : World) : ACalls Tryz.prog W0 6 [] NG (z2s []).get fun v _ _ => v = .bool true ∧ True := by
 generalize (z2s []).get = H at *;generalize NG = nx at *;refine ze (fn := Tryz.f6) (c := _) Tryz.func6 rfl (fun tm n hn0 htm => ?_);clear htm;replace hn0 : n = 61 := hn0;refine Trip.ok fun hok => ?_;replace hok : ∀ id o, H id = some o → id < nx := hok;refine z9r ?_;refine OpsL.c2 (hf := z7b) (hc := (zgJ W0 (ns := []) (.inl ⟨0, rfl, rfl⟩)).ok) (h := ?_);rintro lv b H1 ⟨⟨hl, x1⟩, k1⟩;have hss : z4x 0 [] = [(⟨#[97]⟩, 1), (⟨#[97]⟩, 2), (⟨#[98]⟩, 3)] := by kernel_rfl
 rw [hss] at hl;have hs3 : ([(⟨#[97]⟩, 1), (⟨#[97]⟩, 2), (⟨#[98]⟩, 3)] : List (ByteArray × Int)).length ≤ 1000 := by decide
 clear hss;refine z9r ?_;refine OpsL.new (by subst_vars; decide) (zl (l := [(0, .int .i64 0)]) (r := (.slice (some ⟨b, 0, none⟩) 1 1, .new (.cells (z59 0) 1 none false (some 3)))) (by simp only [zt, ASt.ev, z9, ↓reduceIte, reduceIte, Option.some.injEq, Nat.reduceEqDiff, zY, zk, *]) krf) ?_;refine OpsL.new (by subst_vars; decide) (zl (l := [(0, .int .i64 1)]) (r := (.slice (some ⟨b + 1, 0, none⟩) 1 1, .new (.cells (z59 1) 1 none false (some 3)))) (by simp only [zt, ASt.ev, z9, ↓reduceIte, reduceIte, Option.some.injEq, Nat.reduceEqDiff, zY, zk, *]) krf) ?_;refine z7 (zy (v := .agg (Go.Am.e4 (0, 0, 0, 1)).toArray) (l := [(0, .int .i64 0), (1, .int .i64 0), (2, .int .i64 0), (3, .int .i64 1)]) (by simp only [zt, ASt.ev, z9, ↓reduceIte, reduceIte, Option.some.injEq, Nat.reduceEqDiff, zY, zk, *]) krf) ?_;refine OpsL.new (by subst_vars; decide) (zl (l := [(0, .agg (Go.Am.e4 (0, 0, 0, 1)).toArray)]) (r := (.slice (some ⟨b + 1 + 1, 0, none⟩) 1 1, .new (.cells (Go.Am.e4 (0, 0, 0, 1)) 4 none false (some 43)))) (by simp only [zt, ASt.ev, z9, ↓reduceIte, reduceIte, Option.some.injEq, Nat.reduceEqDiff, zY, zk, *]) krf) ?_;refine z7 (zy (v := .agg (Go.Am.e4 (0, 1, 1, 1)).toArray) (l := [(0, .int .i64 0), (1, .int .i64 1), (2, .int .i64 1), (3, .int .i64 1)]) (by simp only [zt, ASt.ev, z9, ↓reduceIte, reduceIte, Option.some.injEq, Nat.reduceEqDiff, zY, zk, *]) krf) ?_;refine OpsL.new (by subst_vars; decide) (zl (l := [(0, .agg (Go.Am.e4 (0, 1, 1, 1)).toArray)]) (r := (.slice (some ⟨b + 1 + 1 + 1, 0, none⟩) 1 1, .new (.cells (Go.Am.e4 (0, 1, 1, 1)) 4 none false (some 45)))) (by simp only [zt, ASt.ev, z9, ↓reduceIte, reduceIte, Option.some.injEq, Nat.reduceEqDiff, zY, zk, *]) krf) ?_;refine z7 (zy (v := .agg (VA b).toArray) (l := [(0, .int .i64 2), (1, .int .i64 1), (2, .slice (some ⟨b, 0, none⟩) 1 1), (3, .slice (some ⟨b + 1, 0, none⟩) 1 1), (4, .slice (some ⟨b + 1 + 1, 0, none⟩) 1 1), (5, .slice (some ⟨b + 1 + 1 + 1, 0, none⟩) 1 1)]) (by simp only [zt, ASt.ev, z9, ↓reduceIte, reduceIte, Option.some.injEq, Nat.reduceEqDiff, zY, zk, *]) krf) ?_;refine OpsL.new (by subst_vars; decide) (zw (l := z1Y) krf) ?_;refine OpsL.upd (zp (k := 7) (u := .agg (VA b).toArray) evd evd (by exact rfl) rfl (o := .cells (VA b) 0 none false (some 30)) (zz (vs := VA b) z6 rfl rfl)) ?_;obtain ⟨G, hG⟩ : ∃ Q, Q = (((((H1.put b (.cells (z59 0) 1 none false (some 3))).put (b + 1) (.cells (z59 1) 1 none false (some 3))).put (b + 1 + 1) (.cells (Go.Am.e4 (0, 0, 0, 1)) 4 none false (some 43))).put (b + 1 + 1 + 1) (.cells (Go.Am.e4 (0, 1, 1, 1)) 4 none false (some 45))).put (b + 1 + 1 + 1 + 1) (.cells z1Y 0 none false (some 30))).put (b + 1 + 1 + 1 + 1) (.cells (VA b) 0 none false (some 30)) := ⟨_, rfl⟩;obtain ⟨m, hm⟩ : ∃ q, b + 1 + 1 + 1 + 1 + 1 = q := ⟨_, rfl⟩;have kG : ∀ id o, G id = some o → id < m := by rw [hG, ← hm]; exact zL (zB (zB (zB (zB (zB k1))))) z6
 have gA : G (b + 1 + 1 + 1 + 1) = some (.cells (VA b) 0 none false (some 30)) := by rw [hG, z6]
 have hx : Ext b H1 m G := ⟨by omega, fun j hj => by rw [hG, z5 (by omega), z5 (by omega), z5 (by omega), z5 (by omega), z5 (by omega), z5 (by omega)]⟩
 have hA : AutIn G A0 (.slice (some ⟨b, 0, none⟩) 1 1) (.slice (some ⟨b + 1, 0, none⟩) 1 1) (.slice (some ⟨b + 2, 0, none⟩) 1 1) (.slice (some ⟨b + 3, 0, none⟩) 1 1) (.slice none 0 0) :=
  ⟨z0S (z8r rfl (by rw [hG, z5 (by omega), z5 (by omega), z5 (by omega), z5 (by omega), z5 (by omega), z6])), z0S (z8r rfl (by rw [hG, z5 (by omega), z5 (by omega), z5 (by omega), z5 (by omega), z6])), z8r rfl (by rw [hG, z5 (by omega), z5 (by omega), z5 (by omega), z6]), z8r rfl (by rw [hG, z5 (by omega), z5 (by omega), z6]), z49⟩
 rw [← hG]
 first | dsimp only | skip
 rw [hm];obtain ⟨p, hp⟩ : ∃ q, b + 1 + 1 + 1 + 1 = q := ⟨_, rfl⟩;rw [hp] at gA ⊢;have hpm : p < m := by omega
 have hl1 := hl.ext hx k1;have nA : AutLen A0 := ⟨by decide, by decide, by decide, by decide, by decide⟩;have nE : AutLen E0 := ⟨by decide, by decide, by decide, by decide, by decide⟩;have nB : AutLen B0 := ⟨by decide, by decide, by decide, by decide, by decide⟩;have fA : zaH A0 := .inl ⟨by decide, by decide⟩;have fE : zaH E0 := .inr ⟨fun s h => (by cases h), fun m h => (by simp [zP, E0] at h)⟩;clear hG hm hp hl hx x1 k1;refine z7i ?_;refine z7 (za (k := 7) (vs := VA b) evd (by exact rfl) rfl (by exact rfl) (zx gA rfl)) ?_;refine OpsL.c2 (hf := z42) (hc := (z5x W0 hA nA fA).ok) (h := ?_);rintro u m2 H2 ⟨⟨L0, L1, l2, wi, wf, wo, wc, wn, h20, h21, rfl, hT, x2⟩, k2⟩;have eL0 := zf2 (.inl rfl) h20;have eL1 := zf2 (.inr rfl) h21;subst eL0; subst eL1;have hTI := hT.in;have hone := z8q hTI;clear hT h20 h21;have hTN : (z02 (z00 A0 [0, 1] [0, 1])).N = 2 := by kernel_rfl
 have hTO : (z02 (z00 A0 [0, 1] [0, 1])).opens.length = 1 := by kernel_rfl
 generalize z02 (z00 A0 [0, 1] [0, 1]) = T at *;have g2 := (x2.2 p hpm).trans gA;refine OpsL.new (by subst_vars; decide) (zw (l := z1Y) krf) ?_;refine OpsL.upd (zp (k := 7) (u := .agg (zA T wi wf wo wc wn).toArray) evd evd (by exact rfl) rfl (o := .cells (zA T wi wf wo wc wn) 0 none false (some 30)) (zz (vs := zA T wi wf wo wc wn) z6 rfl hone)) ?_;obtain ⟨G3, hG3⟩ : ∃ G0, G0 = (H2.put m2 (.cells z1Y 0 none false (some 30))).put m2 (.cells (zA T wi wf wo wc wn) 0 none false (some 30)) := ⟨_, rfl⟩;have x3 : Ext m2 H2 (m2 + 1) G3 := ⟨Nat.le_succ _, fun j hj => by rw [hG3, z5 (by omega), z5 (by omega)]⟩;have k3 : ∀ id o, G3 id = some o → id < m2 + 1 := by rw [hG3]; exact zL (zB k2) z6
 have b3 : G3 m2 = some (.cells (zA T wi wf wo wc wn) 0 none false (some 30)) := by rw [hG3, z6]
 rw [← hG3];clear hG3 hone;have hle2 := x2.1;have x13 := x2.trans x3;have g3 := (x3.2 p (by omega)).trans g2;have hA3 := hA.ext x13 kG;have hT3 := hTI.ext x3 k2;have hl3 := hl1.ext x13 kG;clear g2 gA hA hTI hl1 x2 x3 x13 k2 kG;obtain ⟨ao, co, hwo⟩ := hT3.opens.slice;subst hwo;obtain ⟨m3, hm3⟩ : ∃ q, m2 + 1 = q := ⟨_, rfl⟩;rw [hm3] at k3 ⊢;have hm23 : m2 < m3 := by omega
 have hpm3 : p < m3 := by omega
 clear hm3;refine zfY ?_;refine OpsR.drawn [2, 8, 14, 19, 35, 37, 41, 43] (K := fun nx1 HH => Ext m3 G3 nx1 HH) krf krf krf [0, 1, 2, 3, 4, 5, 6, 7, 8, 9, 10, 11, 12, 13, 14, 15, 16, 17, 18, 19, 20, 21, 22, 23, 24, 25, 26, 27, 28, 29, 30, 31, 32, 33, 34, 36, 35, 37, 38, 39, 40, 41, 42, 43, 44, 45, 46] krf Ext.refl ?_;refine z5I ?_;refine zg1 ?_;refine z7 (zy (v := .agg VE.toArray) (l := []) (by simp only [zt]) krf) ?_;refine OpsL.nil ?_;refine z0K ?_;refine OpsL.c2 (hf := z42) (hc := (z5x W0 (a := E0) ⟨z0S z49, z0S z49, z49, z49, z49⟩ nE fE).ok) (h := ?_);rintro u m4 H4 ⟨⟨M0, M1, l4, zi, zf, zo, zc, zn, h40, h41, rfl, -, x4⟩, k4⟩;have eM0 := zgX h40;subst eM0;have hEN : (z02 (z00 E0 [] M1)).N = 0 := rfl;refine OpsL.nil ⟨x4, ?_⟩;refine zg1 ?_;refine z7 (v := .int .i64 0) (zdm (cs := zA (z02 (z00 E0 [] M1)) zi zf zo zc zn) evd (by exact rfl) (by exact rfl) (by exact rfl) rfl (by exact rfl)) ?_;refine OpsL.nil ?_;refine zD (v := .bool true) rfl krf (by subst_vars; decide) x4 (fun HH nn hK => z3V evr evr rfl) ?_;refine zg4 ?_;refine zfe ?_;refine z0Y (v := .agg (VA b).toArray) rfl krf (by subst_vars; decide) (by exact rfl) evd x4 (fun HH nn hK => za (k := 7) (vs := VA b) evd (by exact rfl) rfl (by exact rfl) (zx ((hK.2 p hpm3).trans g3) rfl)) ?_;refine z6D ?_;refine OpsL.c2 (hf := z6h) (hc := (zf9 W0 (hl3.ext x4 k3) hs3 (hA3.ext x4 k3) nA).ok) (h := ?_);rintro v5 m5 H5 ⟨⟨rfl, x5⟩, k5⟩;have e5 := x4.trans x5;refine OpsL.nil ⟨e5, ?_⟩;have hc5 : z0o [(⟨#[97]⟩, 1), (⟨#[97]⟩, 2), (⟨#[98]⟩, 3)] A0 = true := by kernel_rfl
 rw [hc5]
 first | dsimp only | skip
 refine z0Y (v := .bool true) rfl krf (by subst_vars; decide) (by exact rfl) evd e5 (fun HH nn hK => z3V evr evr rfl) ?_;refine z5p ?_;refine zg4 ?_;refine zfe ?_;refine z0Y (v := .agg (VA b).toArray) rfl krf (by subst_vars; decide) (by exact rfl) evd e5 (fun HH nn hK => za (k := 7) (vs := VA b) evd (by exact rfl) rfl (by exact rfl) (zx ((hK.2 p hpm3).trans g3) rfl)) ?_;refine z6D ?_;refine OpsL.c2 (hf := z98) (hc := (zfD W0 (hA3.ext e5 k3) nA).ok) (h := ?_);rintro v6 m6 H6 ⟨⟨rfl, x6⟩, k6⟩;have e6 := e5.trans x6;refine OpsL.nil ⟨e6, ?_⟩;have hc6 : z9D A0 = true := by kernel_rfl
 rw [hc6];refine z5p ?_;refine zg4 ?_;refine zfe ?_;refine z0Y (v := .agg (VA b).toArray) rfl krf (by subst_vars; decide) (by exact rfl) evd e6 (fun HH nn hK => za (k := 7) (vs := VA b) evd (by exact rfl) rfl (by exact rfl) (zx ((hK.2 p hpm3).trans g3) rfl)) ?_;refine z6D ?_;refine OpsL.c2 (hf := za1) (hc := (zgP W0 (hl3.ext e6 k3) hs3 (hA3.ext e6 k3) nA (by decide) (by decide) (by decide) (by decide)).ok) (h := ?_);rintro v7 m7 H7 ⟨⟨rfl, x7⟩, k7⟩;have e7 := e6.trans x7;refine OpsL.nil ⟨e7, ?_⟩;have hc7 : zcs [(⟨#[97]⟩, 1), (⟨#[97]⟩, 2), (⟨#[98]⟩, 3)] A0 = false := by kernel_rfl
 rw [hc7];refine zg1 ?_
 repeat (first | refine z7 (by exact z3R) ?_ | (refine OpsL.nil ?_; (skip)) | refine zj ?_)
 refine z5p ?_;refine zg4 ?_;refine zhr ?_;refine z0Y (v := .int .i64 2) rfl krf (by subst_vars; decide) (by exact rfl) evr e7 (fun HH nn hK => zq evr (by exact rfl) rfl (by rw [← hTN]; exact z8 ((hK.2 m2 hm23).trans b3) rfl)) ?_;refine z0Y (v := .bool true) rfl krf (by subst_vars; decide) (by exact rfl) evr e7 (fun HH nn hK => z3V evr evr rfl) ?_;refine z5p ?_;refine zg4 ?_;refine zhr ?_;refine z0Y (v := .slice ao 1 co) rfl krf (by subst_vars; decide) (by exact rfl) evd e7 (fun HH nn hK => zq evr (by exact rfl) rfl (by rw [Nat.zero_add, ← hTO]; exact z8 ((hK.2 m2 hm23).trans b3) rfl)) ?_;refine z0Y (v := .int .i64 ((1 : Nat) : Int)) rfl krf (by subst_vars; decide) (by exact rfl) evd e7 (fun HH nn hK => z1s) ?_;refine z0Y (v := .bool true) rfl krf (by subst_vars; decide) (by exact rfl) evd e7 (fun HH nn hK => z3V evr evr rfl) ?_;refine z5p ?_;refine zg1 ?_;refine z9v ?_;refine z0Y (v := .agg (VA b).toArray) rfl krf (by subst_vars; decide) (by exact rfl) evd e7 (fun HH nn hK => za (k := 7) (vs := VA b) evd (by exact rfl) rfl (by exact rfl) (zx ((hK.2 p hpm3).trans g3) rfl)) ?_;refine z0Y (v := .agg (VA b).toArray) rfl krf (by subst_vars; decide) (by exact rfl) evd e7 (fun HH nn hK => za (k := 7) (vs := VA b) evd (by exact rfl) rfl (by exact rfl) (zx ((hK.2 p hpm3).trans g3) rfl)) ?_;refine z6D ?_;refine z0g (hf := z4Z) (hc := (zft W0 (hA3.ext e7 k3) nA).ok) (h := ?_);rintro u m8 H8 ⟨⟨l8, yi, yf, yo, yc, yn, rfl, hO8, x8⟩, k8⟩;have e8 := e7.trans x8;refine OpsL.nil ⟨e8, ?_⟩;refine z6D ?_;refine OpsL.c2 (hf := z6c) (hc := (zeZ W0 hO8.in (zaU nA) (hA3.ext e8 k3) nA).ok) (h := ?_);rintro v9 m9 H9 ⟨⟨rfl, x9⟩, k9⟩;have e9 := e8.trans x9;have hc9 : z2r (z02 A0) A0 = true := by kernel_rfl
 rw [hc9];refine OpsL.nil ⟨e9, ?_⟩;refine z5p ?_;refine zg4 ?_;refine zfe ?_;refine z6D ?_;refine OpsL.new (by subst_vars; decide) (zl (l := [(0, .int .i64 1)]) (r := (.slice (some ⟨m9, 0, none⟩) 1 1, .new (.cells (z59 1) 1 none false (some 3)))) (by simp only [zt, ASt.ev, z9, ↓reduceIte, reduceIte, Option.some.injEq, Nat.reduceEqDiff, zY, zk, *]) krf) ?_;obtain ⟨G9, hG9⟩ : ∃ Q, Q = H9.put m9 (.cells (z59 1) 1 none false (some 3)) := ⟨_, rfl⟩;have xa : Ext m9 H9 (m9 + 1) G9 := by rw [hG9]; exact zg
 have ka : ∀ id o, G9 id = some o → id < m9 + 1 := by rw [hG9]; exact zB k9
 have ga : G9 m9 = some (.cells (z59 1) 1 none false (some 3)) := by rw [hG9, z6]
 rw [← hG9];clear hG9;have ea := e9.trans xa;refine OpsL.nil ⟨ea, ?_⟩;refine zg1 ?_;refine zj ?_;refine z7 (zy (v := .agg (zA B0 (.slice none 0 0) (.slice (some ⟨m9, 0, none⟩) 1 1) (.slice none 0 0) (.slice none 0 0) (.slice none 0 0)).toArray) (l := [(0, .int .i64 1), (3, .slice (some ⟨m9, 0, none⟩) 1 1)]) (by simp only [zt, ASt.ev, z9, ↓reduceIte, reduceIte, Option.some.injEq, Nat.reduceEqDiff, zY, zk, *]) krf) ?_;refine OpsL.nil ?_;refine z6D ?_;refine OpsL.c2 (hf := z6h) (hc := (zf9 W0 (hl3.ext ea k3) hs3 (a := B0) ⟨z0S z49, z0S (z8r rfl ga), z49, z49, z49⟩ nB).ok) (h := ?_);rintro vb mb Hb ⟨⟨rfl, xb⟩, kb⟩;have hcb : z0o [(⟨#[97]⟩, 1), (⟨#[97]⟩, 2), (⟨#[98]⟩, 3)] B0 = false := by kernel_rfl
 rw [hcb]
 first | dsimp only | skip
 refine OpsL.nil ⟨ea.trans xb, ?_⟩;refine z0Y (v := .bool true) rfl krf (by subst_vars; decide) (by exact rfl) evd (ea.trans xb) (fun HH nn hK => z3V evr evr rfl) ?_;refine z5p ?_;refine zcf ?_
 (change Trip _ _ _ _ _)
 repeat (refine Trip.ret ?_; (skip))
 exact ⟨.inr rfl, _, zh, stp, trivial⟩
theorem zbA (W0 : World) (hT : Tabs [] W0) : Am.z0F Tryz.prog 6 ∧ ∀ nx H, ACalls Tryz.prog W0 6 [] nx H fun v nx' H' => v = .bool true ∧ nx' = nx ∧ H' = H :=
 ⟨z4m, fun nx H => zhW (fun w => zh0 w) nx H⟩
end Go.Proofs.YteplpegfcpmflaaGreat
namespace Go.Proofs.YteplpegfcpmflaaGreat
open Go.RowKit Go.Am
theorem zfH : ∀ (l : List Int) (x : Int) (i p : Nat), z6v l x i = some p → ∃ h : p - i < l.length, l[p - i] = x ∧ i ≤ p := by
 intro l
 induction l with
 | nil => intro x i p h; cases h
 | cons y l ih =>
  intro x i p h;by_cases e : x = y
  ·subst e
   simp [z6v] at h;subst h;exact ⟨by simp, by simp, Nat.le_refl _⟩
  ·simp only [z6v, e, if_false] at h
   obtain ⟨h1, h2, h3⟩ := ih x (i + 1) p h;refine ⟨by simp only [List.length_cons]; omega, ?_, by omega⟩;have : p - i = (p - (i + 1)) + 1 := by omega
   simp only [this, List.getElem_cons_succ];exact h2
theorem z9F {L : List Int} {x y : Int} (h : z0y L x = some y) : ∃ p : Nat, y = p ∧ ∃ h : p < L.length, L[p] = x := by
 unfold z0y at h;cases hp : z6v L x 0 with
 | none => rw [hp] at h; cases h
 | some p =>
  rw [hp] at h;cases h;obtain ⟨h1, h2, _⟩ := zfH L x 0 p hp;exact ⟨p, rfl, h1, h2⟩
theorem z1V {L : List Int} {x x' y : Int} (h : z0y L x = some y) (h' : z0y L x' = some y) : x = x' := by
 obtain ⟨p, rfl, h1, h2⟩ := z9F h;obtain ⟨q, e, h3, h4⟩ := z9F h';have : p = q := by omega
 subst this;exact h2.symm.trans h4
theorem z3g {a : Aut} {k : Int} {L : List Int} (h : z1t a k L) {x : Int} (hx : ReachT a (k, x)) : ∃ y, z0y L x = some y ∧ 0 ≤ y ∧ y < L.length := by
 obtain ⟨p, _, e⟩ := zaT h.1 ((h.2 x).2 hx);exact ⟨_, e, (z06 e).2⟩
theorem z7o {a : Aut} {k : Int} {L : List Int} (h : z1t a k L) {x y : Int} (hx : z0y L x = some y) : ReachT a (k, x) := (h.2 x).1 (z06 hx).1
theorem z9A {N s : Int} (h : stF N s = true) : 0 ≤ s ∧ s < N := by
 simpa [stF] using h
theorem zgN {n a b : Int} (h : btF n a b = true) : a ≤ n ∧ n ≤ b := by
 simpa [btF] using h
section
variable {ss : List (ByteArray × Int)} {most : Int} {a : Aut} {i : Nat} (h : GoodM ss most a i)
include h
theorem zcv {r : R4} (hr : r ∈ a.opens) : (0 ≤ r.1 ∧ r.1 < a.N) ∧ kdF ss r.2.1 1 = true ∧ (0 ≤ r.2.2.1 ∧ r.2.2.1 < a.N) ∧ 1 ≤ r.2.2.2 ∧ r.2.2.2 ≤ a.G := by
 have := List.all_eq_true.1 h.opens r hr;simp only [okO, Bool.and_eq_true] at this;exact ⟨z9A this.1.1.1, this.1.1.2, z9A this.1.2, zgN this.2⟩
theorem zf6 {r : R4} (hr : r ∈ a.closes) : (0 ≤ r.1 ∧ r.1 < a.N) ∧ kdF ss r.2.1 2 = true ∧ (0 ≤ r.2.2.2 ∧ r.2.2.2 < a.N) ∧ 0 ≤ r.2.2.1 ∧ r.2.2.1 ≤ a.G := by
 have := List.all_eq_true.1 h.closes r hr;simp only [okC, Bool.and_eq_true] at this;exact ⟨z9A this.1.1.1, this.1.1.2, z9A this.1.2, zgN this.2⟩
theorem zf5 {r : R3} (hr : r ∈ a.inners) : (0 ≤ r.1 ∧ r.1 < a.N) ∧ kdF ss r.2.1 3 = true ∧ (0 ≤ r.2.2 ∧ r.2.2 < a.N) := by
 have := List.all_eq_true.1 h.inners r hr;simp only [okI, Bool.and_eq_true] at this;exact ⟨z9A this.1.1, this.1.2, z9A this.2⟩
theorem z76 {m : R4} (hm : m ∈ zP a) : (0 ≤ m.2.2.1 ∧ m.2.2.1 < a.N) ∧ 0 ≤ m.2.2.2 ∧ m.2.2.2 ≤ a.G := by
 have := h.G0;simp only [zP, List.mem_append, List.mem_map] at hm;rcases hm with (⟨r, hr, rfl⟩ | ⟨r, hr, rfl⟩) | ⟨r, hr, rfl⟩
 ·have := zcv h hr; simp only [z0z]; omega
 ·have := zf6 h hr; simp only [z12]; omega
 ·have := zf5 h hr; simp only [z1N]; omega
theorem z7B {x : Int} (hx : ReachT a (0, x)) : 0 ≤ x ∧ x < a.N := by
 rcases z6a hx with q | ⟨m, hm, _, rfl⟩
 ·exact z9A (List.all_eq_true.1 h.init x q)
 ·exact (z76 h hm).1
theorem zaO {x : Int} (hx : ReachT a (1, x)) : 0 ≤ x ∧ x ≤ a.G := by
 have := h.G0;rcases z74 hx with rfl | ⟨m, hm, _, rfl⟩
 ·omega
 ·exact (z76 h hm).2
end
theorem zaN {l : List Int} {n : Nat} (h : l.Pairwise (· < ·)) (hb : ∀ x ∈ l, 0 ≤ x ∧ x < n) : l.length ≤ n := by
 have := z60 l ((List.range n).map fun (j : Nat) => (j : Int)) (by
  rw [List.nodup_iff_pairwise_ne];exact h.imp fun {x y} hlt e => by omega) (fun x hx => by
  obtain ⟨h1, h2⟩ := hb x hx;exact List.mem_map.2 ⟨x.toNat, List.mem_range.2 (by omega), by omega⟩)
 simpa using this
section
variable {ss : List (ByteArray × Int)} {most : Int} {a : Aut} {i : Nat} {L0 L1 : List Int} (h : GoodM ss most a i) (h0 : z1t a 0 L0) (h1 : z1t a 1 L1)
include h h0 in
theorem zeV : (L0.length : Int) ≤ a.N := by
 have := zaN (n := a.N.toNat) h0.1 fun x hx => by have := z7B h ((h0.2 x).1 hx); omega
 have := h.N0;omega
include h h1 in
theorem zeW : 1 ≤ L1.length ∧ (L1.length : Int) ≤ a.G + 1 := by
 have hm : (0 : Int) ∈ L1 := (h1.2 0).2 .bot;have := zaN (n := a.G.toNat + 1) h1.1 fun x hx => by have := zaO h ((h1.2 x).1 hx); omega
 have := h.G0;have := List.length_pos_of_mem hm;omega
include h h1 in
theorem z4V : z0y L1 0 = some 0 := by
 obtain ⟨p, hp, e⟩ := zaT h1.1 ((h1.2 0).2 .bot);obtain ⟨q, e2, hq, e3⟩ := z9F e;have hpq : p = q := by omega
 subst hpq;rw [e];by_cases hp0 : p = 0
 ·subst hp0; rfl
 ·exfalso
  have hlt := List.pairwise_iff_getElem.1 h1.1 0 p (by omega) hp (by omega);have hge := zaO h ((h1.2 L1[0]).1 (List.getElem_mem _));omega
include h h0 h1 in
theorem zeS {r : R4} (hr : r ∈ a.opens) {f : Int} (hf : z0y L0 r.1 = some f) : ∃ y z, z0y L0 r.2.2.1 = some y ∧ z0y L1 r.2.2.2 = some z ∧ z2b L0 L1 r = some (f, r.2.1, y, z) ∧ (0 ≤ f ∧ f < L0.length) ∧ (0 ≤ y ∧ y < L0.length) ∧ 1 ≤ z ∧ z < L1.length := by
 have hm : z0z r ∈ zP a := by simp only [zP, List.mem_append, List.mem_map]; exact .inl (.inl ⟨r, hr, rfl⟩)
 have hn : ∀ u ∈ zN (z0z r), ReachT a u := fun u hu => by
  simp only [zN, z0z, List.mem_cons, List.not_mem_nil, or_false] at hu;rcases hu with rfl | rfl
  ·exact z7o h0 hf
  ·exact .bot
 obtain ⟨y, e1, hy⟩ := z3g h0 (x := r.2.2.1) (.step hm hn (by simp [zV, z0z]));obtain ⟨z, e2, hz⟩ := z3g h1 (x := r.2.2.2) (.step hm hn (by simp [zV, z0z]));refine ⟨y, z, e1, e2, by simp [z2b, hf, e1, e2], (z06 hf).2, hy, ?_, hz.2⟩;by_cases hz0 : z = 0
 ·subst hz0
  have := z1V e2 (z4V h h1);have := zcv h hr;omega
 ·omega
include h0 h1 in
theorem zeU {r : R4} (hr : r ∈ a.closes) {f t : Int} (hf : z0y L0 r.1 = some f) (ht : z0y L1 r.2.2.1 = some t) : ∃ y, z0y L0 r.2.2.2 = some y ∧ z2c L0 L1 r = some (f, r.2.1, t, y) ∧ (0 ≤ f ∧ f < L0.length) ∧ (0 ≤ y ∧ y < L0.length) ∧ 0 ≤ t ∧ t < L1.length := by
 have hm : z12 r ∈ zP a := by simp only [zP, List.mem_append, List.mem_map]; exact .inl (.inr ⟨r, hr, rfl⟩)
 have hn : ∀ u ∈ zN (z12 r), ReachT a u := fun u hu => by
  simp only [zN, z12, List.mem_cons, List.not_mem_nil, or_false] at hu;rcases hu with rfl | rfl
  ·exact z7o h0 hf
  ·exact z7o h1 ht
 obtain ⟨y, e1, hy⟩ := z3g h0 (x := r.2.2.2) (.step hm hn (by simp [zV, z12]));exact ⟨y, e1, by simp [z2c, hf, ht, e1], (z06 hf).2, hy, (z06 ht).2⟩
include h0 in
theorem zeT {r : R3} (hr : r ∈ a.inners) {f : Int} (hf : z0y L0 r.1 = some f) : ∃ y, z0y L0 r.2.2 = some y ∧ z3z L0 r = some (f, r.2.1, y) ∧ (0 ≤ f ∧ f < L0.length) ∧ (0 ≤ y ∧ y < L0.length) := by
 have hm : z1N r ∈ zP a := by simp only [zP, List.mem_append, List.mem_map]; exact .inr ⟨r, hr, rfl⟩
 have hn : ∀ u ∈ zN (z1N r), ReachT a u := fun u hu => by
  simp only [zN, z1N, List.mem_cons, List.not_mem_nil, or_false] at hu;rcases hu with rfl | rfl
  ·exact z7o h0 hf
  ·exact .bot
 obtain ⟨y, e1, hy⟩ := z3g h0 (x := r.2.2) (.step hm hn (by simp [zV, z1N]));exact ⟨y, e1, by simp [z3z, hf, e1], (z06 hf).2, hy⟩
include h h0 h1 in
theorem z8z {t : R4} (ht : t ∈ (z00 a L0 L1).opens) : ∃ r ∈ a.opens, z0y L0 r.1 = some t.1 ∧ r.2.1 = t.2.1 ∧ z0y L0 r.2.2.1 = some t.2.2.1 ∧ z0y L1 r.2.2.2 = some t.2.2.2 ∧ (0 ≤ t.1 ∧ t.1 < L0.length) ∧ (0 ≤ t.2.2.1 ∧ t.2.2.1 < L0.length) ∧ 1 ≤ t.2.2.2 ∧ t.2.2.2 < L1.length := by
 obtain ⟨r, hr, e⟩ := List.mem_filterMap.1 ht;cases hf : z0y L0 r.1 with
 | none => simp [z2b, hf] at e
 | some f =>
  obtain ⟨y, z, e1, e2, e3, h3, h4, h5⟩ := zeS h h0 h1 hr hf;rw [e3] at e;cases e;exact ⟨r, hr, hf, rfl, e1, e2, h3, h4, h5⟩
include h0 h1 in
theorem z8B {t : R4} (ht : t ∈ (z00 a L0 L1).closes) : ∃ r ∈ a.closes, z0y L0 r.1 = some t.1 ∧ r.2.1 = t.2.1 ∧ z0y L1 r.2.2.1 = some t.2.2.1 ∧ z0y L0 r.2.2.2 = some t.2.2.2 ∧ (0 ≤ t.1 ∧ t.1 < L0.length) ∧ (0 ≤ t.2.2.2 ∧ t.2.2.2 < L0.length) ∧ 0 ≤ t.2.2.1 ∧ t.2.2.1 < L1.length := by
 obtain ⟨r, hr, e⟩ := List.mem_filterMap.1 ht;cases hf : z0y L0 r.1 with
 | none => simp [z2c, hf] at e
 | some f =>
  cases hg : z0y L1 r.2.2.1 with
  | none => simp [z2c, hf, hg] at e
  | some g =>
   obtain ⟨y, e1, e3, h3, h4, h5⟩ := zeU h0 h1 hr hf hg;rw [e3] at e;cases e;exact ⟨r, hr, hf, rfl, hg, e1, h3, h4, h5⟩
include h0 in
theorem z8A {t : R3} (ht : t ∈ (z00 a L0 L1).inners) : ∃ r ∈ a.inners, z0y L0 r.1 = some t.1 ∧ r.2.1 = t.2.1 ∧ z0y L0 r.2.2 = some t.2.2 ∧ (0 ≤ t.1 ∧ t.1 < L0.length) ∧ (0 ≤ t.2.2 ∧ t.2.2 < L0.length) := by
 obtain ⟨r, hr, e⟩ := List.mem_filterMap.1 ht;cases hf : z0y L0 r.1 with
 | none => simp [z3z, hf] at e
 | some f =>
  obtain ⟨y, e1, e3, h3, h4⟩ := zeT h0 hr hf;rw [e3] at e;cases e;exact ⟨r, hr, hf, rfl, e1, h3, h4⟩
theorem zaX {L l : List Int} {y : Int} (h : y ∈ zE L l) : ∃ x ∈ l, z0y L x = some y := List.mem_filterMap.1 h
include h h0 h1 in
theorem zbu (hm : most ≤ 200) (hi : i ≤ 1000) : z0o ss (z02 (z00 a L0 L1)) = true := by
 have hN := zeV h h0;obtain ⟨g1, g2⟩ := zeW h h1;have l0 := h.N1;have l1 := h.G1;have ⟨n1, n2, n3, n4, n5⟩ := h.len;have k3 : (zT lt4 (z00 a L0 L1).opens).length ≤ 1000 := Nat.le_trans (z0h _) (Nat.le_trans (List.length_filterMap_le _ _) (by omega));have k4 : (zT lt4 (z00 a L0 L1).closes).length ≤ 1000 := Nat.le_trans (z0h _) (Nat.le_trans (List.length_filterMap_le _ _) (by omega));have k5 : (zT lt3 (z00 a L0 L1).inners).length ≤ 1000 := Nat.le_trans (z0h _) (Nat.le_trans (List.length_filterMap_le _ _) (by omega))
 have hst : ∀ x : Int, 0 ≤ x → x < L0.length → stF (z02 (z00 a L0 L1)).N x = true := fun x hx hy => by
  show (decide (0 ≤ x) && decide (x < (L0.length : Int))) = true;rw [decide_eq_true hx, decide_eq_true hy]; rfl
 unfold z0o;simp only [Bool.and_eq_true];refine ⟨⟨⟨⟨⟨?_, ?_⟩, ?_⟩, ?_⟩, ?_⟩, ?_⟩
 ·simp only [z4y, btF, Bool.and_eq_true, decide_eq_true_eq]
  refine ⟨⟨⟨?_, ?_⟩, ?_, ?_⟩, ?_⟩
  ·show (0 : Int) ≤ L0.length; omega
  ·show (L0.length : Int) ≤ 200; omega
  ·show (0 : Int) ≤ (L1.length : Int) - 1; omega
  ·show (L1.length : Int) - 1 ≤ 10000; omega
  ·show ((((zT lt4 (z00 a L0 L1).opens).length : Int) + (zT lt4 (z00 a L0 L1).closes).length) + (zT lt3 (z00 a L0 L1).inners).length) ≤ 100000
   omega
 ·refine List.all_eq_true.2 fun x hx => ?_
  obtain ⟨s, _, e⟩ := zaX ((z14 x _).1 hx);exact hst x (z06 e).2.1 (z06 e).2.2
 ·refine List.all_eq_true.2 fun x hx => ?_
  obtain ⟨s, _, e⟩ := zaX ((z14 x _).1 hx);exact hst x (z06 e).2.1 (z06 e).2.2
 ·refine List.all_eq_true.2 fun t ht => ?_
  obtain ⟨r, hr, e1, e2, e3, e4, q1, q2, q3⟩ := z8z h h0 h1 ((z14 t _).1 ht);simp only [okO, hst _ q1.1 q1.2, hst _ q2.1 q2.2, ← e2, (zcv h hr).2.1, Bool.true_and, Bool.and_true, btF, Bool.and_eq_true, decide_eq_true_eq];exact ⟨q3.1, by show t.2.2.2 ≤ (L1.length : Int) - 1; omega⟩
 ·refine List.all_eq_true.2 fun t ht => ?_
  obtain ⟨r, hr, e1, e2, e3, e4, q1, q2, q3⟩ := z8B h0 h1 ((z14 t _).1 ht);simp only [okC, hst _ q1.1 q1.2, hst _ q2.1 q2.2, ← e2, (zf6 h hr).2.1, Bool.true_and, Bool.and_true, btF, Bool.and_eq_true, decide_eq_true_eq];exact ⟨q3.1, by show t.2.2.1 ≤ (L1.length : Int) - 1; omega⟩
 ·refine List.all_eq_true.2 fun t ht => ?_
  obtain ⟨r, hr, e1, e2, e3, q1, q2⟩ := z8A h0 ((z14 t _).1 ht);simp only [okI, hst _ q1.1 q1.2, hst _ q2.1 q2.2, ← e2, (zf5 h hr).2.1, Bool.true_and, Bool.and_true]
include h h0 h1 in
include h h0 h1 in
end
theorem zdc {ss : List (ByteArray × Int)} {most : Int} {a : Aut} {i : Nat} (L0 L1 : List Int) (h : GoodM ss most a i) (hi : i ≤ 1000) : AutLen (z02 (z00 a L0 L1)) := by
 have ⟨n1, n2, n3, n4, n5⟩ := h.len;refine ⟨Nat.le_trans (z0h _) (Nat.le_trans (List.length_filterMap_le _ _) (by omega)), Nat.le_trans (z0h _) (Nat.le_trans (List.length_filterMap_le _ _) (by omega)), Nat.le_trans (z0h _) (Nat.le_trans (List.length_filterMap_le _ _) (by omega)), Nat.le_trans (z0h _) (Nat.le_trans (List.length_filterMap_le _ _) (by omega)), Nat.le_trans (z0h _) (Nat.le_trans (List.length_filterMap_le _ _) (by omega))⟩
theorem zfN {ss : List (ByteArray × Int)} {most : Int} {a : Aut} {i : Nat} (h : GoodM ss most a i) (hi : i ≤ 25) : muF a [] (z47 a) ≤ 100000 := by
 have ⟨n1, n2, n3, n4, n5⟩ := h.len;have hm : (zP a).length ≤ 75 := by simp only [zP, List.length_append, List.length_map]; omega
 have h3 : ∀ l : List R4, (l.flatMap zV).length = 2 * l.length := fun l => by
  induction l with
  | nil => rfl
  | cons x l ih => simp only [List.flatMap_cons, List.length_append, ih, List.length_cons]; have : (zV x).length = 2 := rfl; omega
 have hu : (z6z a).length ≤ 176 := by simp only [z6z, List.length_append, List.length_cons, List.length_map, h3]; omega
 have hf : ((z6z a).filter fun t => decide (t ∉ ([] : List Thg))).length ≤ 176 := Nat.le_trans (List.length_filter_le _ _) hu;have hs : (z47 a).length ≤ 26 := by simp only [z47, List.length_cons, List.length_map]; omega
 unfold muF;have := Nat.mul_le_mul hf (show 2 * (zP a).length + 1 ≤ 151 by omega);omega
theorem zd8 {ss : List (ByteArray × Int)} {size most : Int} {ns : List Int} : (z4g ss size most ns).init ≠ [] := by
 unfold z4g z8j;split
 ·simp [z4t]
 ·assumption
end Go.Proofs.YteplpegfcpmflaaGreat
namespace Go.Am
inductive AllR {α β : Type} (R : α → β → Prop) : List α → List β → Prop
 | nil : AllR R [] []
 | cons {a : α} {b : β} {l : List α} {m : List β} : R a b → AllR R l m → AllR R (a :: l) (b :: m)
structure LvT where
 row : Int → Int → Prop
 by_ : Int
def zcq (a : Aut) (now : LvT) (x : Int) : LvT := ⟨fun p q => p = q ∧ ∃ r ∈ a.opens, r.2.1 = x ∧ r.2.2.1 = q ∧ ∃ p1, 0 ≤ p1 ∧ p1 < a.N ∧ now.row p1 r.1, x⟩
def z8s (a : Aut) (now : LvT) (x : Int) : LvT := ⟨fun p q => ∃ r ∈ a.closes, r.2.1 = x ∧ r.2.2.1 = 0 ∧ r.2.2.2 = q ∧ now.row p r.1, now.by_⟩
def zbm (a : Aut) (below now : LvT) (x : Int) : LvT := ⟨fun p q => ∃ o ∈ a.opens, o.2.1 = now.by_ ∧ ∃ c ∈ a.closes, c.2.1 = x ∧ c.2.2.1 = o.2.2.2 ∧ now.row o.2.2.1 c.1 ∧ c.2.2.2 = q ∧ below.row p o.1, below.by_⟩
def zco (a : Aut) (now : LvT) (x : Int) : LvT := ⟨fun p q => ∃ r ∈ a.inners, r.2.1 = x ∧ r.2.2 = q ∧ now.row p r.1, now.by_⟩
def z38 (ss : List (ByteArray × Int)) (a : Aut) (st : LvT × List LvT) (x : Int) : LvT × List LvT :=
 if kdF ss x 1 = true then (zcq a st.1 x, st.1 :: st.2)
 else if kdF ss x 2 = true then (match st.2 with
  | [] => (z8s a st.1 x, [])
  | b :: u => (zbm a b st.1 x, u))
 else (zco a st.1 x, st.2)
def zcx (a : Aut) : LvT × List LvT := (⟨fun p q => p = q ∧ p ∈ a.init, 0⟩, [])
def z6A (ss : List (ByteArray × Int)) (a : Aut) (w : List Int) : LvT × List LvT := w.foldl (z38 ss a) (zcx a)
def zct (ss : List (ByteArray × Int)) (a : Aut) (w : List Int) : Prop := ∃ f ∈ a.final, ∃ p, 0 ≤ p ∧ p < a.N ∧ (z6A ss a w).1.row p f
theorem zd2 (ss : List (ByteArray × Int)) (a : Aut) (w : List Int) (x : Int) : z6A ss a (w ++ [x]) = z38 ss a (z6A ss a w) x := by
 unfold z6A;rw [List.foldl_append];rfl
end Go.Am
namespace Go.Proofs.YteplpegfcpmflaaGreat
open Go.RowKit Go.Am
def z0f (a : Aut) (L0 L1 : List Int) : Aut := z02 (z00 a L0 L1)
structure SimL (a : Aut) (L0 : List Int) (u v : LvT) : Prop where
 re : ∀ p q, u.row p q → ReachT a (0, p) ∧ ReachT a (0, q)
 eq : ∀ p' q', v.row p' q' ↔ ∃ p q, z0y L0 p = some p' ∧ z0y L0 q = some q' ∧ u.row p q
 sy : u.by_ = v.by_
section
variable {ss : List (ByteArray × Int)} {most : Int} {a : Aut} {i : Nat} {L0 L1 : List Int} (h : GoodM ss most a i) (h0 : z1t a 0 L0) (h1 : z1t a 1 L1)
include h h0 h1 in
theorem zeN (t : R4) : t ∈ (z0f a L0 L1).opens ↔ ∃ r ∈ a.opens, z0y L0 r.1 = some t.1 ∧ r.2.1 = t.2.1 ∧ z0y L0 r.2.2.1 = some t.2.2.1 ∧ z0y L1 r.2.2.2 = some t.2.2.2 := by
 show t ∈ zT lt4 (z00 a L0 L1).opens ↔ _;rw [z14];constructor
 ·intro ht
  obtain ⟨r, hr, e1, e2, e3, e4, _⟩ := z8z h h0 h1 ht;exact ⟨r, hr, e1, e2, e3, e4⟩
 ·rintro ⟨r, hr, e1, e2, e3, e4⟩
  obtain ⟨y, z, q1, q2, q3, _⟩ := zeS h h0 h1 hr e1;rw [e3] at q1; cases q1;rw [e4] at q2; cases q2;exact List.mem_filterMap.2 ⟨r, hr, by rw [q3, e2]⟩
include h0 h1 in
theorem zfj (t : R4) : t ∈ (z0f a L0 L1).closes ↔ ∃ r ∈ a.closes, z0y L0 r.1 = some t.1 ∧ r.2.1 = t.2.1 ∧ z0y L1 r.2.2.1 = some t.2.2.1 ∧ z0y L0 r.2.2.2 = some t.2.2.2 := by
 show t ∈ zT lt4 (z00 a L0 L1).closes ↔ _;rw [z14];constructor
 ·intro ht
  obtain ⟨r, hr, e1, e2, e3, e4, _⟩ := z8B h0 h1 ht;exact ⟨r, hr, e1, e2, e3, e4⟩
 ·rintro ⟨r, hr, e1, e2, e3, e4⟩
  obtain ⟨y, q1, q3, _⟩ := zeU h0 h1 hr e1 e3;rw [e4] at q1; cases q1;exact List.mem_filterMap.2 ⟨r, hr, by rw [q3, e2]⟩
include h0 in
theorem zgz (t : R3) : t ∈ (z0f a L0 L1).inners ↔ ∃ r ∈ a.inners, z0y L0 r.1 = some t.1 ∧ r.2.1 = t.2.1 ∧ z0y L0 r.2.2 = some t.2.2 := by
 show t ∈ zT lt3 (z00 a L0 L1).inners ↔ _;rw [z14];constructor
 ·intro ht
  obtain ⟨r, hr, e1, e2, e3, _⟩ := z8A h0 ht;exact ⟨r, hr, e1, e2, e3⟩
 ·rintro ⟨r, hr, e1, e2, e3⟩
  obtain ⟨y, q1, q3, _⟩ := zeT h0 hr e1;rw [e3] at q1; cases q1;exact List.mem_filterMap.2 ⟨r, hr, by rw [q3, e2]⟩
theorem zgl (x : Int) : x ∈ (z0f a L0 L1).init ↔ ∃ s ∈ a.init, z0y L0 s = some x := by
 show x ∈ zT lt1 (zE L0 a.init) ↔ _;rw [z14];exact List.mem_filterMap
theorem zhP (x : Int) : x ∈ (z0f a L0 L1).final ↔ ∃ s ∈ a.final, z0y L0 s = some x := by
 show x ∈ zT lt1 (zE L0 a.final) ↔ _;rw [z14];exact List.mem_filterMap
theorem z7n {r : R4} (hr : r ∈ a.opens) (hs : ReachT a (0, r.1)) : ReachT a (0, r.2.2.1) ∧ ReachT a (1, r.2.2.2) := by
 have hm : z0z r ∈ zP a := by simp only [zP, List.mem_append, List.mem_map]; exact .inl (.inl ⟨r, hr, rfl⟩)
 have hn : ∀ u ∈ zN (z0z r), ReachT a u := fun u hu => by
  simp only [zN, z0z, List.mem_cons, List.not_mem_nil, or_false] at hu;rcases hu with rfl | rfl
  ·exact hs
  ·exact .bot
 exact ⟨.step hm hn (by simp [zV, z0z]), .step hm hn (by simp [zV, z0z])⟩
theorem zcG {r : R4} (hr : r ∈ a.closes) (hs : ReachT a (0, r.1)) (ht : ReachT a (1, r.2.2.1)) : ReachT a (0, r.2.2.2) := by
 have hm : z12 r ∈ zP a := by simp only [zP, List.mem_append, List.mem_map]; exact .inl (.inr ⟨r, hr, rfl⟩)
 have hn : ∀ u ∈ zN (z12 r), ReachT a u := fun u hu => by
  simp only [zN, z12, List.mem_cons, List.not_mem_nil, or_false] at hu;rcases hu with rfl | rfl
  ·exact hs
  ·exact ht
 exact .step hm hn (by simp [zV, z12])
theorem zfF {r : R3} (hr : r ∈ a.inners) (hs : ReachT a (0, r.1)) : ReachT a (0, r.2.2) := by
 have hm : z1N r ∈ zP a := by simp only [zP, List.mem_append, List.mem_map]; exact .inr ⟨r, hr, rfl⟩
 have hn : ∀ u ∈ zN (z1N r), ReachT a u := fun u hu => by
  simp only [zN, z1N, List.mem_cons, List.not_mem_nil, or_false] at hu;rcases hu with rfl | rfl
  ·exact hs
  ·exact .bot
 exact .step hm hn (by simp [zV, z1N])
include h0 in
theorem z5L {x : Int} (hx : ReachT a (0, x)) : ∃ y, z0y L0 x = some y := by obtain ⟨y, e, _⟩ := z3g h0 hx; exact ⟨y, e⟩
include h1 in
theorem zfs {x : Int} (hx : ReachT a (1, x)) : ∃ y, z0y L1 x = some y := by obtain ⟨y, e, _⟩ := z3g h1 hx; exact ⟨y, e⟩
include h h0 h1 in
theorem SimL.open {u v : LvT} (s : SimL a L0 u v) (x : Int) : SimL a L0 (zcq a u x) (zcq (z0f a L0 L1) v x) := by
 refine ⟨fun p q hr => ?_, fun p' q' => ?_, rfl⟩
 ·obtain ⟨rfl, r, hr, _, rfl, p1, _, _, hrow⟩ := hr
  have := (z7n hr (s.re _ _ hrow).2).1;exact ⟨this, this⟩
 ·constructor
  ·rintro ⟨rfl, t, ht, e1, rfl, p1, _, _, hrow⟩
   obtain ⟨r, hr, q1, q2, q3, q4⟩ := (zeN h h0 h1 t).1 ht;obtain ⟨p, q, n1, n2, hu⟩ := (s.eq _ _).1 hrow;have := z1V n2 q1;subst this;have hb := z7B h (s.re _ _ hu).1;exact ⟨_, _, q3, q3, rfl, r, hr, q2.trans e1, rfl, p, hb.1, hb.2, hu⟩
  ·rintro ⟨p, q, n1, n2, rfl, r, hr, e1, rfl, p1, _, _, hu⟩
   rw [n1] at n2; cases n2;obtain ⟨r1, r2⟩ := s.re _ _ hu;obtain ⟨f, hf⟩ := z5L h0 r2;obtain ⟨z, hz⟩ := zfs h1 (z7n hr r2).2;obtain ⟨y, hy⟩ := z5L h0 r1;have hb := (z06 hy).2;exact ⟨rfl, (f, r.2.1, p', z), (zeN h h0 h1 _).2 ⟨r, hr, hf, rfl, n1, hz⟩, e1, rfl, y, hb.1, hb.2, (s.eq _ _).2 ⟨p1, r.1, hy, hf, hu⟩⟩
include h h0 h1 in
theorem SimL.loose {u v : LvT} (s : SimL a L0 u v) (x : Int) : SimL a L0 (z8s a u x) (z8s (z0f a L0 L1) v x) := by
 have hb := z4V h h1;refine ⟨fun p q hr => ?_, fun p' q' => ?_, s.sy⟩
 ·obtain ⟨r, hr, _, e, rfl, hrow⟩ := hr
  exact ⟨(s.re _ _ hrow).1, zcG hr (s.re _ _ hrow).2 (by rw [e]; exact .bot)⟩
 ·constructor
  ·rintro ⟨t, ht, e1, e2, rfl, hrow⟩
   obtain ⟨r, hr, q1, q2, q3, q4⟩ := (zfj h0 h1 t).1 ht;obtain ⟨p, q, n1, n2, hu⟩ := (s.eq _ _).1 hrow;have := z1V n2 q1;subst this;rw [e2] at q3;have := z1V q3 hb;exact ⟨p, _, n1, q4, r, hr, q2.trans e1, this, rfl, hu⟩
  ·rintro ⟨p, q, n1, n2, r, hr, e1, e2, rfl, hu⟩
   obtain ⟨f, hf⟩ := z5L h0 (s.re _ _ hu).2;exact ⟨(f, r.2.1, 0, q'), (zfj h0 h1 _).2 ⟨r, hr, hf, rfl, by rw [e2]; exact hb, n2⟩, e1, rfl, rfl, (s.eq _ _).2 ⟨p, r.1, n1, hf, hu⟩⟩
include h h0 h1 in
theorem SimL.back {u v b c : LvT} (s : SimL a L0 u v) (sb : SimL a L0 b c) (x : Int) : SimL a L0 (zbm a b u x) (zbm (z0f a L0 L1) c v x) := by
 refine ⟨fun p q hr => ?_, fun p' q' => ?_, sb.sy⟩
 ·obtain ⟨o, ho, _, k, hk, _, e, hrow, rfl, hbel⟩ := hr
  obtain ⟨b1, b2⟩ := sb.re _ _ hbel;exact ⟨b1, zcG hk (s.re _ _ hrow).2 (by rw [e]; exact (z7n ho b2).2)⟩
 ·constructor
  ·rintro ⟨o', ho', e1, k', hk', e2, e3, hrow, rfl, hbel⟩
   obtain ⟨o, ho, q1, q2, q3, q4⟩ := (zeN h h0 h1 o').1 ho';obtain ⟨k, hk, w1, w2, w3, w4⟩ := (zfj h0 h1 k').1 hk';obtain ⟨p, q, n1, n2, hu⟩ := (s.eq _ _).1 hrow;obtain ⟨pb, qb, m1, m2, hb⟩ := (sb.eq _ _).1 hbel;have i1 := z1V n1 q3;have i2 := z1V n2 w1;have i3 := z1V m2 q1;subst i1; subst i2; subst i3;rw [e3] at w3;exact ⟨pb, _, m1, w4, o, ho, by rw [q2, e1, s.sy], k, hk, w2.trans e2, z1V w3 q4, hu, rfl, hb⟩
  ·rintro ⟨p, q, n1, n2, o, ho, e1, k, hk, e2, e3, hu, rfl, hb⟩
   obtain ⟨b1, b2⟩ := sb.re _ _ hb;obtain ⟨u1, u2⟩ := s.re _ _ hu;obtain ⟨f, hf⟩ := z5L h0 b2;obtain ⟨z, hz⟩ := zfs h1 (z7n ho b2).2;obtain ⟨y, hy⟩ := z5L h0 u1;obtain ⟨g, hg⟩ := z5L h0 u2;exact ⟨(f, o.2.1, y, z), (zeN h h0 h1 _).2 ⟨o, ho, hf, rfl, hy, hz⟩, by rw [← s.sy]; exact e1, (g, k.2.1, z, q'), (zfj h0 h1 _).2 ⟨k, hk, hg, rfl, by rw [e3]; exact hz, n2⟩, e2, rfl, (s.eq _ _).2 ⟨_, _, hy, hg, hu⟩, rfl, (sb.eq _ _).2 ⟨_, _, n1, hf, hb⟩⟩
include h0 in
theorem SimL.stay {u v : LvT} (s : SimL a L0 u v) (x : Int) : SimL a L0 (zco a u x) (zco (z0f a L0 L1) v x) := by
 refine ⟨fun p q hr => ?_, fun p' q' => ?_, s.sy⟩
 ·obtain ⟨r, hr, _, rfl, hrow⟩ := hr
  exact ⟨(s.re _ _ hrow).1, zfF hr (s.re _ _ hrow).2⟩
 ·constructor
  ·rintro ⟨t, ht, e1, rfl, hrow⟩
   obtain ⟨r, hr, q1, q2, q3⟩ := (zgz h0 t).1 ht;obtain ⟨p, q, n1, n2, hu⟩ := (s.eq _ _).1 hrow;have := z1V n2 q1;subst this;exact ⟨p, _, n1, q3, r, hr, q2.trans e1, rfl, hu⟩
  ·rintro ⟨p, q, n1, n2, r, hr, e1, rfl, hu⟩
   obtain ⟨f, hf⟩ := z5L h0 (s.re _ _ hu).2;exact ⟨(f, r.2.1, q'), (zgz h0 _).2 ⟨r, hr, hf, rfl, n2⟩, e1, rfl, (s.eq _ _).2 ⟨p, r.1, n1, hf, hu⟩⟩
def SimS (a : Aut) (L0 : List Int) (u v : LvT × List LvT) : Prop := SimL a L0 u.1 v.1 ∧ AllR (SimL a L0) u.2 v.2
include h h0 h1 in
theorem SimS.step {u v : LvT × List LvT} (s : SimS a L0 u v) (x : Int) : SimS a L0 (z38 ss a u x) (z38 ss (z0f a L0 L1) v x) := by
 obtain ⟨u1, u2⟩ := u;obtain ⟨v1, v2⟩ := v;obtain ⟨s1, s2⟩ := s;dsimp only at s1 s2;unfold z38;dsimp only;split
 ·exact ⟨s1.open h h0 h1 x, .cons s1 s2⟩
 ·split
  ·cases s2 with
   | nil => exact ⟨s1.loose h h0 h1 x, .nil⟩
   | cons sb s2 => exact ⟨s1.back h h0 h1 sb x, s2⟩
  ·exact ⟨s1.stay h0 x, s2⟩
theorem zc7 : SimS a L0 (zcx a) (zcx (z0f a L0 L1)) := by
 refine ⟨⟨?_, fun p' q' => ?_, rfl⟩, .nil⟩
 ·rintro p q ⟨rfl, hp⟩
  exact ⟨.init hp, .init hp⟩
 ·constructor
  ·rintro ⟨rfl, hp⟩
   obtain ⟨s, hs, e⟩ := (zgl p').1 hp;exact ⟨s, s, e, e, rfl, hs⟩
  ·rintro ⟨p, q, n1, n2, rfl, hp⟩
   rw [n1] at n2; cases n2;exact ⟨rfl, (zgl _).2 ⟨p, hp, n1⟩⟩
include h h0 h1 in
theorem SimS.run (w : List Int) : SimS a L0 (z6A ss a w) (z6A ss (z0f a L0 L1) w) := by
 have key : ∀ (w : List Int) (u v : LvT × List LvT), SimS a L0 u v → SimS a L0 (w.foldl (z38 ss a) u) (w.foldl (z38 ss (z0f a L0 L1)) v) := by
  intro w
  induction w with
  | nil => intro u v s; exact s
  | cons x w ih => intro u v s; exact ih _ _ (s.step h h0 h1 x)
 exact key w _ _ zc7
include h h0 h1 in
theorem zbt (w : List Int) : zct ss a w ↔ zct ss (z0f a L0 L1) w := by
 have s := (SimS.run h h0 h1 w).1;constructor
 ·rintro ⟨f, hf, p, hp0, hp1, hr⟩
  obtain ⟨r1, r2⟩ := s.re _ _ hr;obtain ⟨y, hy⟩ := z5L h0 r1;obtain ⟨z, hz⟩ := z5L h0 r2;have hb := (z06 hy).2;exact ⟨z, (zhP z).2 ⟨f, hf, hz⟩, y, hb.1, hb.2, (s.eq _ _).2 ⟨p, f, hy, hz, hr⟩⟩
 ·rintro ⟨f', hf', p', _, _, hr⟩
  obtain ⟨f, hf, e⟩ := (zhP f').1 hf';obtain ⟨p, q, n1, n2, hu⟩ := (s.eq _ _).1 hr;have := z1V n2 e;subst this;have hb := z7B h (s.re _ _ hu).1;exact ⟨q, hf, p, hb.1, hb.2, hu⟩
include h h0 h1 in
theorem z8F {t : Thg} (ht : ReachT a t) : ∃ y, z0y (if t.1 = 0 then L0 else L1) t.2 = some y ∧ ReachT (z0f a L0 L1) (t.1, y) := by
 induction ht with
 | bot => exact ⟨0, by simpa using z4V h h1, .bot⟩
 | @init s hs =>
  obtain ⟨y, hy⟩ := z5L h0 (ReachT.init hs);exact ⟨y, by simpa using hy, .init ((zgl y).2 ⟨s, hs, hy⟩)⟩
 | @step m t hm hn hg ih =>
  obtain ⟨f, hf, rf⟩ := ih (0, m.1) (by simp [zN]);obtain ⟨g, hg1, rg⟩ := ih (1, m.2.1) (by simp [zN]);simp only [if_true] at hf;simp only [Int.reduceEq, if_false] at hg1;have k0 := hn (0, m.1) (by simp [zN]);have k1 := hn (1, m.2.1) (by simp [zN]);obtain ⟨y, hy⟩ := z5L h0 (x := m.2.2.1) (.step hm hn (by simp [zV]));obtain ⟨z, hz⟩ := zfs h1 (x := m.2.2.2) (.step hm hn (by simp [zV]))
  have hm' : ((f, g, y, z) : R4) ∈ zP (z0f a L0 L1) := by
   have hbot := z4V h h1;simp only [zP, List.mem_append, List.mem_map] at hm ⊢;rcases hm with (⟨r, hr, rfl⟩ | ⟨r, hr, rfl⟩) | ⟨r, hr, rfl⟩
   ·refine .inl (.inl ⟨(f, r.2.1, y, z), (zeN h h0 h1 _).2 ⟨r, hr, hf, rfl, hy, hz⟩, ?_⟩)
    have : g = 0 := by rw [show (z0z r).2.1 = 0 from rfl, hbot] at hg1; cases hg1; rfl
    rw [this]; rfl
   ·refine .inl (.inr ⟨(f, r.2.1, g, y), (zfj h0 h1 _).2 ⟨r, hr, hf, rfl, hg1, hy⟩, ?_⟩)
    have : z = 0 := by rw [show (z12 r).2.2.2 = 0 from rfl, hbot] at hz; cases hz; rfl
    rw [this]; rfl
   ·refine .inr ⟨(f, r.2.1, y), (zgz h0 _).2 ⟨r, hr, hf, rfl, hy⟩, ?_⟩
    have e1 : g = 0 := by rw [show (z1N r).2.1 = 0 from rfl, hbot] at hg1; cases hg1; rfl
    have e2 : z = 0 := by rw [show (z1N r).2.2.2 = 0 from rfl, hbot] at hz; cases hz; rfl
    rw [e1, e2]; rfl
  have hn' : ∀ u ∈ zN ((f, g, y, z) : R4), ReachT (z0f a L0 L1) u := fun u hu => by
   simp only [zN, List.mem_cons, List.not_mem_nil, or_false] at hu;rcases hu with rfl | rfl
   ·exact rf
   ·exact rg
  simp only [zV, List.mem_cons, List.not_mem_nil, or_false] at hg;rcases hg with rfl | rfl
  ·exact ⟨y, by simpa using hy, .step hm' hn' (by simp [zV])⟩
  ·exact ⟨z, by simpa using hz, .step hm' hn' (by simp [zV])⟩
include h h0 h1 in
theorem ze0 (x : Int) : ReachT (z0f a L0 L1) (0, x) ↔ 0 ≤ x ∧ x < L0.length := by
 constructor
 ·intro hx
  rcases z6a hx with q | ⟨m, hm, _, rfl⟩
  ·obtain ⟨s, _, e⟩ := (zgl x).1 q
   exact (z06 e).2
  ·simp only [zP, List.mem_append, List.mem_map] at hm
   rcases hm with (⟨t, ht, rfl⟩ | ⟨t, ht, rfl⟩) | ⟨t, ht, rfl⟩
   ·obtain ⟨r, _, _, _, e, _⟩ := (zeN h h0 h1 t).1 ht; exact (z06 e).2
   ·obtain ⟨r, _, _, _, _, e⟩ := (zfj h0 h1 t).1 ht; exact (z06 e).2
   ·obtain ⟨r, _, _, _, e⟩ := (zgz h0 t).1 ht; exact (z06 e).2
 ·rintro ⟨p0, p1⟩
  obtain ⟨p, rfl⟩ : ∃ p : Nat, x = p := ⟨x.toNat, by omega⟩;have hp : p < L0.length := by omega
  obtain ⟨y, e, hr⟩ := z8F h h0 h1 ((h0.2 L0[p]).1 (List.getElem_mem hp));simp only [if_true] at e;rw [z5z h0.1 hp] at e;cases e;exact hr
include h h0 h1 in
theorem zdZ (x : Int) : ReachT (z0f a L0 L1) (1, x) ↔ 0 ≤ x ∧ x < L1.length := by
 constructor
 ·intro hx
  rcases z74 hx with rfl | ⟨m, hm, _, rfl⟩
  ·exact (z06 (z4V h h1)).2
  ·have hb := (z06 (z4V h h1)).2
   simp only [zP, List.mem_append, List.mem_map] at hm;rcases hm with (⟨t, ht, rfl⟩ | ⟨t, ht, rfl⟩) | ⟨t, ht, rfl⟩
   ·obtain ⟨r, _, _, _, _, e⟩ := (zeN h h0 h1 t).1 ht; exact (z06 e).2
   ·exact hb
   ·exact hb
 ·rintro ⟨p0, p1⟩
  obtain ⟨p, rfl⟩ : ∃ p : Nat, x = p := ⟨x.toNat, by omega⟩;have hp : p < L1.length := by omega
  obtain ⟨y, e, hr⟩ := z8F h h0 h1 ((h1.2 L1[p]).1 (List.getElem_mem hp));simp only [Int.reduceEq, if_false] at e;rw [z5z h1.1 hp] at e;cases e;exact hr
end
theorem z7C {L : List Int} {n : Nat} (hL : L.Pairwise (· < ·)) (hm : ∀ x, x ∈ L ↔ 0 ≤ x ∧ x < n) : L = (List.range n).map fun (j : Nat) => (j : Int) := by
 refine z4j zeL _ _ hL ?_ fun x => ?_
 ·show List.Pairwise lt1 _
  rw [List.pairwise_map];exact List.pairwise_lt_range.imp fun {x y} hlt => by show (x : Int) < y; omega
 ·rw [hm]
  constructor
  ·rintro ⟨p0, p1⟩
   exact List.mem_map.2 ⟨x.toNat, List.mem_range.2 (by omega), by omega⟩
  ·intro hx
   obtain ⟨j, hj, rfl⟩ := List.mem_map.1 hx;have := List.mem_range.1 hj;omega
theorem zcK {L : List Int} {n : Nat} (hL : L.Pairwise (· < ·)) (hm : ∀ x, x ∈ L ↔ 0 ≤ x ∧ x < n) {x : Int} (hx : 0 ≤ x ∧ x < n) : z0y L x = some x := by
 have he := z7C hL hm;obtain ⟨p, rfl⟩ : ∃ p : Nat, x = p := ⟨x.toNat, by omega⟩;have hp : p < L.length := by rw [he]; simp; omega
 have hg : L[p] = (p : Int) := by
  have : L[p]? = some (p : Int) := by rw [he, List.getElem?_map, List.getElem?_range (by omega)]; rfl
  rw [List.getElem?_eq_getElem hp] at this;exact Option.some.inj this
 have := z5z hL hp
 rwa [hg] at this
theorem z23 {α : Type} {f : α → Option α} : ∀ (l : List α), (∀ x ∈ l, f x = some x) → l.filterMap f = l := by
 intro l
 induction l with
 | nil => intro _; rfl
 | cons x l ih =>
  intro hl;rw [List.filterMap_cons, hl x (by simp), ih fun y hy => hl y (by simp [hy])]
section
variable {ss : List (ByteArray × Int)} {most : Int} {a : Aut} {i : Nat} {L0 L1 : List Int} (h : GoodM ss most a i) (h0 : z1t a 0 L0) (h1 : z1t a 1 L1)
include h h0 h1 in
theorem zbv {M0 M1 : List Int} (k0 : z1t (z0f a L0 L1) 0 M0) (k1 : z1t (z0f a L0 L1) 1 M1) : z0f (z0f a L0 L1) M0 M1 = z0f a L0 L1 := by
 have m0 : ∀ x, x ∈ M0 ↔ 0 ≤ x ∧ x < L0.length := fun x => (k0.2 x).trans (ze0 h h0 h1 x);have m1 : ∀ x, x ∈ M1 ↔ 0 ≤ x ∧ x < L1.length := fun x => (k1.2 x).trans (zdZ h h0 h1 x);have i0 : ∀ {x : Int}, 0 ≤ x ∧ x < L0.length → z0y M0 x = some x := fun hx => zcK k0.1 m0 hx;have i1 : ∀ {x : Int}, 0 ≤ x ∧ x < L1.length → z0y M1 x = some x := fun hx => zcK k1.1 m1 hx;have l0 : M0.length = L0.length := by rw [z7C k0.1 m0]; simp
 have l1 : M1.length = L1.length := by rw [z7C k1.1 m1]; simp
 have eI : zE M0 (z0f a L0 L1).init = (z0f a L0 L1).init := z23 _ fun x hx => by
  obtain ⟨s, _, e⟩ := (zgl x).1 hx;exact i0 (z06 e).2
 have eF : zE M0 (z0f a L0 L1).final = (z0f a L0 L1).final := z23 _ fun x hx => by
  obtain ⟨s, _, e⟩ := (zhP x).1 hx;exact i0 (z06 e).2
 have eO : (z0f a L0 L1).opens.filterMap (z2b M0 M1) = (z0f a L0 L1).opens := z23 _ fun t ht => by
  obtain ⟨r, _, e1, _, e2, e3⟩ := (zeN h h0 h1 t).1 ht;simp [z2b, i0 (z06 e1).2, i0 (z06 e2).2, i1 (z06 e3).2]
 have eC : (z0f a L0 L1).closes.filterMap (z2c M0 M1) = (z0f a L0 L1).closes := z23 _ fun t ht => by
  obtain ⟨r, _, e1, _, e3, e2⟩ := (zfj h0 h1 t).1 ht;simp [z2c, i0 (z06 e1).2, i0 (z06 e2).2, i1 (z06 e3).2]
 have eN : (z0f a L0 L1).inners.filterMap (z3z M0) = (z0f a L0 L1).inners := z23 _ fun t ht => by
  obtain ⟨r, _, e1, _, e2⟩ := (zgz h0 t).1 ht;simp [z3z, i0 (z06 e1).2, i0 (z06 e2).2]
 show z02 (z00 (z0f a L0 L1) M0 M1) = _;unfold z00 z02;simp only [eI, eF, eO, eC, eN, l0, l1];have t1 : ∀ l : List Int, zT lt1 (zT lt1 l) = zT lt1 l := fun l => z4W zeL (z2G zeL l);have t4 : ∀ l : List R4, zT lt4 (zT lt4 l) = zT lt4 l := fun l => z4W zeK (z2G zeK l);have t3 : ∀ l : List R3, zT lt3 (zT lt3 l) = zT lt3 l := fun l => z4W zgi (z2G zgi l);unfold z0f z02;simp only [t1, t3, t4];rfl
end
end Go.Proofs.YteplpegfcpmflaaGreat
namespace Go.Am
open Go.RowKit
def BCells (cs : List Value) (n : Nat) (S : Nat → Prop) : Prop := cs.length = n ∧ ∀ i, i < n → ∃ x : Bool, cs[i]? = some (.bool x) ∧ (x = true ↔ S i)
theorem BCells.zero (n : Nat) : BCells (rep n [.bool false]) n fun _ => False := by
 have h : rep n [.bool false] = List.replicate n (.bool false) := by
  unfold rep
  induction n with
  | zero => rfl
  | succ n ih => rw [List.replicate_succ, List.flatten_cons, ih, List.replicate_succ]; rfl
 rw [h];exact ⟨by simp, fun i hi => ⟨false, by rw [List.getElem?_replicate, if_pos hi], by simp⟩⟩
theorem BCells.set {cs : List Value} {n k : Nat} {S : Nat → Prop} (h : BCells cs n S) (hk : k < n) : BCells (cs.set k (.bool true)) n fun i => i = k ∨ S i := by
 refine ⟨by rw [List.length_set, h.1], fun i hi => ?_⟩;by_cases e : i = k
 ·subst e
  exact ⟨true, by rw [List.getElem?_set_self (by rw [h.1]; exact hk)], by simp⟩
 ·obtain ⟨x, h1, h2⟩ := h.2 i hi
  exact ⟨x, by rw [List.getElem?_set_ne (fun q => e q.symm)]; exact h1, by simp [e, h2]⟩
theorem BCells.iff {cs : List Value} {n : Nat} {S S' : Nat → Prop} (h : BCells cs n S) (hS : ∀ i, i < n → (S i ↔ S' i)) : BCells cs n S' :=
 ⟨h.1, fun i hi => by obtain ⟨x, h1, h2⟩ := h.2 i hi; exact ⟨x, h1, h2.trans (hS i hi)⟩⟩
def BRow (H : Heap) (el : TypeId) (b n : Nat) (S : Nat → Prop) : Prop := ∃ cs, H b = some (.cells cs 1 none false (some el)) ∧ BCells cs n S
theorem BRow.same {H H' : Heap} {el : TypeId} {b n : Nat} {S : Nat → Prop} (h : BRow H el b n S) (hs : H' b = H b) : BRow H' el b n S := by
 obtain ⟨cs, h1, h2⟩ := h;exact ⟨cs, hs.trans h1, h2⟩
theorem BRow.iff {H : Heap} {el : TypeId} {b n : Nat} {S S' : Nat → Prop} (h : BRow H el b n S) (hS : ∀ i, i < n → (S i ↔ S' i)) : BRow H el b n S' := by
 obtain ⟨cs, h1, h2⟩ := h;exact ⟨cs, h1, h2.iff hS⟩
theorem BRow.get {H : Heap} {el : TypeId} {b n : Nat} {S : Nat → Prop} (h : BRow H el b n S) {j : Int} (h0 : 0 ≤ j) (h1 : j < n) : ∃ x : Bool, zb H ⟨b, 0 + j.toNat * 1, none⟩ (.bool x) ∧ (x = true ↔ S j.toNat) := by
 obtain ⟨cs, hH, hc⟩ := h;obtain ⟨x, hx, hS⟩ := hc.2 j.toNat (by omega);refine ⟨x, ?_, hS⟩;unfold zb z0L;simp only [hH];have hl := hc.1;rw [if_pos ⟨trivial, by omega⟩];obtain ⟨hjl, hje⟩ := List.getElem?_eq_some_iff.1 hx;rw [Nat.zero_add, Nat.mul_one, List.take_one, List.head?_drop, List.getElem?_eq_getElem hjl, hje];rfl
theorem BRow.new {H : Heap} {el : TypeId} {b n : Nat} : BRow (H.put b (.cells (rep n [.bool false]) 1 none false (some el))) el b n fun _ => False := ⟨_, z6, BCells.zero n⟩
theorem z0R {P : Program} {nx : Nat} {t el : TypeId} {m : Nat} (hu : P.underlying t = some (.slice el)) (hs : z1r P el = some 1) (hb : z0n P el = some 1) (hz : z0M P el = some [.bool false]) (hm : m ≤ 1000000000) :
  z2p P nx t (.int .i64 m) (.int .i64 m) = some (.slice (some ⟨nx, 0, none⟩) m m, .new (.cells (rep m [.bool false]) 1 none false (some el))) := by
 unfold z2p;simp only [hu, hs, hb, hz, Int.toNat_natCast];rw [if_pos ⟨by omega, by omega, by omega, by omega, rfl⟩]
section
variable {P : Program} {W0 : World} {ops : Array Oper} {H : Heap} {nx n : Nat} {type : TypeId} {pos : String} {after : Array Edge} {l : List Oper} {tm : Nat → Value} {QQ : ASt → Prop} {el : TypeId}
theorem zdt {t : TypeId} {x y : Operand} {b m : Nat} {j : Int} {S : Nat → Prop} (hx : ASt.ev ⟨tm, n, H, nx⟩ x = some (.pointer (some ⟨b, 0 + j.toNat * 1, none⟩))) (hy : ASt.ev ⟨tm, n, H, nx⟩ y = some (.bool true)) (hz : z1r P t = some 1)
  (hr : BRow H el b m S) (h0 : 0 ≤ j) (h1 : j < m) (h : ∀ H', BRow H' el b m (fun i => i = j.toNat ∨ S i) → (∀ i, i ≠ b → H' i = H i) → OpsL P W0 ops l ⟨tm, n, H', nx⟩ QQ) :
  OpsL P W0 ops (⟨none, .store t x y, type, pos, after, none⟩ :: l) ⟨tm, n, H, nx⟩ QQ := by
 obtain ⟨cs, hH, hc⟩ := hr;have hl := hc.1;refine OpsL.storeAt (a := ⟨b, 0 + j.toNat * 1, none⟩) (cs' := cs.set j.toNat (.bool true)) j.toNat hx hy hz rfl rfl hH (by simp) (by omega) rfl ?_;exact h _ ⟨_, z6, hc.set (by omega)⟩ fun i hi => z5 hi
end
theorem zcM {N p q : Nat} (h : q < N) : (p * N + q) / N = p ∧ (p * N + q) % N = q := by
 rw [Nat.mul_comm p N];refine ⟨?_, ?_⟩
 ·rw [Nat.mul_add_div (by omega), Nat.div_eq_of_lt h, Nat.add_zero]
 ·rw [Nat.mul_add_mod, Nat.mod_eq_of_lt h]
theorem z2V {N : Nat} {p q : Int} (hN : N ≤ 200) (p0 : 0 ≤ p) (p1 : p < N) (q0 : 0 ≤ q) (q1 : q < N) : 0 ≤ p * (N : Int) ∧ p * (N : Int) ≤ 40000 ∧ p * (N : Int) + q < ((N * N : Nat) : Int) ∧ (p * (N : Int) + q).toNat = p.toNat * N + q.toNat := by
 obtain ⟨i, rfl⟩ : ∃ i : Nat, p = i := ⟨p.toNat, by omega⟩;obtain ⟨k, rfl⟩ : ∃ k : Nat, q = k := ⟨q.toNat, by omega⟩
 have h1 : i * N + N ≤ N * N := by
  have := Nat.mul_le_mul_right N (show i + 1 ≤ N by omega)
  rwa [Nat.add_mul, Nat.one_mul] at this
 have h2 : N * N ≤ 200 * 200 := Nat.mul_le_mul hN hN;have e : ((i : Int) * (N : Int)) = ((i * N : Nat) : Int) := by simp
 rw [e];simp only [Int.toNat_natCast];omega
def LRow (H : Heap) (el : TypeId) (b N : Nat) (R : Int → Int → Prop) : Prop := BRow H el b (N * N) fun i => R ((i / N : Nat) : Int) ((i % N : Nat) : Int)
theorem LRow.same {H H' : Heap} {el : TypeId} {b N : Nat} {R : Int → Int → Prop} (h : LRow H el b N R) (hs : H' b = H b) : LRow H' el b N R := BRow.same h hs
theorem LRow.iff {H : Heap} {el : TypeId} {b N : Nat} {R R' : Int → Int → Prop} (h : LRow H el b N R) (hR : ∀ p q : Int, 0 ≤ p → p < N → 0 ≤ q → q < N → (R p q ↔ R' p q)) : LRow H el b N R' :=
 BRow.iff h fun i hi => by
  have hN : 0 < N := by
   by_cases e : N = 0
   ·subst e; omega
   ·omega
  have h1 : i / N < N := Nat.div_lt_of_lt_mul hi;have h2 := Nat.mod_lt i hN;exact hR _ _ (Int.natCast_nonneg _) (Int.ofNat_lt.2 h1) (Int.natCast_nonneg _) (Int.ofNat_lt.2 h2)
theorem LRow.get {H : Heap} {el : TypeId} {b N : Nat} {R : Int → Int → Prop} (h : LRow H el b N R) {p q : Int} (hN : N ≤ 200) (p0 : 0 ≤ p) (p1 : p < N) (q0 : 0 ≤ q) (q1 : q < N) : ∃ x : Bool, zb H ⟨b, 0 + (p * (N : Int) + q).toNat * 1, none⟩ (.bool x) ∧ (x = true ↔ R p q) := by
 obtain ⟨i1, i2, i3, i4⟩ := z2V hN p0 p1 q0 q1;obtain ⟨x, h1, h2⟩ := BRow.get h (j := p * (N : Int) + q) (by omega) i3;refine ⟨x, h1, h2.trans ?_⟩;obtain ⟨e1, e2⟩ := zcM (N := N) (p := p.toNat) (q := q.toNat) (by omega);rw [i4, e1, e2, Int.toNat_of_nonneg p0, Int.toNat_of_nonneg q0]
theorem LRow.new {H : Heap} {el : TypeId} {b N M : Nat} (hM : M = N * N) : LRow (H.put b (.cells (rep M [.bool false]) 1 none false (some el))) el b N fun _ _ => False := by subst hM; exact BRow.new
section
variable {P : Program} {W0 : World} {ops : Array Oper} {H : Heap} {nx n : Nat} {type : TypeId} {pos : String} {after : Array Edge} {l : List Oper} {tm : Nat → Value} {QQ : ASt → Prop} {el : TypeId}
theorem z3L {t : TypeId} {x y : Operand} {b N : Nat} {p q : Int} {R : Int → Int → Prop} (hx : ASt.ev ⟨tm, n, H, nx⟩ x = some (.pointer (some ⟨b, 0 + (p * (N : Int) + q).toNat * 1, none⟩))) (hy : ASt.ev ⟨tm, n, H, nx⟩ y = some (.bool true)) (hz : z1r P t = some 1)
  (hr : LRow H el b N R) (hN : N ≤ 200) (p0 : 0 ≤ p) (p1 : p < N) (q0 : 0 ≤ q) (q1 : q < N) (h : ∀ H', LRow H' el b N (fun p' q' => (p' = p ∧ q' = q) ∨ R p' q') → (∀ i, i ≠ b → H' i = H i) → (∀ k, (∀ id o, H id = some o → id < k) → ∀ id o, H' id = some o → id < k) → OpsL P W0 ops l ⟨tm, n, H', nx⟩ QQ) :
  OpsL P W0 ops (⟨none, .store t x y, type, pos, after, none⟩ :: l) ⟨tm, n, H, nx⟩ QQ := by
 obtain ⟨i1, i2, i3, i4⟩ := z2V hN p0 p1 q0 q1;have hsome : ∃ o, H b = some o := by obtain ⟨cs, h1, _⟩ := hr; exact ⟨_, h1⟩
 refine zdt hx hy hz hr (by omega) i3 fun H' h1 h2 => h H' (BRow.iff h1 fun i hi => ?_) h2 fun k hk id o ho => ?_
 ·obtain ⟨e1, e2⟩ := zcM (N := N) (p := p.toNat) (q := q.toNat) (by omega)
  rw [i4];constructor
  ·rintro (rfl | hR)
   ·exact .inl ⟨by rw [e1]; omega, by rw [e2]; omega⟩
   ·exact .inr hR
  ·rintro (⟨h3, h4⟩ | hR)
   ·refine .inl ?_
    have := Nat.div_add_mod i N;have e3 : i / N = p.toNat := by omega
    have e4 : i % N = q.toNat := by omega
    rw [e3, e4, Nat.mul_comm] at this;exact this.symm
   ·exact .inr hR
 ·by_cases e : id = b
  ·subst e
   obtain ⟨o', ho'⟩ := hsome;exact hk _ _ ho'
  ·rw [h2 id e] at ho
   exact hk _ _ ho
end
end Go.Am
namespace Go.Proofs.YteplpegfcpmflaaGreat
open Go.Am Go.RowKit
attribute [local irreducible] aop OpsL Trip zC z36 OpsK OpsR
theorem z0N : Tryz.prog.follows .mixedOrders = true := by kernel_rfl
theorem z1a : Am.z0F Tryz.prog 52 := ⟨Tryz.f52, Tryz.func52, by kernel_rfl, by kernel_rfl⟩
theorem z4n : Am.z0F Tryz.prog 53 := ⟨Tryz.f53, Tryz.func53, by kernel_rfl, by kernel_rfl⟩
theorem z9a : Am.z0F Tryz.prog 18 := ⟨Tryz.f18, Tryz.func18, by kernel_rfl, by kernel_rfl⟩
theorem z4i (W0 : World) {nx : Nat} {H : Heap} {a : Aut} {vi vf vo vc vn : Value} (s : Int) :
  ACalls Tryz.prog W0 52 [.agg (zA a vi vf vo vc vn).toArray, .int .i64 s] nx H fun v nx' H' => v = .bool (stF a.N s) ∧ Ext nx H nx' H' := by
 refine ze (fn := Tryz.f52) (c := _) Tryz.func52 rfl (fun tm n hn0 htm => ?_);have e0 : tm 0 = .agg (zA a vi vf vo vc vn).toArray := htm 0;have e1 : tm 1 = .int .i64 s := htm 1;clear htm;replace hn0 : n = 13 := hn0;refine z5o ?_;refine OpsL.new (by subst_vars; decide) (zW evr) ?_;obtain ⟨F, hF⟩ : ∃ F, F = H.put nx (.cells (Value.agg (zA a vi vf vo vc vn).toArray).cells.toList 0 none false (some 30)) := ⟨_, rfl⟩;have hx0 : Ext nx H (nx + 1) F := by rw [hF]; exact zg
 have hFn : F nx = some (.cells (zA a vi vf vo vc vn) 0 none false (some 30)) := by rw [hF, z6]; rfl
 have g0 : zb F ⟨nx, 0, none⟩ (.int .i64 a.N) := z8 hFn rfl;rw [← hF];clear hF
 repeat' (first | (refine z7 (by first | exact omv | exact z0x | exact z6B | exact zhG | exact ofa | exact old | exact z2q | exact z27) ?_) | refine Trip.seq ?_ | refine zd ?_ | (refine Trip.ret ?_; (dsimp only)) | (refine OpsL.nil ?_; (change Trip _ _ _ _ _)) | refine zj ?_ | refine zF ?_ | refine z3e (fun _ => ?_) (fun _ => ?_))
 all_goals (exact ⟨.inr rfl, _, zh, by simp [z9, stF, *]; try omega, hx0⟩)
theorem zcu (W0 : World) {nx : Nat} {H : Heap} {lv : Value} {ss : List (ByteArray × Int)} (s k : Int) (hl : SymsAt H lv ss) (hss : ss.length ≤ 1000) :
  ACalls Tryz.prog W0 53 [lv, .int .i64 s, .int .i64 k] nx H fun v nx' H' => v = .bool (kdF ss s k) ∧ nx' = nx ∧ H' = H := by
 obtain ⟨la, lc, rfl, hl⟩ := hl;refine ze (fn := Tryz.f53) (c := _) Tryz.func53 rfl (fun tm n hn0 htm => ?_);have e0 : tm 0 = .slice (some la) ss.length lc := htm 0;have e1 : tm 1 = .int .i64 s := htm 1;have e2 : tm 2 = .int .i64 k := htm 2;clear htm;replace hn0 : n = 24 := hn0;by_cases h0 : 0 ≤ s
 ·obtain ⟨i, rfl⟩ : ∃ i : Nat, s = i := ⟨s.toNat, by omega⟩
  by_cases h1 : i < ss.length
  ·have hc1 := z1X (hl i h1)
   dsimp only at hc1;have hc2 : zb H ⟨la.block, la.off + (i : Int).toNat * 2 + 1, la.spot⟩ (.int .i64 ss[i].2) := by simpa using hc1
   have hk : kdF ss i k = decide (ss[i].2 = k) := by
    unfold kdF;rw [Int.toNat_natCast, List.getElem?_eq_getElem h1];simp [h1]
   repeat' (first | (refine z7 (by first | exact omv | exact z0x | exact z6B | exact zhG | exact zeM | exact z1s | exact z4s | exact ofa | exact old | exact z2q | exact z27) ?_) | refine Trip.seq ?_ | refine zd ?_ | (refine Trip.ret ?_; (dsimp only)) | (refine OpsL.nil ?_; (change Trip _ _ _ _ _)) | refine zj ?_ | refine zF ?_ | refine z3e (fun _ => ?_) (fun _ => ?_))
   all_goals first | omega | skip
   all_goals (exact ⟨.inr rfl, _, zh, by rw [hk]; simp [z9, *], rfl, rfl⟩)
  ·have hk : kdF ss i k = false := by
    unfold kdF;simp [h1]
   repeat' (first | (refine z7 (by first | exact omv | exact z0x | exact z6B | exact zhG | exact z1s | exact z4s | exact ofa | exact z2q | exact z27) ?_) | refine Trip.seq ?_ | refine zd ?_ | (refine Trip.ret ?_; (dsimp only)) | (refine OpsL.nil ?_; (change Trip _ _ _ _ _)) | refine zj ?_ | refine zF ?_ | refine z3e (fun _ => ?_) (fun _ => ?_))
   all_goals first | omega | skip
   all_goals (exact ⟨.inr rfl, _, zh, by rw [hk]; simp [z9, *], rfl, rfl⟩)
 ·have hk : kdF ss s k = false := by
   unfold kdF;simp [h0]
  repeat' (first | (refine z7 (by first | exact omv | exact z0x | exact zhG | exact z27) ?_) | refine Trip.seq ?_ | refine zd ?_ | (refine Trip.ret ?_; (dsimp only)) | (refine OpsL.nil ?_; (change Trip _ _ _ _ _)) | refine zF ?_)
  all_goals first | omega | skip
  all_goals (exact ⟨.inr rfl, _, zh, by rw [hk]; simp [z9, *], rfl, rfl⟩)
theorem zdU (a : Aut) : z4y a = decide (0 ≤ a.N ∧ a.N ≤ 200 ∧ 0 ≤ a.G ∧ a.G ≤ 10000 ∧ ((a.opens.length : Int) + a.closes.length) + a.inners.length ≤ 100000) := by
 unfold z4y btF;rw [Bool.eq_iff_iff];simp only [Bool.and_eq_true, decide_eq_true_eq];constructor
 ·rintro ⟨⟨⟨h1, h2⟩, h3, h4⟩, h5⟩; exact ⟨h1, h2, h3, h4, h5⟩
 ·rintro ⟨h1, h2, h3, h4, h5⟩; exact ⟨⟨⟨h1, h2⟩, h3, h4⟩, h5⟩
theorem zao {ss : List (ByteArray × Int)} {a : Aut} (h : z4y a = false) : z0o ss a = false := by simp [z0o, h]
theorem z7T {ss : List (ByteArray × Int)} {a : Aut} (h : (a.init ++ a.final).all (stF a.N) = false) : z0o ss a = false := by
 rw [List.all_append] at h;unfold z0o;cases h1 : a.init.all (stF a.N) <;> cases h2 : a.final.all (stF a.N) <;> simp_all
theorem z24 {ss : List (ByteArray × Int)} {a : Aut} (h : a.opens.all (okO ss a) = false) : z0o ss a = false := by simp [z0o, h]
theorem z1H {ss : List (ByteArray × Int)} {a : Aut} (h : a.closes.all (okC ss a) = false) : z0o ss a = false := by simp [z0o, h]
theorem z3t {ss : List (ByteArray × Int)} {a : Aut} (h : a.inners.all (okI ss a) = false) : z0o ss a = false := by simp [z0o, h]
theorem zbY {ss : List (ByteArray × Int)} {a : Aut} (h0 : z4y a = true) (h1 : (a.init ++ a.final).all (stF a.N) = true) (h2 : a.opens.all (okO ss a) = true) (h3 : a.closes.all (okC ss a) = true) (h4 : a.inners.all (okI ss a) = true) : z0o ss a = true := by
 rw [List.all_append, Bool.and_eq_true] at h1;simp [z0o, h0, h1.1, h1.2, h2, h3, h4]
theorem zfO (W0 : World) {nx : Nat} {H : Heap} {lv : Value} {ss : List (ByteArray × Int)} {a : Aut} {vi vf vo vc vn : Value} (hl : SymsAt H lv ss) (hss : ss.length ≤ 1000) (ha : AutIn H a vi vf vo vc vn) (hn : AutLen a) :
  ACalls Tryz.prog W0 18 [lv, .agg (zA a vi vf vo vc vn).toArray] nx H fun v nx' H' => v = .int .i64 (if z0o ss a then 0 else 9) ∧ Ext nx H nx' H' := by
 obtain ⟨oa, oc, rfl⟩ := ha.opens.slice;obtain ⟨ca, cc, rfl⟩ := ha.closes.slice;obtain ⟨na, nc, rfl⟩ := ha.inners.slice;have q0 := hn.init;have q1 := hn.final;have q2 := hn.opens;have q3 := hn.closes;have q4 := hn.inners;refine ze (fn := Tryz.f18) (c := _) Tryz.func18 rfl (fun tm n hn0 htm => ?_);have e0 : tm 0 = lv := htm 0;have e1 : tm 1 = .agg (zA a vi vf (.slice oa a.opens.length oc) (.slice ca a.closes.length cc) (.slice na a.inners.length nc)).toArray := htm 1;clear htm;replace hn0 : n = 182 := hn0;refine Trip.ok fun hok => ?_;replace hok : ∀ id o, H id = some o → id < nx := hok;refine z5o ?_;refine OpsL.new (by subst_vars; decide) (zW evr) ?_;obtain ⟨F, hF⟩ : ∃ F, F = H.put nx (.cells (Value.agg (zA a vi vf (.slice oa a.opens.length oc) (.slice ca a.closes.length cc) (.slice na a.inners.length nc)).toArray).cells.toList 0 none false (some 30)) := ⟨_, rfl⟩;have hx0 : Ext nx H (nx + 1) F := by rw [hF]; exact zg
 have hokF : ∀ id o, F id = some o → id < nx + 1 := by rw [hF]; exact zB hok
 have hFn : F nx = some (.cells (zA a vi vf (.slice oa a.opens.length oc) (.slice ca a.closes.length cc) (.slice na a.inners.length nc)) 0 none false (some 30)) := by rw [hF, z6]; rfl
 replace hl := hl.ext hx0 hok;replace ha := ha.ext hx0 hok;have g0 : zb F ⟨nx, 0, none⟩ (.int .i64 a.N) := z8 hFn rfl;have g1 : zb F ⟨nx, 1, none⟩ (.int .i64 a.G) := z8 hFn rfl;have g2 : zb F ⟨nx, 2, none⟩ vi := z8 hFn rfl;have g3 : zb F ⟨nx, 3, none⟩ vf := z8 hFn rfl;have g4 : zb F ⟨nx, 4, none⟩ (.slice oa a.opens.length oc) := z8 hFn rfl;have g5 : zb F ⟨nx, 5, none⟩ (.slice ca a.closes.length cc) := z8 hFn rfl;have g6 : zb F ⟨nx, 6, none⟩ (.slice na a.inners.length nc) := z8 hFn rfl;rw [← hF];clear hF e1
 (refine z7 (by exact z0x) ?_)
 (refine OpsL.nil ?_; (change Trip _ _ _ _ _))
 refine Trip.seq ?_;refine Trip.seq ?_;refine Trip.mono (Q := fun e st => e = .normal ∧ ∃ tm' : Nat → Value, st = ⟨tm', n, F, nx + 1⟩ ∧ tm' 0 = lv ∧ tm' 3 = .pointer (some ⟨nx, 0, none⟩) ∧ tm' 4 = .int .i64 0 ∧ tm' 44 = .bool (!z4y a)) ?_ ?_
 ·refine zd ?_
  repeat' (first | (refine z7 (by first | exact omv | exact z6B | exact zif | exact z6w | exact z1s | exact ofa | exact old | exact z2q | exact z27) ?_) | (refine OpsL.nil ?_; (dsimp only)) | refine zj ?_ | refine zF ?_ | refine zfV (fun _ => ?_) (fun _ => ?_))
  all_goals
   refine ⟨rfl, _, rfl, stp, stp, stp, ?_⟩;simp only [z9, ↓reduceIte, reduceIte, Nat.reduceEqDiff, Value.bool.injEq];rw [zdU, Bool.eq_iff_iff, Bool.not_eq_true', decide_eq_false_iff_not]
   first | (simp only [true_iff]; omega) | (rw [decide_eq_true_iff]; omega)
 ·rintro e st ⟨rfl, tm1, rfl, e0, e3, e4, e44⟩
  cases hz : z4y a
  ·rw [hz] at e44
   refine zdD ?_;exact ⟨.inr rfl, _, zh, by rw [zao hz]; rfl, hx0⟩
  rw [hz] at e44;refine zU ?_
  repeat (first | refine Trip.seq ?_ | (refine Trip.skip ?_; (change Trip _ _ _ _ _)))
  refine Trip.mono (Q := fun e st => e = .normal ∧ ∃ (tm' : Nat → Value) (nx' : Nat) (H' : Heap) (v : Value), st = ⟨tm', n, H', nx'⟩ ∧ Ext (nx + 1) F nx' H' ∧ IntsAt H' v (a.init ++ a.final) ∧ tm' 0 = lv ∧ tm' 3 = .pointer (some ⟨nx, 0, none⟩) ∧ tm' 4 = .int .i64 0 ∧ tm' 5 = v) ?_ ?_
  ·refine OpsR.drawn [0, 3, 6] (K := fun nx1 H1 => Ext (nx + 1) F nx1 H1) z0N krf krf [1, 2, 4, 5, 0, 3, 6, 7] krf Ext.refl ?_
   refine zg3 ?_;refine zD (v := vi) rfl krf (by subst_vars; decide) Ext.refl (fun H2 nx2 hK => zq evr (by exact rfl) rfl (zm hK hokF g2)) ?_;refine zg3 ?_;refine zD (v := vf) rfl krf (by subst_vars; decide) Ext.refl (fun H2 nx2 hK => zq evr (by exact rfl) rfl (zm hK hokF g3)) ?_;refine z0K ?_;refine OpsL.new (by subst_vars; decide) (zl (l := []) (r := (.slice (some ⟨nx + 1, 0, none⟩) 0 0, .new (.cells [] 1 none false (some 3)))) (by simp only [zt]) krf) ?_;have y0 : Ext (nx + 1) F (nx + 1 + 1) (F.put (nx + 1) (.cells [] 1 none false (some 3))) := zg;have p0 := zB (o := (.cells [] 1 none false (some 3))) hokF;have hE : RowE z59 1 3 (F.put (nx + 1) (.cells [] 1 none false (some 3))) none (.slice (some ⟨nx + 1, 0, none⟩) 0 0) ([] : List Int) := .inr ⟨rfl, rfl, nx + 1, 1, false, _, rfl, z6⟩;generalize (F.put (nx + 1) (.cells [] 1 none false (some 3))) = G at *;refine OpsL.nil ⟨y0, ?_⟩;refine z0K ?_;refine z1b (bytes := 8) (z := [.int .i64 0]) z2g z3h (by omega) (by subst_vars; decide) hE (RowsAt.ext y0 hokF (z2m ha.init)) evd evd (fun b t h => by cases h) (by exact rfl) (by exact rfl) (by exact rfl) (by exact rfl) (by exact rfl) rfl (by simp; omega) (by omega) ?_;intro u1 m1 G1 o1 hA1;have y1 : Ext (nx + 1) F m1 G1 := y0.trans ⟨hA1.le, fun i hi => hA1.same i hi (fun b t h => by cases h)⟩;have p1 := hA1.ok (fun b t h => by cases h) p0
   have h1' : ∀ b t, o1 = some (b, t) → nx + 1 ≤ b ∧ b < m1 := fun b t h => by
    obtain ⟨i1, i2⟩ := hA1.blk b t h;rcases i2 with rfl | ⟨t', h'⟩
    ·exact ⟨by omega, i1⟩
    ·cases h'
   refine OpsL.nil ⟨y1, ?_⟩;refine z0K ?_;refine z1b (bytes := 8) (z := [.int .i64 0]) z2g z3h (by omega) (by subst_vars; decide) hA1.own (RowsAt.ext y1 hokF (z2m ha.final)) evd evd (fun b t h => (h1' b t h).2) (by exact rfl) (by exact rfl) (by exact rfl) (by exact rfl) (by exact rfl) rfl (by simp; omega) (by omega) ?_;intro u2 m2 G2 o2 hA2;have y2 : Ext (nx + 1) F m2 G2 := ⟨by have := y1.1; have := hA2.le; omega, fun i hi => by rw [hA2.same i (by have := y1.1; omega) (fun b t h => by have := h1' b t h; omega), y1.2 i hi]⟩;refine OpsL.nil ⟨y2, ?_⟩;refine zcf ?_;exact ⟨rfl, _, m2, G2, u2, rfl, y2, by simpa using z0S (hA2.own.at z2g), stp, stp, stp, stp⟩
  ·rintro e st ⟨rfl, tm2, nx2, G2, v, rfl, x2, hv, e0, e3, e4, e5⟩
   clear e44;refine Trip.ok fun hok2 => ?_;replace hok2 : ∀ id o, G2 id = some o → id < nx2 := hok2;obtain ⟨va, vk, rfl⟩ := hv.slice;have hvl : (a.init ++ a.final).length ≤ 2000 := by rw [List.length_append]; omega
   refine z6y ?_;refine zu (fun (i : Nat) s => ∃ (tm : Nat → Value) (nx' : Nat) (H' : Heap), s = ⟨tm, n, H', nx'⟩ ∧ Ext nx2 G2 nx' H' ∧ tm 0 = lv ∧ tm 3 = .pointer (some ⟨nx, 0, none⟩) ∧ tm 4 = .int .i64 0 ∧ tm 5 = .slice va (a.init ++ a.final).length vk ∧ tm 6 = .int .i64 i ∧ i ≤ (a.init ++ a.final).length ∧ ((a.init ++ a.final).take i).all (stF a.N) = true) (fun i => (a.init ++ a.final).length - i) 0 ?_ ?_
   ·exact ⟨_, _, _, rfl, Ext.refl, stp, stp, stp, stp, stp, by omega, rfl⟩
   clear e0 e3 e4 e5;rintro i s ⟨tm, nx', H', rfl, hext, e0, e3, e4, e5, e6, hi, hall⟩
   repeat (first | (refine z7 (by first | exact omv | exact z6B | exact z1s) ?_) | refine Trip.seq ?_ | refine zd ?_ | refine Trip.block ?_ | refine z0t (fun _ => ?_) (fun _ => ?_) | (refine Trip.skip ?_; (change Trip _ _ _ _ _)) | (refine OpsL.nil ?_; (change Trip _ _ _ _ _)))
   ·have hlt : i < (a.init ++ a.final).length := by omega
    obtain ⟨q, rfl, hc⟩ := z0k hv hlt;replace hc := zm hext hok2 hc;have hB : H' nx = _ := ((x2.trans hext).2 nx (by omega)).trans hFn
    repeat fail
    refine Trip.mono (Q := fun e st => e = .normal ∧ ∃ (tm' : Nat → Value) (nx1 : Nat) (H1 : Heap), st = ⟨tm', n, H1, nx1⟩ ∧ Ext nx2 G2 nx1 H1 ∧ tm' 0 = lv ∧ tm' 3 = .pointer (some ⟨nx, 0, none⟩) ∧ tm' 4 = .int .i64 0 ∧ tm' 5 = .slice (some q) (a.init ++ a.final).length vk ∧ tm' 6 = .int .i64 i ∧ tm' 64 = .bool (!stF a.N (a.init ++ a.final)[i])) ?_ ?_
    ·refine OpsR.drawn [5] (K := fun n1 H1 => Ext nx' H' n1 H1) z0N krf krf [0, 1, 2, 3, 4, 5, 6] krf Ext.refl ?_
     refine zg1 ?_;refine z7 (za (k := 7) evd (by exact rfl) rfl (by exact rfl) (zx hB rfl)) ?_;refine z4f ?_;refine z9y ?_;refine zbb ?_;refine zg1 ?_;refine zaz ?_;refine z0K ?_;refine OpsL.c2 (hf := z1a) (hc := (z4i W0 _)) (h := ?_);rintro v nx1 H1 ⟨rfl, y1⟩;refine OpsL.nil ⟨y1, ?_⟩;refine zg1 ?_
     repeat (first | refine z7 (by exact z3R) ?_ | (refine OpsL.nil ?_; (skip)))
     refine OpsR.nil ?_;exact ⟨rfl, _, _, _, rfl, hext.trans y1, stp, stp, stp, stp, stp, stp⟩
    ·clear e0 e3 e4 e5 e6
     rintro e st ⟨rfl, tm1, nx1, H1, rfl, hext1, e0, e3, e4, e5, e6, e64⟩;cases hs : stF a.N (a.init ++ a.final)[i]
     ·rw [hs] at e64
      repeat fail
      refine zg5 ?_;exact ⟨.inr rfl, _, zh, by rw [z7T (z1v hlt hs)]; rfl, (hx0.trans x2).trans hext1⟩
     ·rw [hs] at e64
      repeat fail
      refine zg2 ?_;exact ⟨i + 1, ⟨_, _, _, rfl, hext1, stp, stp, stp, stp, stp, by omega, z2h hlt hall hs⟩, by omega⟩
   have hi2 : i = (a.init ++ a.final).length := by omega
   subst hi2;rw [List.take_length] at hall;have hAll := hall;clear hall hi;have x3 := x2.trans hext;clear hext hok2 hv e5 e6 x2;refine zgf ?_;refine zu (fun (i : Nat) s => ∃ (tm : Nat → Value) (nx' : Nat) (H' : Heap), s = ⟨tm, n, H', nx'⟩ ∧ Ext (nx + 1) F nx' H' ∧ tm 0 = lv ∧ tm 3 = .pointer (some ⟨nx, 0, none⟩) ∧ tm 4 = .int .i64 0 ∧ tm 7 = .int .i64 i ∧ i ≤ a.opens.length ∧ (a.opens.take i).all (okO ss a) = true) (fun i => a.opens.length - i) 0 ?_ ?_
   ·exact ⟨_, _, _, rfl, x3, stp, stp, stp, stp, by omega, rfl⟩
   clear e0 e3 e4 x3;rintro i s ⟨tm, nx', H', rfl, hext, e0, e3, e4, e5, hi, hall⟩;have gl := zm hext hokF g4;refine Trip.ok fun hok' => ?_;replace hok' : ∀ id o, H' id = some o → id < nx' := hok'
   repeat (first | (refine z7 (by first | exact omv | exact z6B | exact z1s | exact ofa | exact old) ?_) | refine Trip.seq ?_ | refine zd ?_ | refine Trip.block ?_ | refine z0t (fun _ => ?_) (fun _ => ?_) | (refine Trip.skip ?_; (change Trip _ _ _ _ _)) | (refine OpsL.nil ?_; (change Trip _ _ _ _ _)))
   ·have hlt : i < a.opens.length := by omega
    obtain ⟨q, hq, hc⟩ := z01 ha.opens hlt;rw [hq] at gl;replace hc := z0W hext hokF hc;refine z6E ?_;refine z7 (za (k := 4) evr (by exact rfl) rfl (by exact rfl) hc) ?_;refine OpsL.new (by subst_vars; decide) (zw (l := rep 4 [.int .i64 0]) (by exact rfl)) ?_;refine OpsL.upd (zp (k := 4) evr evr (by exact rfl) rfl (o := .cells (Go.Am.e4 a.opens[i]) 0 none false (some 43)) (by simp [z3Q, Heap.put, Value.cells, Go.Am.e4, rep, Value.oneCell'])) ?_;obtain ⟨G, hG⟩ : ∃ G, G = (H'.put nx' (.cells (rep 4 [.int .i64 0]) 0 none false (some 43))).put nx' (.cells (Go.Am.e4 a.opens[i]) 0 none false (some 43)) := ⟨_, rfl⟩;have y1 : Ext (nx + 1) F (nx' + 1) G := hext.trans (by rw [hG]; exact zg.put (Nat.le_refl _));have hGn : G nx' = some (.cells (Go.Am.e4 a.opens[i]) 0 none false (some 43)) := by rw [hG, z6]
    have hokG : ∀ id o, G id = some o → id < nx' + 1 := fun id o h => by
     by_cases c : id = nx'
     ·omega
     ·rw [hG, z5 c, z5 c] at h
      have := hok' id o h;omega
    change OpsL _ _ _ _ (ASt.mk _ _ ((H'.put nx' (.cells (rep 4 [.int .i64 0]) 0 none false (some 43))).put nx' (.cells (Go.Am.e4 a.opens[i]) 0 none false (some 43))) _) _;rw [← hG];clear hG hok';have hB0 : G nx = _ := (y1.2 nx (by omega)).trans hFn;have d00 : zb G ⟨nx', 0, none⟩ (.int .i64 a.opens[i].1) := zm Ext.refl hokG (z8 hGn rfl);refine zdz ?_;refine z7 (za (k := 7) evd (by exact rfl) rfl (by exact rfl) (zx hB0 rfl)) ?_;refine zcn ?_;refine OpsL.c2 (hf := z1a) (hc := (z4i W0 _)) (h := ?_);rintro v nx1 H1 ⟨rfl, z1⟩;cases hs1 : stF a.N a.opens[i].1
    ·repeat (first | (refine z7 (by first | exact omv | exact z3R | exact z2q) ?_) | (refine OpsL.nil ?_; (change Trip _ _ _ _ _)) | refine zF ?_)
     refine zg5 ?_;exact ⟨.inr rfl, _, zh, by rw [z24 (z1v hlt (by simp [okO, hs1]))]; rfl, hx0.trans (y1.trans z1)⟩
    have hB1 : H1 nx = _ := ((y1.trans z1).2 nx (by omega)).trans hFn;have d12 : zb H1 ⟨nx', 2, none⟩ (.int .i64 a.opens[i].2.2.1) := zm z1 hokG (z8 hGn rfl)
    repeat (first | (refine z7 (by first | exact omv | exact z3R) ?_) | refine zj ?_)
    refine z7 (za (k := 7) evd (by exact rfl) rfl (by exact rfl) (zx hB1 rfl)) ?_
    repeat (first | (refine z7 (by first | exact ofa | exact old) ?_) | refine zj ?_)
    refine OpsL.c2 (hf := z1a) (hc := (z4i W0 _)) (h := ?_);rintro v nx2 H2 ⟨rfl, z2⟩;replace z2 := z1.trans z2;cases hs2 : stF a.N a.opens[i].2.2.1
    ·repeat (first | (refine z7 (by first | exact omv | exact z3R | exact z2q | exact z27) ?_) | (refine OpsL.nil ?_; (change Trip _ _ _ _ _)) | refine zj ?_ | refine zF ?_)
     refine zg5 ?_;exact ⟨.inr rfl, _, zh, by rw [z24 (z1v hlt (by simp [okO, hs2]))]; rfl, hx0.trans (y1.trans z2)⟩
    have d21 : zb H2 ⟨nx', 1, none⟩ (.int .i64 a.opens[i].2.1) := zm z2 hokG (z8 hGn rfl);have d22 : zb H2 ⟨nx', 2, none⟩ (.int .i64 a.opens[i].2.2.1) := zm z2 hokG (z8 hGn rfl);have d23 : zb H2 ⟨nx', 3, none⟩ (.int .i64 a.opens[i].2.2.2) := zm z2 hokG (z8 hGn rfl);have dG := zm (y1.trans z2) hokF g1;refine zfr ?_;refine z1p (hf := z4n) (hc := (zcu W0 _ _ (hl.ext (y1.trans z2) hokF) hss)) (h := ?_);rintro v nx3 H3 ⟨rfl, rfl, rfl⟩;cases hs3 : kdF ss a.opens[i].2.1 1
    ·repeat (first | (refine z7 (by first | exact omv | exact z3R | exact z2q | exact z27) ?_) | (refine OpsL.nil ?_; (change Trip _ _ _ _ _)) | refine zj ?_ | refine zF ?_)
     refine zg5 ?_;exact ⟨.inr rfl, _, zh, by rw [z24 (z1v hlt (by simp [okO, hs3]))]; rfl, hx0.trans (y1.trans z2)⟩
    repeat (first | (refine z7 (by first | exact omv | exact old | exact ofa | exact z3R | exact z27) ?_) | refine zj ?_)
    by_cases h1 : a.opens[i].2.2.2 < 1
    ·refine z0c ?_ (c := h1)
     refine zgc ?_;refine zg5 ?_;exact ⟨.inr rfl, _, zh, by rw [z24 (z1v hlt (by simp [okO, btF]; omega))]; rfl, hx0.trans (y1.trans z2)⟩
    refine z17 ?_ (c := h1);refine zfp ?_;by_cases h2 : a.G < a.opens[i].2.2.2
    ·refine z1G ?_ (c := h2)
     refine zfd ?_;refine zg5 ?_;exact ⟨.inr rfl, _, zh, by rw [z24 (z1v hlt (by simp [okO, btF]; omega))]; rfl, hx0.trans (y1.trans z2)⟩
    refine z18 ?_ (c := h2)
    have hokE : okO ss a a.opens[i] = true := by
     simp [okO, btF, hs1, hs2, hs3];omega
    refine zfd ?_;refine zg2 ?_;exact ⟨i + 1, ⟨_, _, _, rfl, y1.trans z2, stp, stp, stp, stp, by omega, z2h hlt hall hokE⟩, by omega⟩
   have hi2 : i = a.opens.length := by omega
   subst hi2;rw [List.take_length] at hall;have hAll2 := hall;have x4 := hext;clear hall hi hext e5 gl;refine zgf ?_;refine zu (fun (i : Nat) s => ∃ (tm : Nat → Value) (nx' : Nat) (H' : Heap), s = ⟨tm, n, H', nx'⟩ ∧ Ext (nx + 1) F nx' H' ∧ tm 0 = lv ∧ tm 3 = .pointer (some ⟨nx, 0, none⟩) ∧ tm 4 = .int .i64 0 ∧ tm 9 = .int .i64 i ∧ i ≤ a.closes.length ∧ (a.closes.take i).all (okC ss a) = true) (fun i => a.closes.length - i) 0 ?_ ?_
   ·exact ⟨_, _, _, rfl, x4, stp, stp, stp, stp, by omega, rfl⟩
   clear e0 e3 e4 x4;rintro i s ⟨tm, nx', H', rfl, hext, e0, e3, e4, e5, hi, hall⟩;have gl := zm hext hokF g5;refine Trip.ok fun hok' => ?_;replace hok' : ∀ id o, H' id = some o → id < nx' := hok'
   repeat (first | (refine z7 (by first | exact omv | exact z6B | exact z1s | exact ofa | exact old) ?_) | refine Trip.seq ?_ | refine zd ?_ | refine Trip.block ?_ | refine z0t (fun _ => ?_) (fun _ => ?_) | (refine Trip.skip ?_; (change Trip _ _ _ _ _)) | (refine OpsL.nil ?_; (change Trip _ _ _ _ _)))
   ·have hlt : i < a.closes.length := by omega
    obtain ⟨q, hq, hc⟩ := z01 ha.closes hlt;rw [hq] at gl;replace hc := z0W hext hokF hc;refine z6E ?_;refine z7 (za (k := 4) evr (by exact rfl) rfl (by exact rfl) hc) ?_;refine OpsL.new (by subst_vars; decide) (zw (l := rep 4 [.int .i64 0]) (by exact rfl)) ?_;refine OpsL.upd (zp (k := 4) evr evr (by exact rfl) rfl (o := .cells (Go.Am.e4 a.closes[i]) 0 none false (some 45)) (by simp [z3Q, Heap.put, Value.cells, Go.Am.e4, rep, Value.oneCell'])) ?_;obtain ⟨G, hG⟩ : ∃ G, G = (H'.put nx' (.cells (rep 4 [.int .i64 0]) 0 none false (some 45))).put nx' (.cells (Go.Am.e4 a.closes[i]) 0 none false (some 45)) := ⟨_, rfl⟩;have y1 : Ext (nx + 1) F (nx' + 1) G := hext.trans (by rw [hG]; exact zg.put (Nat.le_refl _));have hGn : G nx' = some (.cells (Go.Am.e4 a.closes[i]) 0 none false (some 45)) := by rw [hG, z6]
    have hokG : ∀ id o, G id = some o → id < nx' + 1 := fun id o h => by
     by_cases c : id = nx'
     ·omega
     ·rw [hG, z5 c, z5 c] at h
      have := hok' id o h;omega
    change OpsL _ _ _ _ (ASt.mk _ _ ((H'.put nx' (.cells (rep 4 [.int .i64 0]) 0 none false (some 45))).put nx' (.cells (Go.Am.e4 a.closes[i]) 0 none false (some 45))) _) _;rw [← hG];clear hG hok';have hB0 : G nx = _ := (y1.2 nx (by omega)).trans hFn;have d00 : zb G ⟨nx', 0, none⟩ (.int .i64 a.closes[i].1) := zm Ext.refl hokG (z8 hGn rfl);refine zdz ?_;refine z7 (za (k := 7) evd (by exact rfl) rfl (by exact rfl) (zx hB0 rfl)) ?_;refine zcn ?_;refine OpsL.c2 (hf := z1a) (hc := (z4i W0 _)) (h := ?_);rintro v nx1 H1 ⟨rfl, z1⟩;cases hs1 : stF a.N a.closes[i].1
    ·repeat (first | (refine z7 (by first | exact omv | exact z3R | exact z2q) ?_) | (refine OpsL.nil ?_; (change Trip _ _ _ _ _)) | refine zF ?_)
     refine zg5 ?_;exact ⟨.inr rfl, _, zh, by rw [z1H (z1v hlt (by simp [okC, hs1]))]; rfl, hx0.trans (y1.trans z1)⟩
    have hB1 : H1 nx = _ := ((y1.trans z1).2 nx (by omega)).trans hFn;have d13 : zb H1 ⟨nx', 3, none⟩ (.int .i64 a.closes[i].2.2.2) := zm z1 hokG (z8 hGn rfl)
    repeat (first | (refine z7 (by first | exact omv | exact z3R) ?_) | refine zj ?_)
    refine z7 (za (k := 7) evd (by exact rfl) rfl (by exact rfl) (zx hB1 rfl)) ?_
    repeat (first | (refine z7 (by first | exact ofa | exact old) ?_) | refine zj ?_)
    refine OpsL.c2 (hf := z1a) (hc := (z4i W0 _)) (h := ?_);rintro v nx2 H2 ⟨rfl, z2⟩;replace z2 := z1.trans z2;cases hs2 : stF a.N a.closes[i].2.2.2
    ·repeat (first | (refine z7 (by first | exact omv | exact z3R | exact z2q | exact z27) ?_) | (refine OpsL.nil ?_; (change Trip _ _ _ _ _)) | refine zj ?_ | refine zF ?_)
     refine zg5 ?_;exact ⟨.inr rfl, _, zh, by rw [z1H (z1v hlt (by simp [okC, hs2]))]; rfl, hx0.trans (y1.trans z2)⟩
    have d21 : zb H2 ⟨nx', 1, none⟩ (.int .i64 a.closes[i].2.1) := zm z2 hokG (z8 hGn rfl);have d22 : zb H2 ⟨nx', 2, none⟩ (.int .i64 a.closes[i].2.2.1) := zm z2 hokG (z8 hGn rfl);have d23 : zb H2 ⟨nx', 3, none⟩ (.int .i64 a.closes[i].2.2.2) := zm z2 hokG (z8 hGn rfl);have dG := zm (y1.trans z2) hokF g1;refine zfr ?_;refine z1p (hf := z4n) (hc := (zcu W0 _ _ (hl.ext (y1.trans z2) hokF) hss)) (h := ?_);rintro v nx3 H3 ⟨rfl, rfl, rfl⟩;cases hs3 : kdF ss a.closes[i].2.1 2
    ·repeat (first | (refine z7 (by first | exact omv | exact z3R | exact z2q | exact z27) ?_) | (refine OpsL.nil ?_; (change Trip _ _ _ _ _)) | refine zj ?_ | refine zF ?_)
     refine zg5 ?_;exact ⟨.inr rfl, _, zh, by rw [z1H (z1v hlt (by simp [okC, hs3]))]; rfl, hx0.trans (y1.trans z2)⟩
    repeat (first | (refine z7 (by first | exact omv | exact old | exact ofa | exact z3R | exact z27) ?_) | refine zj ?_)
    by_cases h1 : a.closes[i].2.2.1 < 0
    ·refine z0c ?_ (c := h1)
     refine zgc ?_;refine zg5 ?_;exact ⟨.inr rfl, _, zh, by rw [z1H (z1v hlt (by simp [okC, btF]; omega))]; rfl, hx0.trans (y1.trans z2)⟩
    refine z17 ?_ (c := h1);refine zfp ?_;by_cases h2 : a.G < a.closes[i].2.2.1
    ·refine z1G ?_ (c := h2)
     refine zfd ?_;refine zg5 ?_;exact ⟨.inr rfl, _, zh, by rw [z1H (z1v hlt (by simp [okC, btF]; omega))]; rfl, hx0.trans (y1.trans z2)⟩
    refine z18 ?_ (c := h2)
    have hokE : okC ss a a.closes[i] = true := by
     simp [okC, btF, hs1, hs2, hs3];omega
    refine zfd ?_;refine zg2 ?_;exact ⟨i + 1, ⟨_, _, _, rfl, y1.trans z2, stp, stp, stp, stp, by omega, z2h hlt hall hokE⟩, by omega⟩
   have hi2 : i = a.closes.length := by omega
   subst hi2;rw [List.take_length] at hall;have hAll3 := hall;have x5 := hext;clear hall hi hext e5 gl;refine zgf ?_;refine zu (fun (i : Nat) s => ∃ (tm : Nat → Value) (nx' : Nat) (H' : Heap), s = ⟨tm, n, H', nx'⟩ ∧ Ext (nx + 1) F nx' H' ∧ tm 0 = lv ∧ tm 3 = .pointer (some ⟨nx, 0, none⟩) ∧ tm 4 = .int .i64 0 ∧ tm 11 = .int .i64 i ∧ i ≤ a.inners.length ∧ (a.inners.take i).all (okI ss a) = true) (fun i => a.inners.length - i) 0 ?_ ?_
   ·exact ⟨_, _, _, rfl, x5, stp, stp, stp, stp, by omega, rfl⟩
   clear e0 e3 e4 x5;rintro i s ⟨tm, nx', H', rfl, hext, e0, e3, e4, e5, hi, hall⟩;have gl := zm hext hokF g6;refine Trip.ok fun hok' => ?_;replace hok' : ∀ id o, H' id = some o → id < nx' := hok'
   repeat (first | (refine z7 (by first | exact omv | exact z6B | exact z1s | exact ofa | exact old) ?_) | refine Trip.seq ?_ | refine zd ?_ | refine Trip.block ?_ | refine z0t (fun _ => ?_) (fun _ => ?_) | (refine Trip.skip ?_; (change Trip _ _ _ _ _)) | (refine OpsL.nil ?_; (change Trip _ _ _ _ _)))
   ·have hlt : i < a.inners.length := by omega
    obtain ⟨q, hq, hc⟩ := z01 ha.inners hlt;rw [hq] at gl;replace hc := z0W hext hokF hc;refine z6E ?_;refine z7 (za (k := 3) evr (by exact rfl) rfl (by exact rfl) hc) ?_;refine OpsL.new (by subst_vars; decide) (zw (l := rep 3 [.int .i64 0]) (by exact rfl)) ?_;refine OpsL.upd (zp (k := 3) evr evr (by exact rfl) rfl (o := .cells (Go.Am.e3 a.inners[i]) 0 none false (some 51)) (by simp [z3Q, Heap.put, Value.cells, Go.Am.e3, rep, Value.oneCell'])) ?_;obtain ⟨G, hG⟩ : ∃ G, G = (H'.put nx' (.cells (rep 3 [.int .i64 0]) 0 none false (some 51))).put nx' (.cells (Go.Am.e3 a.inners[i]) 0 none false (some 51)) := ⟨_, rfl⟩;have y1 : Ext (nx + 1) F (nx' + 1) G := hext.trans (by rw [hG]; exact zg.put (Nat.le_refl _));have hGn : G nx' = some (.cells (Go.Am.e3 a.inners[i]) 0 none false (some 51)) := by rw [hG, z6]
    have hokG : ∀ id o, G id = some o → id < nx' + 1 := fun id o h => by
     by_cases c : id = nx'
     ·omega
     ·rw [hG, z5 c, z5 c] at h
      have := hok' id o h;omega
    change OpsL _ _ _ _ (ASt.mk _ _ ((H'.put nx' (.cells (rep 3 [.int .i64 0]) 0 none false (some 51))).put nx' (.cells (Go.Am.e3 a.inners[i]) 0 none false (some 51))) _) _;rw [← hG];clear hG hok';have hB0 : G nx = _ := (y1.2 nx (by omega)).trans hFn;have d00 : zb G ⟨nx', 0, none⟩ (.int .i64 a.inners[i].1) := zm Ext.refl hokG (z8 hGn rfl);refine zdz ?_;refine z7 (za (k := 7) evd (by exact rfl) rfl (by exact rfl) (zx hB0 rfl)) ?_;refine zcn ?_;refine OpsL.c2 (hf := z1a) (hc := (z4i W0 _)) (h := ?_);rintro v nx1 H1 ⟨rfl, z1⟩;cases hs1 : stF a.N a.inners[i].1
    ·repeat (first | (refine z7 (by first | exact omv | exact z3R | exact z2q) ?_) | (refine OpsL.nil ?_; (change Trip _ _ _ _ _)) | refine zF ?_)
     refine zg5 ?_;exact ⟨.inr rfl, _, zh, by rw [z3t (z1v hlt (by simp [okI, hs1]))]; rfl, hx0.trans (y1.trans z1)⟩
    have hB1 : H1 nx = _ := ((y1.trans z1).2 nx (by omega)).trans hFn;have d12 : zb H1 ⟨nx', 2, none⟩ (.int .i64 a.inners[i].2.2) := zm z1 hokG (z8 hGn rfl)
    repeat (first | (refine z7 (by first | exact omv | exact z3R) ?_) | refine zj ?_)
    refine z7 (za (k := 7) evd (by exact rfl) rfl (by exact rfl) (zx hB1 rfl)) ?_
    repeat (first | (refine z7 (by first | exact ofa | exact old) ?_) | refine zj ?_)
    refine OpsL.c2 (hf := z1a) (hc := (z4i W0 _)) (h := ?_);rintro v nx2 H2 ⟨rfl, z2⟩;replace z2 := z1.trans z2;cases hs2 : stF a.N a.inners[i].2.2
    ·repeat (first | (refine z7 (by first | exact omv | exact z3R | exact z2q | exact z27) ?_) | (refine OpsL.nil ?_; (change Trip _ _ _ _ _)) | refine zj ?_ | refine zF ?_)
     refine zg5 ?_;exact ⟨.inr rfl, _, zh, by rw [z3t (z1v hlt (by simp [okI, hs2]))]; rfl, hx0.trans (y1.trans z2)⟩
    have d21 : zb H2 ⟨nx', 1, none⟩ (.int .i64 a.inners[i].2.1) := zm z2 hokG (z8 hGn rfl);have d22 : zb H2 ⟨nx', 2, none⟩ (.int .i64 a.inners[i].2.2) := zm z2 hokG (z8 hGn rfl);have dG := zm (y1.trans z2) hokF g1;refine zfr ?_;refine z1p (hf := z4n) (hc := (zcu W0 _ _ (hl.ext (y1.trans z2) hokF) hss)) (h := ?_);rintro v nx3 H3 ⟨rfl, rfl, rfl⟩;cases hs3 : kdF ss a.inners[i].2.1 3
    ·repeat (first | (refine z7 (by first | exact z3R | exact z27) ?_) | (refine OpsL.nil ?_; (change Trip _ _ _ _ _)) | refine zj ?_)
     refine zg5 ?_;exact ⟨.inr rfl, _, zh, by rw [z3t (z1v hlt (by simp [okI, hs3]))]; rfl, hx0.trans (y1.trans z2)⟩
    have hokE : okI ss a a.inners[i] = true := by simp [okI, hs1, hs2, hs3]
    repeat (first | (refine z7 (by first | exact z3R | exact z27) ?_) | (refine OpsL.nil ?_; (change Trip _ _ _ _ _)) | refine zj ?_)
    refine zg2 ?_;exact ⟨i + 1, ⟨_, _, _, rfl, y1.trans z2, stp, stp, stp, stp, by omega, z2h hlt hall hokE⟩, by omega⟩
   have hi2 : i = a.inners.length := by omega
   subst hi2;rw [List.take_length] at hall;refine zhB ?_;exact ⟨.inr rfl, _, zh, by rw [zbY hz hAll hAll2 hAll3 hall]; rfl, hx0.trans hext⟩
end Go.Proofs.YteplpegfcpmflaaGreat
