import Derived.Test.YteplpegfcpmflaaGreatQKM14
set_option linter.unusedSimpArgs false
set_option linter.unusedVariables false
set_option maxRecDepth 100000
set_option maxHeartbeats 32000000
namespace Go.Am
open Go.RowKit
theorem zio {P : Program} {W0 : World} {f : FuncId} {r : Bool} {R : Nat → Heap → Prop}
  (h : ∀ w, ACalls P w f [] NG (z2z []).get fun v nx' H' => v = .bool r ∧ R nx' H') (nx : Nat) (H : Heap) : ACalls P W0 f [] nx H fun v nx' H' => v = .bool r ∧ nx' = nx ∧ H' = H := by
 intro C w args' hR hargs
 have hargs' : args' = [] := by
  have := hargs.1;simpa using this.symm
 subst hargs';refine (h w (z3v w) w [] (z86 Tabs.nil (BelD.refl _ _)) ⟨rfl, fun i p _ => by simp at p⟩).mono ?_;rintro e w' ⟨v, v', C', nx', H', rfl, ⟨rfl, _⟩, hR', hv, hS⟩;have hv' : v' = .bool r := by cases hv; rfl
 subst hv';exact ⟨_, _, C, nx, H, rfl, ⟨rfl, rfl, rfl⟩, hR.world (hR.below.trans (hR'.below.mono hR.below.size)) (fun k hk => hR'.below.block k hk), .bool r, Stp.refl _ _ _⟩
end Go.Am
namespace Go.Proofs.YteplpegfcpmflaaGreat
open Go.RowKit Go.Am
attribute [local irreducible] aop OpsL Trip zI z2w OpsK OpsR
def A0 : Aut := ⟨2, 1, [0], [1], [(0, 0, 0, 1)], [(0, 1, 1, 1)], []⟩
def E0 : Aut := ⟨0, 0, [], [], [], [], []⟩
def B0 : Aut := ⟨1, 0, [], [1], [], [], []⟩
theorem zgq (t : Thg) : ReachT A0 t ↔ t ∈ [((1, 0) : Thg), (0, 0), (1, 1), (0, 1)] := by
 have h00 : ReachT A0 (0, 0) := .init (by simp [A0]);have m1 : ((0, 0, 0, 1) : R4) ∈ z02 A0 := by simp [z02, A0, z0Y, z1D]
 have m2 : ((0, 1, 1, 0) : R4) ∈ z02 A0 := by simp [z02, A0, z0Y, z1D]
 have h11 : ReachT A0 (1, 1) := .step m1 (fun u hu => by
  simp only [z01, List.mem_cons, List.not_mem_nil, or_false] at hu;rcases hu with rfl | rfl
  ·exact h00
  ·exact .bot) (by simp [z0m])
 have h01 : ReachT A0 (0, 1) := .step m2 (fun u hu => by
  simp only [z01, List.mem_cons, List.not_mem_nil, or_false] at hu;rcases hu with rfl | rfl
  ·exact h00
  ·exact h11) (by simp [z0m])
 constructor
 ·intro h;cases h with
  | bot => simp
  | init hs => simp only [A0, List.mem_singleton] at hs; subst hs; simp
  | step hm _ hg =>
   simp only [z02, A0, List.map_cons, List.map_nil, List.append_nil, List.cons_append, List.nil_append, List.mem_cons, List.not_mem_nil, or_false, z0Y, z1D] at hm;rcases hm with rfl | rfl
   ·simp only [z0m, List.mem_cons, List.not_mem_nil, or_false] at hg;rcases hg with rfl | rfl
    ·simp
    ·simp
   ·simp only [z0m, List.mem_cons, List.not_mem_nil, or_false] at hg;rcases hg with rfl | rfl
    ·simp
    ·simp
 ·intro h;simp only [List.mem_cons, List.not_mem_nil, or_false] at h;rcases h with rfl | rfl | rfl | rfl
  ·exact .bot
  ·exact h00
  ·exact h11
  ·exact h01
theorem zfC {L : List Int} {k : Int} (hk : k = 0 ∨ k = 1) (h : z1k A0 k L) : L = [0, 1] := by
 refine z4x z9L _ _ h.1 (by simp [z0O, lt1]) fun x => ?_;rw [h.2 x, zgq];rcases hk with rfl | rfl
 ·simp
 ·simp
theorem zhB {L : List Int} (h : z1k E0 0 L) : L = [] := by
 refine List.eq_nil_iff_forall_not_mem.2 fun x hx => ?_;have := (h.2 x).1 hx;cases this with
 | init hs => cases hs
 | step hm _ _ => simp [z02, E0] at hm
theorem z6B : Am.z0U Tryz.prog 6 := ⟨Tryz.f6, Tryz.func6, by kernel_rfl, by kernel_rfl⟩
theorem z8O {α : Type} {enc : α → List Value} {sz : Nat} {H : Heap} {b e : Nat} {q : Option TypeId} {x : α} (hk : (enc x).length = sz) (h : H b = some (.cells (enc x) e none false q)) : RowsAt enc sz H (.slice (some ⟨b, 0, none⟩) 1 1) [x] := by
 refine .inr ⟨⟨b, 0, none⟩, 1, rfl, fun j hj => ?_⟩;have : j = 0 := by simpa using hj
 subst this;unfold z0M;simp only [h];rw [if_pos ⟨trivial, zom⟩, Nat.zero_mul, Nat.zero_add, List.drop_zero, List.take_of_length_le zom];rfl
theorem z4n {α : Type} {enc : α → List Value} {sz : Nat} {H : Heap} : RowsAt enc sz H (.slice none 0 0) ([] : List α) := .inl ⟨0, rfl, rfl⟩
def VA (b : Nat) : List Value := zy A0 (.slice (some ⟨b, 0, none⟩) 1 1) (.slice (some ⟨b + 1, 0, none⟩) 1 1) (.slice (some ⟨b + 2, 0, none⟩) 1 1) (.slice (some ⟨b + 3, 0, none⟩) 1 1) (.slice none 0 0)
def VE : List Value := zy E0 (.slice none 0 0) (.slice none 0 0) (.slice none 0 0) (.slice none 0 0) (.slice none 0 0)
theorem zhE (W0 : World) : ACalls Tryz.prog W0 6 [] NG (z2z []).get fun v _ _ => v = .bool true ∧ True := by
 generalize (z2z []).get = H at *;generalize NG = nx at *;refine zl (fn := Tryz.f6) (c := _) Tryz.func6 rfl (fun tm n hn0 htm => ?_);clear htm;replace hn0 : n = 61 := hn0;refine Trip.ok fun hok => ?_;replace hok : ∀ id o, H id = some o → id < nx := hok;refine z8v ?_;refine OpsL.c2 (hf := z7p) (hc := (zh7 W0 (ns := []) (.inl ⟨0, rfl, rfl⟩)).ok) (h := ?_);rintro lv b H1 ⟨⟨hl, x1⟩, k1⟩;have hss : z4M 0 [] = [(⟨#[97]⟩, 1), (⟨#[97]⟩, 2), (⟨#[98]⟩, 3)] := by kernel_rfl
 rw [hss] at hl;have hs3 : ([(⟨#[97]⟩, 1), (⟨#[97]⟩, 2), (⟨#[98]⟩, 3)] : List (ByteArray × Int)).length ≤ 1000 := by decide
 clear hss;refine z8v ?_;refine OpsL.new zsd (zq (l := [(0, .int .i64 0)]) (r := (.slice (some ⟨b, 0, none⟩) 1 1, .new (.cells (z9Q 0) 1 none false (some 3)))) zep krf) ?_;refine OpsL.new zsd (zq (l := [(0, .int .i64 1)]) (r := (.slice (some ⟨b + 1, 0, none⟩) 1 1, .new (.cells (z9Q 1) 1 none false (some 3)))) zep krf) ?_;refine zd (zE (v := .agg (Go.Am.e4 (0, 0, 0, 1)).toArray) (l := [(0, .int .i64 0), (1, .int .i64 0), (2, .int .i64 0), (3, .int .i64 1)]) zep krf) ?_;refine OpsL.new zsd (zq (l := [(0, .agg (Go.Am.e4 (0, 0, 0, 1)).toArray)]) (r := (.slice (some ⟨b + 1 + 1, 0, none⟩) 1 1, .new (.cells (Go.Am.e4 (0, 0, 0, 1)) 4 none false (some 43)))) zep krf) ?_;refine zd (zE (v := .agg (Go.Am.e4 (0, 1, 1, 1)).toArray) (l := [(0, .int .i64 0), (1, .int .i64 1), (2, .int .i64 1), (3, .int .i64 1)]) zep krf) ?_;refine OpsL.new zsd (zq (l := [(0, .agg (Go.Am.e4 (0, 1, 1, 1)).toArray)]) (r := (.slice (some ⟨b + 1 + 1 + 1, 0, none⟩) 1 1, .new (.cells (Go.Am.e4 (0, 1, 1, 1)) 4 none false (some 45)))) zep krf) ?_;refine zd (zE (v := .agg (VA b).toArray) (l := [(0, .int .i64 2), (1, .int .i64 1), (2, .slice (some ⟨b, 0, none⟩) 1 1), (3, .slice (some ⟨b + 1, 0, none⟩) 1 1), (4, .slice (some ⟨b + 1 + 1, 0, none⟩) 1 1), (5, .slice (some ⟨b + 1 + 1 + 1, 0, none⟩) 1 1)]) zep krf) ?_;refine OpsL.new zsd (zB (l := z2j) krf) ?_;refine OpsL.upd (zw (k := 7) (u := .agg (VA b).toArray) evd evd zxr rfl (o := .cells (VA b) 0 none false (some 30)) (zC (vs := VA b) zb rfl rfl)) ?_;obtain ⟨G, hG⟩ : ∃ Q, Q = (((((H1.put b (.cells (z9Q 0) 1 none false (some 3))).put (b + 1) (.cells (z9Q 1) 1 none false (some 3))).put (b + 1 + 1) (.cells (Go.Am.e4 (0, 0, 0, 1)) 4 none false (some 43))).put (b + 1 + 1 + 1) (.cells (Go.Am.e4 (0, 1, 1, 1)) 4 none false (some 45))).put (b + 1 + 1 + 1 + 1) (.cells z2j 0 none false (some 30))).put (b + 1 + 1 + 1 + 1) (.cells (VA b) 0 none false (some 30)) := ⟨_, rfl⟩;obtain ⟨m, hm⟩ : ∃ q, b + 1 + 1 + 1 + 1 + 1 = q := ⟨_, rfl⟩;have kG : ∀ id o, G id = some o → id < m := by rw [hG, ← hm]; exact zU (zF (zF (zF (zF (zF k1))))) zb
 have gA : G (b + 1 + 1 + 1 + 1) = some (.cells (VA b) 0 none false (some 30)) := by rw [hG, zb]
 have hx : Ext b H1 m G := ⟨zom, fun j hj => by rw [hG, za zom, za zom, za zom, za zom, za zom, za zom]⟩
 have hA : AutIn G A0 (.slice (some ⟨b, 0, none⟩) 1 1) (.slice (some ⟨b + 1, 0, none⟩) 1 1) (.slice (some ⟨b + 2, 0, none⟩) 1 1) (.slice (some ⟨b + 3, 0, none⟩) 1 1) (.slice none 0 0) :=
  ⟨z1s (z8O rfl (by rw [hG, za zom, za zom, za zom, za zom, za zom, zb])), z1s (z8O rfl (by rw [hG, za zom, za zom, za zom, za zom, zb])), z8O rfl (by rw [hG, za zom, za zom, za zom, zb]), z8O rfl (by rw [hG, za zom, za zom, zb]), z4n⟩
 rw [← hG]
 first | dsimp only | skip
 rw [hm];obtain ⟨p, hp⟩ : ∃ q, b + 1 + 1 + 1 + 1 = q := ⟨_, rfl⟩;rw [hp] at gA ⊢;have hpm : p < m := by omega
 have hl1 := hl.ext hx k1;have nA : AutLen A0 := ⟨by decide, by decide, by decide, by decide, by decide⟩;have nE : AutLen E0 := ⟨by decide, by decide, by decide, by decide, by decide⟩;have nB : AutLen B0 := ⟨by decide, by decide, by decide, by decide, by decide⟩;have fA : zba A0 := .inl ⟨by decide, by decide⟩;have fE : zba E0 := .inr ⟨fun s h => (by cases h), fun m h => (by simp [z02, E0] at h)⟩;clear hG hm hp hl hx x1 k1;refine z7A ?_;refine zd (zg (k := 7) (vs := VA b) evd zxr rfl zxr (zG gA rfl)) ?_;refine OpsL.c2 (hf := z5r) (hc := (z7O W0 hA nA fA).ok) (h := ?_);rintro u m2 H2 ⟨⟨L0, L1, l2, wi, wf, wo, wc, wn, h20, h21, rfl, hT, x2⟩, k2⟩;have eL0 := zfC (.inl rfl) h20;have eL1 := zfC (.inr rfl) h21;subst eL0; subst eL1;have hTI := hT.in;have hone := z8N hTI;clear hT h20 h21;have hTN : (zR (z0b A0 [0, 1] [0, 1])).N = 2 := by kernel_rfl
 have hTO : (zR (z0b A0 [0, 1] [0, 1])).opens.length = 1 := by kernel_rfl
 generalize zR (z0b A0 [0, 1] [0, 1]) = T at *;have g2 := (x2.2 p hpm).trans gA;refine OpsL.new zsd (zB (l := z2j) krf) ?_;refine OpsL.upd (zw (k := 7) (u := .agg (zy T wi wf wo wc wn).toArray) evd evd zxr rfl (o := .cells (zy T wi wf wo wc wn) 0 none false (some 30)) (zC (vs := zy T wi wf wo wc wn) zb rfl hone)) ?_;obtain ⟨G3, hG3⟩ : ∃ G0, G0 = (H2.put m2 (.cells z2j 0 none false (some 30))).put m2 (.cells (zy T wi wf wo wc wn) 0 none false (some 30)) := ⟨_, rfl⟩;have x3 : Ext m2 H2 (m2 + 1) G3 := ⟨Nat.le_succ _, fun j hj => by rw [hG3, za zom, za zom]⟩;have k3 : ∀ id o, G3 id = some o → id < m2 + 1 := by rw [hG3]; exact zU (zF k2) zb
 have b3 : G3 m2 = some (.cells (zy T wi wf wo wc wn) 0 none false (some 30)) := by rw [hG3, zb]
 rw [← hG3];clear hG3 hone;have hle2 := x2.1;have x13 := x2.trans x3;have g3 := (x3.2 p zom).trans g2;have hA3 := hA.ext x13 kG;have hT3 := hTI.ext x3 k2;have hl3 := hl1.ext x13 kG;clear g2 gA hA hTI hl1 x2 x3 x13 k2 kG;obtain ⟨ao, co, hwo⟩ := hT3.opens.slice;subst hwo;obtain ⟨m3, hm3⟩ : ∃ q, m2 + 1 = q := ⟨_, rfl⟩;rw [hm3] at k3 ⊢;have hm23 : m2 < m3 := by omega
 have hpm3 : p < m3 := by omega
 clear hm3;refine zem ?_;refine OpsR.drawn [2, 8, 14, 19, 35, 37, 41, 43] (K := fun nx1 HH => Ext m3 G3 nx1 HH) krf krf krf [0, 1, 2, 3, 4, 5, 6, 7, 8, 9, 10, 11, 12, 13, 14, 15, 16, 17, 18, 19, 20, 21, 22, 23, 24, 25, 26, 27, 28, 29, 30, 31, 32, 33, 34, 36, 35, 37, 38, 39, 40, 41, 42, 43, 44, 45, 46] krf Ext.refl ?_;refine zes ?_;refine zg1 ?_;refine zd (zE (v := .agg VE.toArray) (l := []) (by simp only [z0h]) krf) ?_;refine OpsL.nil ?_;refine zg5 ?_;refine OpsL.c2 (hf := z5r) (hc := (z7O W0 (a := E0) ⟨z1s z4n, z1s z4n, z4n, z4n, z4n⟩ nE fE).ok) (h := ?_);rintro u m4 H4 ⟨⟨M0, M1, l4, zi, zf, zo, zc, zn, h40, h41, rfl, -, x4⟩, k4⟩;have eM0 := zhB h40;subst eM0;have hEN : (zR (z0b E0 [] M1)).N = 0 := rfl;refine OpsL.nil ⟨x4, ?_⟩;refine zg1 ?_;refine zd (v := .int .i64 0) (ze9 (cs := zy (zR (z0b E0 [] M1)) zi zf zo zc zn) evd zxr zxr zxr rfl zxr) ?_;refine OpsL.nil ?_;refine zA (v := .bool true) rfl krf zsd x4 (fun HH nn hK => z3r evr evr rfl) ?_;refine z5U ?_;refine z79 ?_;refine z04 (v := .agg (VA b).toArray) rfl krf zsd zxr evd x4 (fun HH nn hK => zg (k := 7) (vs := VA b) evd zxr rfl zxr (zG ((hK.2 p hpm3).trans g3) rfl)) ?_;refine z6R ?_;refine OpsL.c2 (hf := z4D) (hc := (zdg W0 (hl3.ext x4 k3) hs3 (hA3.ext x4 k3) nA).ok) (h := ?_);rintro v5 m5 H5 ⟨⟨rfl, x5⟩, k5⟩;have e5 := x4.trans x5;refine OpsL.nil ⟨e5, ?_⟩;have hc5 : z3I [(⟨#[97]⟩, 1), (⟨#[97]⟩, 2), (⟨#[98]⟩, 3)] A0 = true := by kernel_rfl
 rw [hc5]
 first | dsimp only | skip
 refine z04 (v := .bool true) rfl krf zsd zxr evd e5 (fun HH nn hK => z3r evr evr rfl) ?_;refine zbO ?_;refine z04 (v := .agg (VA b).toArray) rfl krf zsd zxr evd e5 (fun HH nn hK => zg (k := 7) (vs := VA b) evd zxr rfl zxr (zG ((hK.2 p hpm3).trans g3) rfl)) ?_;refine z6R ?_;refine OpsL.c2 (hf := z40) (hc := (za0 W0 (hA3.ext e5 k3) nA).ok) (h := ?_);rintro v6 m6 H6 ⟨⟨rfl, x6⟩, k6⟩;have e6 := e5.trans x6;refine OpsL.nil ⟨e6, ?_⟩;have hc6 : z6d A0 = true := by kernel_rfl
 rw [hc6];refine zbO ?_;refine z04 (v := .agg (VA b).toArray) rfl krf zsd zxr evd e6 (fun HH nn hK => zg (k := 7) (vs := VA b) evd zxr rfl zxr (zG ((hK.2 p hpm3).trans g3) rfl)) ?_;refine z6R ?_;refine OpsL.c2 (hf := z4A) (hc := (zda W0 (hl3.ext e6 k3) hs3 (hA3.ext e6 k3) nA (by decide) (by decide) (by decide) (by decide)).ok) (h := ?_);rintro v7 m7 H7 ⟨⟨rfl, x7⟩, k7⟩;have e7 := e6.trans x7;refine OpsL.nil ⟨e7, ?_⟩;have hc7 : z8H [(⟨#[97]⟩, 1), (⟨#[97]⟩, 2), (⟨#[98]⟩, 3)] A0 = false := by kernel_rfl
 rw [hc7];refine zg1 ?_
 repeat (first | refine zd (by exact z8y) ?_ | (refine OpsL.nil ?_; (skip)) | refine zz ?_)
 refine zg1 ?_;refine zaT ?_;refine z5U ?_;refine zfV ?_;refine z04 (v := .int .i64 2) rfl krf zsd zxr evr e7 (fun HH nn hK => zp evr zxr rfl (by rw [← hTN]; exact ze ((hK.2 m2 hm23).trans b3) rfl)) ?_;refine z04 (v := .bool true) rfl krf zsd zxr evr e7 (fun HH nn hK => z3r evr evr rfl) ?_;refine zg1 ?_;refine zaT ?_;refine z5U ?_;refine zfV ?_;refine z04 (v := .slice ao 1 co) rfl krf zsd zxr evd e7 (fun HH nn hK => zp evr zxr rfl (by rw [Nat.zero_add, ← hTO]; exact ze ((hK.2 m2 hm23).trans b3) rfl)) ?_;refine z04 (v := .int .i64 ((1 : Nat) : Int)) rfl krf zsd zxr evd e7 (fun HH nn hK => z2i) ?_;refine z04 (v := .bool true) rfl krf zsd zxr evd e7 (fun HH nn hK => z3r evr evr rfl) ?_;refine zg1 ?_;refine zaT ?_;refine zg1 ?_;refine zg2 ?_;refine z04 (v := .agg (VA b).toArray) rfl krf zsd zxr evd e7 (fun HH nn hK => zg (k := 7) (vs := VA b) evd zxr rfl zxr (zG ((hK.2 p hpm3).trans g3) rfl)) ?_;refine z04 (v := .agg (VA b).toArray) rfl krf zsd zxr evd e7 (fun HH nn hK => zg (k := 7) (vs := VA b) evd zxr rfl zxr (zG ((hK.2 p hpm3).trans g3) rfl)) ?_;refine z6R ?_;refine z0c (hf := z4j) (hc := (zeA W0 (hA3.ext e7 k3) nA).ok) (h := ?_);rintro u m8 H8 ⟨⟨l8, yi, yf, yo, yc, yn, rfl, hO8, x8⟩, k8⟩;have e8 := e7.trans x8;refine OpsL.nil ⟨e8, ?_⟩;refine z6R ?_;refine OpsL.c2 (hf := z4B) (hc := (zdb W0 hO8.in (z5Y nA) (hA3.ext e8 k3) nA).ok) (h := ?_);rintro v9 m9 H9 ⟨⟨rfl, x9⟩, k9⟩;have e9 := e8.trans x9;have hc9 : z2x (zR A0) A0 = true := by kernel_rfl
 rw [hc9];refine OpsL.nil ⟨e9, ?_⟩;refine zbO ?_;refine z6R ?_;refine OpsL.new zsd (zq (l := [(0, .int .i64 1)]) (r := (.slice (some ⟨m9, 0, none⟩) 1 1, .new (.cells (z9Q 1) 1 none false (some 3)))) zep krf) ?_;obtain ⟨G9, hG9⟩ : ∃ Q, Q = H9.put m9 (.cells (z9Q 1) 1 none false (some 3)) := ⟨_, rfl⟩;have xa : Ext m9 H9 (m9 + 1) G9 := by rw [hG9]; exact zh
 have ka : ∀ id o, G9 id = some o → id < m9 + 1 := by rw [hG9]; exact zF k9
 have ga : G9 m9 = some (.cells (z9Q 1) 1 none false (some 3)) := by rw [hG9, zb]
 rw [← hG9];clear hG9;have ea := e9.trans xa;refine OpsL.nil ⟨ea, ?_⟩;refine zg1 ?_;refine zz ?_;refine zd (zE (v := .agg (zy B0 (.slice none 0 0) (.slice (some ⟨m9, 0, none⟩) 1 1) (.slice none 0 0) (.slice none 0 0) (.slice none 0 0)).toArray) (l := [(0, .int .i64 1), (3, .slice (some ⟨m9, 0, none⟩) 1 1)]) zep krf) ?_;refine OpsL.nil ?_;refine z6R ?_;refine OpsL.c2 (hf := z4D) (hc := (zdg W0 (hl3.ext ea k3) hs3 (a := B0) ⟨z1s z4n, z1s (z8O rfl ga), z4n, z4n, z4n⟩ nB).ok) (h := ?_);rintro vb mb Hb ⟨⟨rfl, xb⟩, kb⟩;have hcb : z3I [(⟨#[97]⟩, 1), (⟨#[97]⟩, 2), (⟨#[98]⟩, 3)] B0 = false := by kernel_rfl
 rw [hcb]
 first | dsimp only | skip
 refine OpsL.nil ⟨ea.trans xb, ?_⟩;refine z04 (v := .bool true) rfl krf zsd zxr evd (ea.trans xb) (fun HH nn hK => z3r evr evr rfl) ?_;refine zg1 ?_;refine zaT ?_;refine z6T ?_
 (change Trip _ _ _ _ _)
 repeat (refine Trip.ret ?_; (skip))
 exact ⟨.inr rfl, _, zx, stp, trivial⟩
theorem zc8 (W0 : World) (hT : Tabs [] W0) : Am.z0U Tryz.prog 6 ∧ ∀ nx H, ACalls Tryz.prog W0 6 [] nx H fun v nx' H' => v = .bool true ∧ nx' = nx ∧ H' = H :=
 ⟨z6B, fun nx H => zio (fun w => zhE w) nx H⟩
end Go.Proofs.YteplpegfcpmflaaGreat
namespace Go.Proofs.YteplpegfcpmflaaGreat
open Go.RowKit Go.Am
theorem zgr : ∀ (l : List Int) (x : Int) (i p : Nat), z5M l x i = some p → ∃ h : p - i < l.length, l[p - i] = x ∧ i ≤ p := by
 intro l
 induction l with
 | nil => intro x i p h; cases h
 | cons y l ih =>
  intro x i p h;by_cases e : x = y
  ·subst e;simp [z5M] at h;subst h;exact ⟨by simp, by simp, Nat.le_refl _⟩
  ·simp only [z5M, e, if_false] at h;obtain ⟨h1, h2, h3⟩ := ih x (i + 1) p h;refine ⟨by simp only [List.length_cons]; omega, ?_, zom⟩;have : p - i = (p - (i + 1)) + 1 := by omega
   simp only [this, List.getElem_cons_succ];exact h2
theorem za2 {L : List Int} {x y : Int} (h : z0p L x = some y) : ∃ p : Nat, y = p ∧ ∃ h : p < L.length, L[p] = x := by
 unfold z0p at h;cases hp : z5M L x 0 with
 | none => rw [hp] at h; cases h
 | some p =>
  rw [hp] at h;cases h;obtain ⟨h1, h2, _⟩ := zgr L x 0 p hp;exact ⟨p, rfl, h1, h2⟩
theorem zeR {L : List Int} {x x' y : Int} (h : z0p L x = some y) (h' : z0p L x' = some y) : x = x' := by
 obtain ⟨p, rfl, h1, h2⟩ := za2 h;obtain ⟨q, e, h3, h4⟩ := za2 h';have : p = q := by omega
 subst this;exact h2.symm.trans h4
theorem z5X {a : Aut} {k : Int} {L : List Int} (h : z1k a k L) {x : Int} (hx : ReachT a (k, x)) : ∃ y, z0p L x = some y ∧ 0 ≤ y ∧ y < L.length := by
 obtain ⟨p, _, e⟩ := zbo h.1 ((h.2 x).2 hx);exact ⟨_, e, (z2A e).2⟩
theorem z7G {a : Aut} {k : Int} {L : List Int} (h : z1k a k L) {x y : Int} (hx : z0p L x = some y) : ReachT a (k, x) := (h.2 x).1 (z2A hx).1
theorem z9V {N s : Int} (h : stF N s = true) : 0 ≤ s ∧ s < N := by
 simpa [stF] using h
theorem zhg {n a b : Int} (h : btF n a b = true) : a ≤ n ∧ n ≤ b := by
 simpa [btF] using h
section
variable {ss : List (ByteArray × Int)} {most : Int} {a : Aut} {i : Nat} (h : GoodM ss most a i)
include h
theorem z8P {r : R4} (hr : r ∈ a.opens) : (0 ≤ r.1 ∧ r.1 < a.N) ∧ kdF ss r.2.1 1 = true ∧ (0 ≤ r.2.2.1 ∧ r.2.2.1 < a.N) ∧ 1 ≤ r.2.2.2 ∧ r.2.2.2 ≤ a.G := by
 have := List.all_eq_true.1 h.opens r hr;simp only [okO, Bool.and_eq_true] at this;exact ⟨z9V this.1.1.1, this.1.1.2, z9V this.1.2, zhg this.2⟩
theorem zb4 {r : R4} (hr : r ∈ a.closes) : (0 ≤ r.1 ∧ r.1 < a.N) ∧ kdF ss r.2.1 2 = true ∧ (0 ≤ r.2.2.2 ∧ r.2.2.2 < a.N) ∧ 0 ≤ r.2.2.1 ∧ r.2.2.1 ≤ a.G := by
 have := List.all_eq_true.1 h.closes r hr;simp only [okC, Bool.and_eq_true] at this;exact ⟨z9V this.1.1.1, this.1.1.2, z9V this.1.2, zhg this.2⟩
theorem zb3 {r : R3} (hr : r ∈ a.inners) : (0 ≤ r.1 ∧ r.1 < a.N) ∧ kdF ss r.2.1 3 = true ∧ (0 ≤ r.2.2 ∧ r.2.2 < a.N) := by
 have := List.all_eq_true.1 h.inners r hr;simp only [okI, Bool.and_eq_true] at this;exact ⟨z9V this.1.1, this.1.2, z9V this.2⟩
theorem z7l {m : R4} (hm : m ∈ z02 a) : (0 ≤ m.2.2.1 ∧ m.2.2.1 < a.N) ∧ 0 ≤ m.2.2.2 ∧ m.2.2.2 ≤ a.G := by
 have := h.G0;simp only [z02, List.mem_append, List.mem_map] at hm;rcases hm with (⟨r, hr, rfl⟩ | ⟨r, hr, rfl⟩) | ⟨r, hr, rfl⟩
 ·have := z8P h hr; simp only [z0Y]; omega
 ·have := zb4 h hr; simp only [z1D]; omega
 ·have := zb3 h hr; simp only [z2Q]; omega
theorem zbi {x : Int} (hx : ReachT a (0, x)) : 0 ≤ x ∧ x < a.N := by
 rcases zae hx with q | ⟨m, hm, _, rfl⟩
 ·exact z9V (List.all_eq_true.1 h.init x q)
 ·exact (z7l h hm).1
theorem z7T {x : Int} (hx : ReachT a (1, x)) : 0 ≤ x ∧ x ≤ a.G := by
 have := h.G0;rcases zc4 hx with rfl | ⟨m, hm, _, rfl⟩
 ·omega
 ·exact (z7l h hm).2
end
theorem z4Q {l : List Int} {n : Nat} (h : l.Pairwise (· < ·)) (hb : ∀ x ∈ l, 0 ≤ x ∧ x < n) : l.length ≤ n := by
 have := z6n l ((List.range n).map fun (j : Nat) => (j : Int)) (by
  rw [List.nodup_iff_pairwise_ne];exact h.imp fun {x y} hlt e => by omega) (fun x hx => by
  obtain ⟨h1, h2⟩ := hb x hx;exact List.mem_map.2 ⟨x.toNat, List.mem_range.2 zom, zom⟩)
 simpa using this
section
variable {ss : List (ByteArray × Int)} {most : Int} {a : Aut} {i : Nat} {L0 L1 : List Int} (h : GoodM ss most a i) (h0 : z1k a 0 L0) (h1 : z1k a 1 L1)
include h h0 in
theorem zhq : (L0.length : Int) ≤ a.N := by
 have := z4Q (n := a.N.toNat) h0.1 fun x hx => by have := zbi h ((h0.2 x).1 hx); omega
 have := h.N0;omega
include h h1 in
theorem zhr : 1 ≤ L1.length ∧ (L1.length : Int) ≤ a.G + 1 := by
 have hm : (0 : Int) ∈ L1 := (h1.2 0).2 .bot;have := z4Q (n := a.G.toNat + 1) h1.1 fun x hx => by have := z7T h ((h1.2 x).1 hx); omega
 have := h.G0;have := List.length_pos_of_mem hm;omega
include h h1 in
theorem zgA : z0p L1 0 = some 0 := by
 obtain ⟨p, hp, e⟩ := zbo h1.1 ((h1.2 0).2 .bot);obtain ⟨q, e2, hq, e3⟩ := za2 e;have hpq : p = q := by omega
 subst hpq;rw [e];by_cases hp0 : p = 0
 ·subst hp0; rfl
 ·exfalso;have hlt := List.pairwise_iff_getElem.1 h1.1 0 p zom hp zom;have hge := z7T h ((h1.2 L1[0]).1 (List.getElem_mem _));omega
include h h0 h1 in
theorem zhn {r : R4} (hr : r ∈ a.opens) {f : Int} (hf : z0p L0 r.1 = some f) : ∃ y z, z0p L0 r.2.2.1 = some y ∧ z0p L1 r.2.2.2 = some z ∧ z0R L0 L1 r = some (f, r.2.1, y, z) ∧ (0 ≤ f ∧ f < L0.length) ∧ (0 ≤ y ∧ y < L0.length) ∧ 1 ≤ z ∧ z < L1.length := by
 have hm : z0Y r ∈ z02 a := by simp only [z02, List.mem_append, List.mem_map]; exact .inl (.inl ⟨r, hr, rfl⟩)
 have hn : ∀ u ∈ z01 (z0Y r), ReachT a u := fun u hu => by
  simp only [z01, z0Y, List.mem_cons, List.not_mem_nil, or_false] at hu;rcases hu with rfl | rfl
  ·exact z7G h0 hf
  ·exact .bot
 obtain ⟨y, e1, hy⟩ := z5X h0 (x := r.2.2.1) (.step hm hn (by simp [z0m, z0Y]));obtain ⟨z, e2, hz⟩ := z5X h1 (x := r.2.2.2) (.step hm hn (by simp [z0m, z0Y]));refine ⟨y, z, e1, e2, by simp [z0R, hf, e1, e2], (z2A hf).2, hy, ?_, hz.2⟩;by_cases hz0 : z = 0
 ·subst hz0;have := zeR e2 (zgA h h1);have := z8P h hr;omega
 ·omega
include h0 h1 in
theorem zhp {r : R4} (hr : r ∈ a.closes) {f t : Int} (hf : z0p L0 r.1 = some f) (ht : z0p L1 r.2.2.1 = some t) : ∃ y, z0p L0 r.2.2.2 = some y ∧ z16 L0 L1 r = some (f, r.2.1, t, y) ∧ (0 ≤ f ∧ f < L0.length) ∧ (0 ≤ y ∧ y < L0.length) ∧ 0 ≤ t ∧ t < L1.length := by
 have hm : z1D r ∈ z02 a := by simp only [z02, List.mem_append, List.mem_map]; exact .inl (.inr ⟨r, hr, rfl⟩)
 have hn : ∀ u ∈ z01 (z1D r), ReachT a u := fun u hu => by
  simp only [z01, z1D, List.mem_cons, List.not_mem_nil, or_false] at hu;rcases hu with rfl | rfl
  ·exact z7G h0 hf
  ·exact z7G h1 ht
 obtain ⟨y, e1, hy⟩ := z5X h0 (x := r.2.2.2) (.step hm hn (by simp [z0m, z1D]));exact ⟨y, e1, by simp [z16, hf, ht, e1], (z2A hf).2, hy, (z2A ht).2⟩
include h0 in
theorem zho {r : R3} (hr : r ∈ a.inners) {f : Int} (hf : z0p L0 r.1 = some f) : ∃ y, z0p L0 r.2.2 = some y ∧ z2o L0 r = some (f, r.2.1, y) ∧ (0 ≤ f ∧ f < L0.length) ∧ (0 ≤ y ∧ y < L0.length) := by
 have hm : z2Q r ∈ z02 a := by simp only [z02, List.mem_append, List.mem_map]; exact .inr ⟨r, hr, rfl⟩
 have hn : ∀ u ∈ z01 (z2Q r), ReachT a u := fun u hu => by
  simp only [z01, z2Q, List.mem_cons, List.not_mem_nil, or_false] at hu;rcases hu with rfl | rfl
  ·exact z7G h0 hf
  ·exact .bot
 obtain ⟨y, e1, hy⟩ := z5X h0 (x := r.2.2) (.step hm hn (by simp [z0m, z2Q]));exact ⟨y, e1, by simp [z2o, hf, e1], (z2A hf).2, hy⟩
include h h0 h1 in
theorem zdI {t : R4} (ht : t ∈ (z0b a L0 L1).opens) : ∃ r ∈ a.opens, z0p L0 r.1 = some t.1 ∧ r.2.1 = t.2.1 ∧ z0p L0 r.2.2.1 = some t.2.2.1 ∧ z0p L1 r.2.2.2 = some t.2.2.2 ∧ (0 ≤ t.1 ∧ t.1 < L0.length) ∧ (0 ≤ t.2.2.1 ∧ t.2.2.1 < L0.length) ∧ 1 ≤ t.2.2.2 ∧ t.2.2.2 < L1.length := by
 obtain ⟨r, hr, e⟩ := List.mem_filterMap.1 ht;cases hf : z0p L0 r.1 with
 | none => simp [z0R, hf] at e
 | some f =>
  obtain ⟨y, z, e1, e2, e3, h3, h4, h5⟩ := zhn h h0 h1 hr hf;rw [e3] at e;cases e;exact ⟨r, hr, hf, rfl, e1, e2, h3, h4, h5⟩
include h0 h1 in
theorem zdK {t : R4} (ht : t ∈ (z0b a L0 L1).closes) : ∃ r ∈ a.closes, z0p L0 r.1 = some t.1 ∧ r.2.1 = t.2.1 ∧ z0p L1 r.2.2.1 = some t.2.2.1 ∧ z0p L0 r.2.2.2 = some t.2.2.2 ∧ (0 ≤ t.1 ∧ t.1 < L0.length) ∧ (0 ≤ t.2.2.2 ∧ t.2.2.2 < L0.length) ∧ 0 ≤ t.2.2.1 ∧ t.2.2.1 < L1.length := by
 obtain ⟨r, hr, e⟩ := List.mem_filterMap.1 ht;cases hf : z0p L0 r.1 with
 | none => simp [z16, hf] at e
 | some f =>
  cases hg : z0p L1 r.2.2.1 with
  | none => simp [z16, hf, hg] at e
  | some g =>
   obtain ⟨y, e1, e3, h3, h4, h5⟩ := zhp h0 h1 hr hf hg;rw [e3] at e;cases e;exact ⟨r, hr, hf, rfl, hg, e1, h3, h4, h5⟩
include h0 in
theorem zdJ {t : R3} (ht : t ∈ (z0b a L0 L1).inners) : ∃ r ∈ a.inners, z0p L0 r.1 = some t.1 ∧ r.2.1 = t.2.1 ∧ z0p L0 r.2.2 = some t.2.2 ∧ (0 ≤ t.1 ∧ t.1 < L0.length) ∧ (0 ≤ t.2.2 ∧ t.2.2 < L0.length) := by
 obtain ⟨r, hr, e⟩ := List.mem_filterMap.1 ht;cases hf : z0p L0 r.1 with
 | none => simp [z2o, hf] at e
 | some f =>
  obtain ⟨y, e1, e3, h3, h4⟩ := zho h0 hr hf;rw [e3] at e;cases e;exact ⟨r, hr, hf, rfl, e1, h3, h4⟩
theorem zbs {L l : List Int} {y : Int} (h : y ∈ zH L l) : ∃ x ∈ l, z0p L x = some y := List.mem_filterMap.1 h
include h h0 h1 in
theorem zc0 (hm : most ≤ 200) (hi : i ≤ 1000) : z3I ss (zR (z0b a L0 L1)) = true := by
 have hN := zhq h h0;obtain ⟨g1, g2⟩ := zhr h h1;have l0 := h.N1;have l1 := h.G1;have ⟨n1, n2, n3, n4, n5⟩ := h.len;have k3 : (zu lt4 (z0b a L0 L1).opens).length ≤ 1000 := Nat.le_trans (z0o _) (Nat.le_trans (List.length_filterMap_le _ _) zom);have k4 : (zu lt4 (z0b a L0 L1).closes).length ≤ 1000 := Nat.le_trans (z0o _) (Nat.le_trans (List.length_filterMap_le _ _) zom);have k5 : (zu lt3 (z0b a L0 L1).inners).length ≤ 1000 := Nat.le_trans (z0o _) (Nat.le_trans (List.length_filterMap_le _ _) zom)
 have hst : ∀ x : Int, 0 ≤ x → x < L0.length → stF (zR (z0b a L0 L1)).N x = true := fun x hx hy => by
  show (decide (0 ≤ x) && decide (x < (L0.length : Int))) = true;rw [decide_eq_true hx, decide_eq_true hy]; rfl
 unfold z3I;simp only [Bool.and_eq_true];refine ⟨⟨⟨⟨⟨?_, ?_⟩, ?_⟩, ?_⟩, ?_⟩, ?_⟩
 ·simp only [z9W, btF, Bool.and_eq_true, decide_eq_true_eq];refine ⟨⟨⟨?_, ?_⟩, ?_, ?_⟩, ?_⟩
  ·show (0 : Int) ≤ L0.length; omega
  ·show (L0.length : Int) ≤ 200; omega
  ·show (0 : Int) ≤ (L1.length : Int) - 1; omega
  ·show (L1.length : Int) - 1 ≤ 10000; omega
  ·show ((((zu lt4 (z0b a L0 L1).opens).length : Int) + (zu lt4 (z0b a L0 L1).closes).length) + (zu lt3 (z0b a L0 L1).inners).length) ≤ 100000;omega
 ·refine List.all_eq_true.2 fun x hx => ?_;obtain ⟨s, _, e⟩ := zbs ((z0n x _).1 hx);exact hst x (z2A e).2.1 (z2A e).2.2
 ·refine List.all_eq_true.2 fun x hx => ?_;obtain ⟨s, _, e⟩ := zbs ((z0n x _).1 hx);exact hst x (z2A e).2.1 (z2A e).2.2
 ·refine List.all_eq_true.2 fun t ht => ?_;obtain ⟨r, hr, e1, e2, e3, e4, q1, q2, q3⟩ := zdI h h0 h1 ((z0n t _).1 ht);simp only [okO, hst _ q1.1 q1.2, hst _ q2.1 q2.2, ← e2, (z8P h hr).2.1, Bool.true_and, Bool.and_true, btF, Bool.and_eq_true, decide_eq_true_eq];exact ⟨q3.1, by show t.2.2.2 ≤ (L1.length : Int) - 1; omega⟩
 ·refine List.all_eq_true.2 fun t ht => ?_;obtain ⟨r, hr, e1, e2, e3, e4, q1, q2, q3⟩ := zdK h0 h1 ((z0n t _).1 ht);simp only [okC, hst _ q1.1 q1.2, hst _ q2.1 q2.2, ← e2, (zb4 h hr).2.1, Bool.true_and, Bool.and_true, btF, Bool.and_eq_true, decide_eq_true_eq];exact ⟨q3.1, by show t.2.2.1 ≤ (L1.length : Int) - 1; omega⟩
 ·refine List.all_eq_true.2 fun t ht => ?_;obtain ⟨r, hr, e1, e2, e3, q1, q2⟩ := zdJ h0 ((z0n t _).1 ht);simp only [okI, hst _ q1.1 q1.2, hst _ q2.1 q2.2, ← e2, (zb3 h hr).2.1, Bool.true_and, Bool.and_true]
include h h0 h1 in
include h h0 h1 in
end
theorem zdW {ss : List (ByteArray × Int)} {most : Int} {a : Aut} {i : Nat} (L0 L1 : List Int) (h : GoodM ss most a i) (hi : i ≤ 1000) : AutLen (zR (z0b a L0 L1)) := by
 have ⟨n1, n2, n3, n4, n5⟩ := h.len;refine ⟨Nat.le_trans (z0o _) (Nat.le_trans (List.length_filterMap_le _ _) zom), Nat.le_trans (z0o _) (Nat.le_trans (List.length_filterMap_le _ _) zom), Nat.le_trans (z0o _) (Nat.le_trans (List.length_filterMap_le _ _) zom), Nat.le_trans (z0o _) (Nat.le_trans (List.length_filterMap_le _ _) zom), Nat.le_trans (z0o _) (Nat.le_trans (List.length_filterMap_le _ _) zom)⟩
theorem zgx {ss : List (ByteArray × Int)} {most : Int} {a : Aut} {i : Nat} (h : GoodM ss most a i) (hi : i ≤ 25) : muF a [] (z68 a) ≤ 100000 := by
 have ⟨n1, n2, n3, n4, n5⟩ := h.len;have hm : (z02 a).length ≤ 75 := by simp only [z02, List.length_append, List.length_map]; omega
 have h3 : ∀ l : List R4, (l.flatMap z0m).length = 2 * l.length := fun l => by
  induction l with
  | nil => rfl
  | cons x l ih => simp only [List.flatMap_cons, List.length_append, ih, List.length_cons]; have : (z0m x).length = 2 := rfl; omega
 have hu : (z8w a).length ≤ 176 := by simp only [z8w, List.length_append, List.length_cons, List.length_map, h3]; omega
 have hf : ((z8w a).filter fun t => decide (t ∉ ([] : List Thg))).length ≤ 176 := Nat.le_trans (List.length_filter_le _ _) hu;have hs : (z68 a).length ≤ 26 := by simp only [z68, List.length_cons, List.length_map]; omega
 unfold muF;have := Nat.mul_le_mul hf (show 2 * (z02 a).length + 1 ≤ 151 by omega);omega
theorem zdR {ss : List (ByteArray × Int)} {size most : Int} {ns : List Int} : (z4l ss size most ns).init ≠ [] := by
 unfold z4l z8D;split
 ·simp [z3K]
 ·assumption
end Go.Proofs.YteplpegfcpmflaaGreat
namespace Go.Am
inductive AllR {α β : Type} (R : α → β → Prop) : List α → List β → Prop
 | nil : AllR R [] []
 | cons {a : α} {b : β} {l : List α} {m : List β} : R a b → AllR R l m → AllR R (a :: l) (b :: m)
structure LvT where
 row : Int → Int → Prop
 by_ : Int
end Go.Am
namespace Go.Proofs.YteplpegfcpmflaaGreat
open Go.RowKit Go.Am
structure SimL (a : Aut) (L0 : List Int) (u v : LvT) : Prop where
 re : ∀ p q, u.row p q → ReachT a (0, p) ∧ ReachT a (0, q)
 eq : ∀ p' q', v.row p' q' ↔ ∃ p q, z0p L0 p = some p' ∧ z0p L0 q = some q' ∧ u.row p q
 sy : u.by_ = v.by_
section
variable {ss : List (ByteArray × Int)} {most : Int} {a : Aut} {i : Nat} {L0 L1 : List Int} (h : GoodM ss most a i) (h0 : z1k a 0 L0) (h1 : z1k a 1 L1)
include h h0 h1 in
include h0 h1 in
include h0 in
include h0 in
include h1 in
include h h0 h1 in
include h h0 h1 in
include h h0 h1 in
include h0 in
include h h0 h1 in
include h h0 h1 in
include h h0 h1 in
include h h0 h1 in
include h h0 h1 in
include h h0 h1 in
end
section
variable {ss : List (ByteArray × Int)} {most : Int} {a : Aut} {i : Nat} {L0 L1 : List Int} (h : GoodM ss most a i) (h0 : z1k a 0 L0) (h1 : z1k a 1 L1)
include h h0 h1 in
end
end Go.Proofs.YteplpegfcpmflaaGreat
namespace Go.Proofs.YteplpegfcpmflaaGreat
open Go.RowKit Go.Am
theorem zfI {a : Aut} {A U : Int → Prop} (hI : ∀ s ∈ a.init, A s) (hB : U 0) (hc : ∀ m ∈ z02 a, A m.1 → U m.2.1 → A m.2.2.1 ∧ U m.2.2.2) {t : Thg} (ht : ReachT a t) : (t.1 = 0 → A t.2) ∧ (t.1 = 1 → U t.2) := by
 induction ht with
 | bot => exact ⟨fun h => absurd h (by decide), fun _ => hB⟩
 | @init s hs => exact ⟨fun _ => hI s hs, fun h => absurd h (by decide : ¬ (0 : Int) = 1)⟩
 | @step m t hm hn hg ih =>
  have h1 := (ih (0, m.1) (by simp [z01])).1 rfl;have h2 := (ih (1, m.2.1) (by simp [z01])).2 rfl;obtain ⟨c1, c2⟩ := hc m hm h1 h2;simp only [z0m, List.mem_cons, List.not_mem_nil, or_false] at hg;rcases hg with rfl | rfl
  ·exact ⟨fun _ => c1, fun h => absurd h (by decide : ¬ (0 : Int) = 1)⟩
  ·exact ⟨fun h => absurd h (by decide : ¬ (1 : Int) = 0), fun _ => c2⟩
def z8x (L : List Int) (x : Int) : Nat := (L.filter fun y => decide (y < x)).length
theorem ze5 {L : List Int} (h : ∀ y ∈ L, 0 ≤ y) : z8x L 0 = 0 := by
 unfold z8x;rw [List.filter_eq_nil_iff.2 fun y hy => by have := h y hy; simpa using this];rfl
theorem ze6 : ∀ {L : List Int}, L.Pairwise (· < ·) → ∀ (x : Int), z8x L (x + 1) = z8x L x + (if x ∈ L then 1 else 0) := by
 intro L
 induction L with
 | nil => intro _ x; rfl
 | cons y L ih =>
  intro hp x;obtain ⟨h1, h2⟩ := List.pairwise_cons.1 hp;have := ih h2 x;unfold z8x at *;rw [List.filter_cons, List.filter_cons];by_cases hxy : x = y
  ·subst hxy;have hnot : x ∉ L := fun hm => by have := h1 x hm; omega
   rw [if_neg hnot] at this;rw [if_pos (by simp; omega), if_neg (by simp), if_pos (by simp)];simp only [List.length_cons];omega
  ·have hm : (x ∈ y :: L) ↔ x ∈ L := by simp [hxy]
   by_cases hlt : y < x
   ·rw [if_pos (by simp; omega), if_pos (by simpa using hlt)];simp only [List.length_cons, hm];omega
   ·rw [if_neg (by simp; omega), if_neg (by simpa using hlt)];simp only [hm];omega
theorem zf5 {L : List Int} {n : Int} (h : ∀ y ∈ L, y < n) : z8x L n = L.length := by
 unfold z8x;rw [List.filter_eq_self.2 fun y hy => by simpa using h y hy]
theorem zeO : ∀ (L : List Int) (x : Int) (i : Nat), L.Pairwise (· < ·) → x ∈ L → z5M L x i = some (i + z8x L x) := by
 intro L
 induction L with
 | nil => intro x i _ h; cases h
 | cons y L ih =>
  intro x i hp hx;obtain ⟨h1, h2⟩ := List.pairwise_cons.1 hp;by_cases e : x = y
  ·subst e
   have : z8x (x :: L) x = 0 := by
    unfold z8x
    rw [List.filter_eq_nil_iff.2 fun z hz => by
     rcases List.mem_cons.1 hz with rfl | hz
     ·simp
     ·have := h1 z hz; simp; omega]
    rfl
   simp [z5M, this]
  ·have hm : x ∈ L := by
    rcases List.mem_cons.1 hx with q | q
    ·exact absurd q e
    ·exact q
   have hlt := h1 x hm
   have hc : z8x (y :: L) x = z8x L x + 1 := by
    unfold z8x;rw [List.filter_cons, if_pos (by simpa using hlt)];rfl
   simp only [z5M, e, if_false];rw [ih x (i + 1) h2 hm, hc];congr 1;omega
theorem z7V {L : List Int} {x : Int} (hL : L.Pairwise (· < ·)) (hx : x ∈ L) : z0p L x = some (z8x L x : Int) := by
 simp [z0p, zeO L x 0 hL hx]
theorem z94 (S : Int → Prop) (n : Nat) : ∃ L : List Int, L.Pairwise (· < ·) ∧ ∀ x, x ∈ L ↔ (0 ≤ x ∧ x < n) ∧ S x := by
 refine ⟨((List.range n).map fun (j : Nat) => (j : Int)).filter fun x => @decide (S x) (Classical.propDecidable _), ?_, fun x => ?_⟩
 ·refine List.Pairwise.filter _ ?_;rw [List.pairwise_map];exact List.pairwise_lt_range.imp fun {x y} hlt => by omega
 ·rw [List.mem_filter];refine and_congr ?_ (by simp);constructor
  ·intro h;obtain ⟨j, hj, rfl⟩ := List.mem_map.1 h;have := List.mem_range.1 hj;omega
  ·rintro ⟨p0, p1⟩;exact List.mem_map.2 ⟨x.toNat, List.mem_range.2 zom, zom⟩
theorem z93 {a : Aut} {k : Int} {L L' : List Int} (h : z1k a k L) (h' : z1k a k L') : L = L' :=
 z4x z9L _ _ h.1 h'.1 fun x => (h.2 x).trans (h'.2 x).symm
end Go.Proofs.YteplpegfcpmflaaGreat
namespace Go.Am
open Go.RowKit
def BCells (cs : List Value) (n : Nat) (S : Nat → Prop) : Prop := cs.length = n ∧ ∀ i, i < n → ∃ x : Bool, cs[i]? = some (.bool x) ∧ (x = true ↔ S i)
theorem BCells.zero (n : Nat) : BCells (rep n [.bool false]) n fun _ => False := by
 have h : rep n [.bool false] = List.replicate n (.bool false) := by
  unfold rep
  induction n with
  | zero => rfl
  | succ n ih => rw [List.replicate_succ, List.flatten_cons, ih, List.replicate_succ]; rfl
 rw [h];exact ⟨by simp, fun i hi => ⟨false, by rw [List.getElem?_replicate, if_pos hi], by simp⟩⟩
theorem BCells.set {cs : List Value} {n k : Nat} {S : Nat → Prop} (h : BCells cs n S) (hk : k < n) : BCells (cs.set k (.bool true)) n fun i => i = k ∨ S i := by
 refine ⟨by rw [List.length_set, h.1], fun i hi => ?_⟩;by_cases e : i = k
 ·subst e;exact ⟨true, by rw [List.getElem?_set_self (by rw [h.1]; exact hk)], by simp⟩
 ·obtain ⟨x, h1, h2⟩ := h.2 i hi;exact ⟨x, by rw [List.getElem?_set_ne (fun q => e q.symm)]; exact h1, by simp [e, h2]⟩
theorem BCells.iff {cs : List Value} {n : Nat} {S S' : Nat → Prop} (h : BCells cs n S) (hS : ∀ i, i < n → (S i ↔ S' i)) : BCells cs n S' :=
 ⟨h.1, fun i hi => by obtain ⟨x, h1, h2⟩ := h.2 i hi; exact ⟨x, h1, h2.trans (hS i hi)⟩⟩
def BRow (H : Heap) (el : TypeId) (b n : Nat) (S : Nat → Prop) : Prop := ∃ cs, H b = some (.cells cs 1 none false (some el)) ∧ BCells cs n S
theorem BRow.same {H H' : Heap} {el : TypeId} {b n : Nat} {S : Nat → Prop} (h : BRow H el b n S) (hs : H' b = H b) : BRow H' el b n S := by
 obtain ⟨cs, h1, h2⟩ := h;exact ⟨cs, hs.trans h1, h2⟩
theorem BRow.ext {H H' : Heap} {nx nx' : Nat} {el : TypeId} {b n : Nat} {S : Nat → Prop} (h : BRow H el b n S) (hx : Ext nx H nx' H') (hb : b < nx) : BRow H' el b n S := h.same (hx.2 b hb)
theorem BRow.iff {H : Heap} {el : TypeId} {b n : Nat} {S S' : Nat → Prop} (h : BRow H el b n S) (hS : ∀ i, i < n → (S i ↔ S' i)) : BRow H el b n S' := by
 obtain ⟨cs, h1, h2⟩ := h;exact ⟨cs, h1, h2.iff hS⟩
theorem BRow.get {H : Heap} {el : TypeId} {b n : Nat} {S : Nat → Prop} (h : BRow H el b n S) {j : Int} (h0 : 0 ≤ j) (h1 : j < n) : ∃ x : Bool, zj H ⟨b, 0 + j.toNat * 1, none⟩ (.bool x) ∧ (x = true ↔ S j.toNat) := by
 obtain ⟨cs, hH, hc⟩ := h;obtain ⟨x, hx, hS⟩ := hc.2 j.toNat zom;refine ⟨x, ?_, hS⟩;unfold zj z0M;simp only [hH];have hl := hc.1;rw [if_pos ⟨trivial, zom⟩];obtain ⟨hjl, hje⟩ := List.getElem?_eq_some_iff.1 hx;rw [Nat.zero_add, Nat.mul_one, List.take_one, List.head?_drop, List.getElem?_eq_getElem hjl, hje];rfl
theorem BRow.new {H : Heap} {el : TypeId} {b n : Nat} : BRow (H.put b (.cells (rep n [.bool false]) 1 none false (some el))) el b n fun _ => False := ⟨_, zb, BCells.zero n⟩
theorem z18 {P : Program} {nx : Nat} {t el : TypeId} {m : Nat} (hu : P.underlying t = some (.slice el)) (hs : z1F P el = some 1) (hb : z0q P el = some 1) (hz : z0B P el = some [.bool false]) (hm : m ≤ 1000000000) :
  z1H P nx t (.int .i64 m) (.int .i64 m) = some (.slice (some ⟨nx, 0, none⟩) m m, .new (.cells (rep m [.bool false]) 1 none false (some el))) := by
 unfold z1H;simp only [hu, hs, hb, hz, Int.toNat_natCast];rw [if_pos ⟨zom, zom, zom, zom, rfl⟩]
section
variable {P : Program} {W0 : World} {ops : Array Oper} {H : Heap} {nx n : Nat} {type : TypeId} {pos : String} {after : Array Edge} {l : List Oper} {tm : Nat → Value} {QQ : ASt → Prop} {el : TypeId}
theorem z2d {t : TypeId} {x y : Operand} {b m : Nat} {j : Int} {S : Nat → Prop} (hx : ASt.ev ⟨tm, n, H, nx⟩ x = some (.pointer (some ⟨b, 0 + j.toNat * 1, none⟩))) (hy : ASt.ev ⟨tm, n, H, nx⟩ y = some (.bool true)) (hz : z1F P t = some 1)
  (hr : BRow H el b m S) (h0 : 0 ≤ j) (h1 : j < m) (h : ∀ H', BRow H' el b m (fun i => i = j.toNat ∨ S i) → (∀ i, i ≠ b → H' i = H i) → OpsL P W0 ops l ⟨tm, n, H', nx⟩ QQ) :
  OpsL P W0 ops (⟨none, .store t x y, type, pos, after, none⟩ :: l) ⟨tm, n, H, nx⟩ QQ := by
 obtain ⟨cs, hH, hc⟩ := hr;have hl := hc.1;refine OpsL.storeAt (a := ⟨b, 0 + j.toNat * 1, none⟩) (cs' := cs.set j.toNat (.bool true)) j.toNat hx hy hz rfl rfl hH (by simp) zom rfl ?_;exact h _ ⟨_, zb, hc.set zom⟩ fun i hi => za hi
end
section
variable {P : Program} {W0 : World} {ops : Array Oper} {H : Heap} {nx n : Nat} {type : TypeId} {pos : String} {after : Array Edge} {l : List Oper} {tm : Nat → Value} {QQ : ASt → Prop} {el : TypeId}
end
end Go.Am
namespace Go.Am
open Go.RowKit
def z66 (s : Nat → Bool) : Nat → Nat
 | 0 => 0
 | n + 1 => z66 s n + if s n then 1 else 0
def z4I (s : Nat → Bool) (k : Nat) : Nat → Bool := fun i => decide (i = k) || s i
theorem zdx (s : Nat → Bool) (n : Nat) : z66 s n ≤ n := by
 induction n with
 | zero => exact Nat.le_refl _
 | succ n ih => unfold z66; split <;> omega
theorem zdy (s : Nat → Bool) (k n : Nat) : z66 s n ≤ z66 (z4I s k) n := by
 induction n with
 | zero => exact Nat.le_refl _
 | succ n ih =>
  unfold z66;by_cases h : s n = true
  ·have : z4I s k n = true := by unfold z4I; rw [h, Bool.or_true]
   rw [if_pos h, if_pos this]; omega
  ·rw [if_neg h]; split <;> omega
theorem z84 {s : Nat → Bool} {k n : Nat} (hk : k < n) (h : s k = false) : z66 (z4I s k) n = z66 s n + 1 := by
 have key : ∀ m, z66 (z4I s k) m = z66 s m + if k < m then 1 else 0 := by
  intro m
  induction m with
  | zero => rfl
  | succ m ih =>
   unfold z66;rw [ih];by_cases e : m = k
   ·subst e;have : z4I s m m = true := by unfold z4I; simp
    rw [if_pos this, h]; simp
   ·have h1 : z4I s k m = s m := by unfold z4I; simp [e]
    rw [h1];by_cases h2 : k < m
    ·rw [if_pos h2, if_pos (by omega : k < m + 1)]; omega
    ·rw [if_neg h2, if_neg (by omega : ¬ k < m + 1)]; omega
 rw [key, if_pos hk]
abbrev BRowF (H : Heap) (el : TypeId) (b n : Nat) (s : Nat → Bool) : Prop := BRow H el b n fun i => s i = true
theorem BRowF.get {H : Heap} {el : TypeId} {b n : Nat} {s : Nat → Bool} (h : BRowF H el b n s) {j : Int} (h0 : 0 ≤ j) (h1 : j < n) : zj H ⟨b, 0 + j.toNat * 1, none⟩ (.bool (s j.toNat)) := by
 obtain ⟨x, hx, hS⟩ := BRow.get h h0 h1;have : x = s j.toNat := by cases x <;> cases hs : s j.toNat <;> simp_all
 rw [← this];exact hx
theorem BRow.putS {H : Heap} {el : TypeId} {b n k : Nat} {s : Nat → Bool} (h : BRow H el b n fun i => i = k ∨ s i = true) : BRowF H el b n (z4I s k) := h.iff fun i _ => by unfold Go.Am.z4I; simp
structure MaySt (a : Aut) (s u : Nat → Bool) : Prop where
 at' : ∀ k : Nat, s k = true → ReachT a (0, (k : Int))
 up : ∀ k : Nat, u k = true → ReachT a (1, (k : Int))
 init : ∀ x ∈ a.init, s x.toNat = true
 bot : u 0 = true
theorem z7U {s : Nat → Bool} {k i : Nat} (h : s i = true) : z4I s k i = true := by unfold z4I; rw [h, Bool.or_true]
theorem zdp (s : Nat → Bool) (k : Nat) : z4I s k k = true := by unfold z4I; simp
theorem z4g {s : Nat → Bool} {k i : Nat} (h : z4I s k i = true) : i = k ∨ s i = true := by unfold z4I at h; simpa using h
theorem MaySt.move {a : Aut} {s u : Nat → Bool} (h : MaySt a s u) {m : R4} (hm : m ∈ z02 a) (h0 : 0 ≤ m.1) (h1 : 0 ≤ m.2.1) (hs : s m.1.toNat = true) (hu : u m.2.1.toNat = true) : ReachT a (0, m.2.2.1) ∧ ReachT a (1, m.2.2.2) := by
 have r1 := h.at' _ hs;have r2 := h.up _ hu;rw [Int.toNat_of_nonneg h0] at r1;rw [Int.toNat_of_nonneg h1] at r2
 have hn : ∀ t ∈ z01 m, ReachT a t := fun t ht => by
  simp only [z01, List.mem_cons, List.not_mem_nil, or_false] at ht;rcases ht with rfl | rfl
  ·exact r1
  ·exact r2
 exact ⟨.step hm hn (by simp [z0m]), .step hm hn (by simp [z0m])⟩
theorem MaySt.putA {a : Aut} {s u : Nat → Bool} (h : MaySt a s u) {x : Int} (h0 : 0 ≤ x) (hr : ReachT a (0, x)) : MaySt a (z4I s x.toNat) u :=
 ⟨fun k hk => (z4g hk).elim (fun e => by subst e; rw [Int.toNat_of_nonneg h0]; exact hr) (h.at' k), h.up, fun y hy => z7U (h.init y hy), h.bot⟩
theorem MaySt.putU {a : Aut} {s u : Nat → Bool} (h : MaySt a s u) {x : Int} (h0 : 0 ≤ x) (hr : ReachT a (1, x)) : MaySt a s (z4I u x.toNat) :=
 ⟨h.at', fun k hk => (z4g hk).elim (fun e => by subst e; rw [Int.toNat_of_nonneg h0]; exact hr) (h.up k), h.init, z7U h.bot⟩
def ClO (a : Aut) (s u : Nat → Bool) (i : Nat) : Prop := ∀ r ∈ a.opens.take i, s r.1.toNat = true → s r.2.2.1.toNat = true ∧ u r.2.2.2.toNat = true
def ClC (a : Aut) (s u : Nat → Bool) (i : Nat) : Prop := ∀ r ∈ a.closes.take i, s r.1.toNat = true → u r.2.2.1.toNat = true → s r.2.2.2.toNat = true
def ClN (a : Aut) (s : Nat → Bool) (i : Nat) : Prop := ∀ r ∈ a.inners.take i, s r.1.toNat = true → s r.2.2.toNat = true
theorem z2b {α : Type} {P : α → Prop} {l : List α} {i : Nat} (h : i < l.length) (ht : ∀ x ∈ l.take i, P x) (hi : P l[i]) : ∀ x ∈ l.take (i + 1), P x := fun x hx => by
 rw [List.take_succ_eq_append_getElem h] at hx;rcases List.mem_append.1 hx with hx | hx
 ·exact ht x hx
 ·rw [List.mem_singleton] at hx; subst hx; exact hi
structure RoundI (a : Aut) (n0 n1 c0 : Nat) (s u : Nat → Bool) (g : Bool) : Prop where
 st : MaySt a s u
 le : c0 ≤ z66 s n0 + z66 u n1
 lt : g = true → c0 < z66 s n0 + z66 u n1
theorem RoundI.putA {a : Aut} {n0 n1 c0 : Nat} {s u : Nat → Bool} {g : Bool} (h : RoundI a n0 n1 c0 s u g) {x : Int} (h0 : 0 ≤ x) (h1 : x < n0) (hr : ReachT a (0, x)) (hs : s x.toNat = false) : RoundI a n0 n1 c0 (z4I s x.toNat) u true := by
 have := z84 (s := s) (k := x.toNat) (n := n0) zom hs;have := h.le;exact ⟨h.st.putA h0 hr, zom, fun _ => by omega⟩
theorem RoundI.putAU {a : Aut} {n0 n1 c0 : Nat} {s u : Nat → Bool} {g : Bool} (h : RoundI a n0 n1 c0 s u g) {x y : Int} (h0 : 0 ≤ x) (h1 : x < n0) (k0 : 0 ≤ y) (k1 : y < n1) (hr : ReachT a (0, x)) (kr : ReachT a (1, y)) (hs : s x.toNat = false ∨ u y.toNat = false) : RoundI a n0 n1 c0 (z4I s x.toNat) (z4I u y.toNat) true := by
 have g1 := zdy s x.toNat n0;have g2 := zdy u y.toNat n1;have := h.le
 have : z66 s n0 + z66 u n1 < z66 (z4I s x.toNat) n0 + z66 (z4I u y.toNat) n1 := by
  rcases hs with hs | hs
  ·have := z84 (s := s) (k := x.toNat) (n := n0) zom hs; omega
  ·have := z84 (s := u) (k := y.toNat) (n := n1) zom hs; omega
 exact ⟨(h.st.putA h0 hr).putU k0 kr, zom, fun _ => by omega⟩
theorem MaySt.all {ss : List (ByteArray × Int)} {most : Int} {a : Aut} {i : Nat} (hg : GoodM ss most a i) {s u : Nat → Bool} (h : MaySt a s u) (hO : ClO a s u a.opens.length) (hC : ClC a s u a.closes.length) (hN : ClN a s a.inners.length) :
  (∀ k : Nat, s k = true ↔ ReachT a (0, (k : Int))) ∧ ∀ k : Nat, u k = true ↔ ReachT a (1, (k : Int)) := by
 unfold ClO at hO;unfold ClC at hC;unfold ClN at hN;rw [List.take_length] at hO hC hN
 have key := fun {t : Thg} => Go.Proofs.YteplpegfcpmflaaGreat.zfI (a := a) (A := fun x => s x.toNat = true) (U := fun x => u x.toNat = true) (t := t) h.init h.bot fun m hm hA hU => by
  simp only [z02, List.mem_append, List.mem_map] at hm;rcases hm with (⟨r, hr, rfl⟩ | ⟨r, hr, rfl⟩) | ⟨r, hr, rfl⟩
  ·exact hO r hr hA
  ·exact ⟨hC r hr hA hU, h.bot⟩
  ·exact ⟨hN r hr hA, h.bot⟩
 exact ⟨fun k => ⟨h.at' k, fun hr => by have := (key hr).1 rfl; rwa [Int.toNat_natCast] at this⟩, fun k => ⟨h.up k, fun hr => by have := (key hr).2 rfl; rwa [Int.toNat_natCast] at this⟩⟩
def ICells (cs : List Value) (n : Nat) (f : Nat → Int) : Prop := cs.length = n ∧ ∀ i, i < n → cs[i]? = some (.int .i64 (f i))
theorem ICells.zero (n : Nat) : ICells (rep n [.int .i64 0]) n fun _ => 0 := by
 have h : rep n [.int .i64 0] = List.replicate n (.int .i64 0) := by
  unfold rep
  induction n with
  | zero => rfl
  | succ n ih => rw [List.replicate_succ, List.flatten_cons, ih, List.replicate_succ]; rfl
 rw [h];exact ⟨by simp, fun i hi => by rw [List.getElem?_replicate, if_pos hi]⟩
theorem ICells.set {cs : List Value} {n k : Nat} {f : Nat → Int} (h : ICells cs n f) (hk : k < n) (x : Int) : ICells (cs.set k (.int .i64 x)) n fun i => if i = k then x else f i := by
 refine ⟨by rw [List.length_set, h.1], fun i hi => ?_⟩;by_cases e : i = k
 ·subst e;rw [List.getElem?_set_self (by rw [h.1]; exact hk)]; simp
 ·rw [List.getElem?_set_ne (fun q => e q.symm), h.2 i hi]; simp [e]
def IRow (H : Heap) (el : TypeId) (b n : Nat) (f : Nat → Int) : Prop := ∃ cs, H b = some (.cells cs 1 none false (some el)) ∧ ICells cs n f
theorem IRow.same {H H' : Heap} {el : TypeId} {b n : Nat} {f : Nat → Int} (h : IRow H el b n f) (hs : H' b = H b) : IRow H' el b n f := by
 obtain ⟨cs, h1, h2⟩ := h;exact ⟨cs, hs.trans h1, h2⟩
theorem IRow.iff {H : Heap} {el : TypeId} {b n : Nat} {f f' : Nat → Int} (h : IRow H el b n f) (hf : ∀ i, i < n → f i = f' i) : IRow H el b n f' := by
 obtain ⟨cs, h1, h2, h3⟩ := h;exact ⟨cs, h1, h2, fun i hi => by rw [← hf i hi]; exact h3 i hi⟩
theorem IRow.get {H : Heap} {el : TypeId} {b n : Nat} {f : Nat → Int} (h : IRow H el b n f) {j : Int} (h0 : 0 ≤ j) (h1 : j < n) : zj H ⟨b, 0 + j.toNat * 1, none⟩ (.int .i64 (f j.toNat)) := by
 obtain ⟨cs, hH, hl, hc⟩ := h;have hx := hc j.toNat zom;unfold zj z0M;simp only [hH];rw [if_pos ⟨trivial, zom⟩];obtain ⟨hjl, hje⟩ := List.getElem?_eq_some_iff.1 hx;rw [Nat.zero_add, Nat.mul_one, List.take_one, List.head?_drop, List.getElem?_eq_getElem hjl, hje];rfl
section
variable {P : Program} {W0 : World} {ops : Array Oper} {H : Heap} {nx n : Nat} {type : TypeId} {pos : String} {after : Array Edge} {l : List Oper} {tm : Nat → Value} {QQ : ASt → Prop} {el : TypeId}
theorem zeg {t : TypeId} {x y : Operand} {b m : Nat} {j v : Int} {f : Nat → Int} (hx : ASt.ev ⟨tm, n, H, nx⟩ x = some (.pointer (some ⟨b, 0 + j.toNat * 1, none⟩))) (hy : ASt.ev ⟨tm, n, H, nx⟩ y = some (.int .i64 v)) (hz : z1F P t = some 1)
  (hr : IRow H el b m f) (h0 : 0 ≤ j) (h1 : j < m) (h : ∀ H', IRow H' el b m (fun i => if i = j.toNat then v else f i) → (∀ i, i ≠ b → H' i = H i) → OpsL P W0 ops l ⟨tm, n, H', nx⟩ QQ) :
  OpsL P W0 ops (⟨none, .store t x y, type, pos, after, none⟩ :: l) ⟨tm, n, H, nx⟩ QQ := by
 obtain ⟨cs, hH, hc⟩ := hr;have hl := hc.1;refine OpsL.storeAt (a := ⟨b, 0 + j.toNat * 1, none⟩) (cs' := cs.set j.toNat (.int .i64 v)) j.toNat hx hy hz rfl rfl hH (by simp) zom rfl ?_;exact h _ ⟨_, zb, hc.set zom v⟩ fun i hi => za hi
end
end Go.Am
namespace Go.Am
open Go.RowKit
section
variable {P : Program} {W0 : World} {ops : Array Oper} {H : Heap} {nx n : Nat} {l : List Oper} {tm : Nat → Value} {QQ : ASt → Prop} {d d0 : Tmp} {t t' : TypeId} {x y : Operand} {zs vs : List Value} {k : Nat} {ty ty' ty0 : TypeId} {ps ps' ps0 : String} {af af' af0 : Array Edge}
theorem z22 (hd : d < n) (hz : z0B P t = some zs) (hy : ASt.ev ⟨zk tm (some d) (.pointer (some ⟨nx, 0, none⟩)), n, H.put nx (.cells zs 0 none false (some t)), nx + 1⟩ y = some (.agg vs.toArray)) (hs : z1F P t' = some k) (hk : vs.length = k) (hl : vs.length = zs.length) (ho : vs.all (·.oneCell') = true) (hok : ∀ id o, H id = some o → id < nx)
  (h : ∀ G, Ext nx H (nx + 1) G → (∀ id o, G id = some o → id < nx + 1) → G nx = some (.cells vs 0 none false (some t)) → OpsL P W0 ops l ⟨zk tm (some d) (.pointer (some ⟨nx, 0, none⟩)), n, G, nx + 1⟩ QQ) :
  OpsL P W0 ops (⟨some d, .alloc t, ty, ps, af, none⟩ :: ⟨none, .store t' (.tmp d) y, ty', ps', af', none⟩ :: l) ⟨tm, n, H, nx⟩ QQ := by
 refine OpsL.new hd (zB hz) ?_;refine OpsL.upd (zw (a := ⟨nx, 0, none⟩) (k := k) (u := .agg vs.toArray) (by simp [ASt.ev, zk]) hy hs (by rw [← hk]; rfl) (o := .cells vs 0 none false (some t)) (zC (vs := vs) zb hl ho)) ?_;exact h _ ⟨Nat.le_succ _, fun j hj => (za (show j ≠ nx by omega)).trans (za (show j ≠ nx by omega))⟩ (Go.Proofs.YteplpegfcpmflaaGreat.zU (zF hok) zb) zb
theorem z36 {a : Addr} {dd : TypeDesc} (hg : z0M H a k = some vs) (hok : ∀ id o, H id = some o → id < nx) (h : ∀ G, Ext nx H (nx + 1) G → (∀ id o, G id = some o → id < nx + 1) → G nx = some (.cells vs 0 none false (some t)) → OpsL P W0 ops l ⟨zk (zk tm (some d0) (.agg vs.toArray)) (some d) (.pointer (some ⟨nx, 0, none⟩)), n, G, nx + 1⟩ QQ)
  (hx : ASt.ev ⟨tm, n, H, nx⟩ x = some (.pointer (some a))) (hu : P.underlying t = some dd) (hdd : z2y dd = true) (hs : z1F P t = some k) (hk : vs.length = k) (hz : z0B P t = some zs) (hl : vs.length = zs.length) (ho : vs.all (·.oneCell') = true) (hd0 : d0 < n) (hd : d < n) (hne : d0 ≠ d) :
  OpsL P W0 ops (⟨some d0, .load t x, ty0, ps0, af0, none⟩ :: ⟨some d, .alloc t, ty, ps, af, none⟩ :: ⟨none, .store t (.tmp d) (.tmp d0), ty', ps', af', none⟩ :: l) ⟨tm, n, H, nx⟩ QQ := by
 refine z1j hd0 (zg hx hu hdd hs hg) ?_;exact z22 hd hz (by simp [ASt.ev, zk, hne]) hs hk hl ho hok h
end
end Go.Am
namespace Go.Proofs.YteplpegfcpmflaaGreat
open Go.RowKit Go.Am
attribute [local irreducible] aop OpsL Trip zI z2w OpsK OpsR
theorem zco : Am.z0U Tryz.prog 31 := ⟨Tryz.f31, Tryz.func31, by kernel_rfl, by kernel_rfl⟩
structure MayH (J0 : Heap) (m6 b1 b2 n0 n1 : Nat) (J : Heap) (m : Nat) (s u : Nat → Bool) : Prop where
 le : m6 ≤ m
 fr : ∀ j, j < m6 → j ≠ b1 → j ≠ b2 → J j = J0 j
 ok : ∀ id o, J id = some o → id < m
 ra : BRowF J 4 b1 n0 s
 ru : BRowF J 4 b2 n1 u
 l1 : b1 < m6
 l2 : b2 < m6
theorem MayH.box {J0 J G : Heap} {m6 b1 b2 n0 n1 m : Nat} {s u : Nat → Bool} (h : MayH J0 m6 b1 b2 n0 n1 J m s u) (x : Ext m J (m + 1) G) (k : ∀ id o, G id = some o → id < m + 1) : MayH J0 m6 b1 b2 n0 n1 G (m + 1) s u := by
 have h1 := h.le;have h2 := h.l1;have h3 := h.l2;exact ⟨zom, fun j a b c => (x.2 j zom).trans (h.fr j a b c), k, h.ra.same (x.2 b1 zom), h.ru.same (x.2 b2 zom), h2, h3⟩
theorem MayH.put {J0 J G : Heap} {m6 b1 b2 n0 n1 m : Nat} {s u s' u' : Nat → Bool} (h : MayH J0 m6 b1 b2 n0 n1 J m s u) (f : ∀ j, j ≠ b1 → j ≠ b2 → G j = J j) (ra : BRowF G 4 b1 n0 s') (ru : BRowF G 4 b2 n1 u') : MayH J0 m6 b1 b2 n0 n1 G m s' u' := by
 have h1 := h.le;have h2 := h.l1;have h3 := h.l2;refine ⟨h1, fun j a b c => (f j b c).trans (h.fr j a b c), fun id o ho => ?_, ra, ru, h2, h3⟩;by_cases e1 : id = b1
 ·omega
 ·by_cases e2 : id = b2
  ·omega
  ·rw [f id e1 e2] at ho; exact h.ok id o ho
theorem ziv (W0 : World) {nx : Nat} {H : Heap} {ss : List (ByteArray × Int)} {most : Int} {a : Aut} {gi : Nat} {vi vf vo vc vn : Value} (hg : GoodM ss most a gi) (hm : most ≤ 200) (hgi : gi ≤ 1000) (ha : AutIn H a vi vf vo vc vn) :
  ACalls Tryz.prog W0 31 [.agg (zy a vi vf vo vc vn).toArray] nx H fun v nx' H' => ∃ b1 b2 n0 n1 : Nat, v = .tuple #[.slice (some ⟨b1, 0, none⟩) n0 n0, .slice (some ⟨b2, 0, none⟩) n1 n1] ∧ a.N = (n0 : Int) ∧ a.G = (n1 : Int) - 1 ∧ nx ≤ b1 ∧ b1 < nx' ∧ nx ≤ b2 ∧ b2 < nx' ∧ BRow H' 4 b1 n0 (fun k => ReachT a (0, (k : Int))) ∧ BRow H' 4 b2 n1 (fun k => ReachT a (1, (k : Int))) ∧ Ext nx H nx' H' := by
 obtain ⟨ia, ic, rfl⟩ := ha.init.slice;obtain ⟨fa, fc, rfl⟩ := ha.final.slice;obtain ⟨oa, oc, rfl⟩ := ha.opens.slice;obtain ⟨ca, cc, rfl⟩ := ha.closes.slice;obtain ⟨na, nc, rfl⟩ := ha.inners.slice;have hN0 := hg.N0;have hN1 := hg.N1;have hG0 := hg.G0;have hG1 := hg.G1;obtain ⟨n0, hn0⟩ : ∃ n0 : Nat, a.N = (n0 : Int) := ⟨a.N.toNat, zom⟩;obtain ⟨n1, hn1⟩ : ∃ n1 : Nat, a.G = (n1 : Int) - 1 := ⟨(a.G + 1).toNat, zom⟩;obtain ⟨l2, l3, l4, l5, l6⟩ := hg.len;have cS : ∀ x ∈ a.init, 0 ≤ x ∧ x < (n0 : Int) := fun x hx => by have := List.all_eq_true.1 hg.init x hx; rw [hn0] at this; simpa [stF] using this
 refine zl (fn := Tryz.f31) (c := _) Tryz.func31 rfl (fun tm n hn htm => ?_);have e0 : tm 0 = .agg (zy a (.slice ia a.init.length ic) (.slice fa a.final.length fc) (.slice oa a.opens.length oc) (.slice ca a.closes.length cc) (.slice na a.inners.length nc)).toArray := htm 0;clear htm;replace hn : n = 146 := hn;refine Trip.ok fun hok => ?_;replace hok : ∀ id o, H id = some o → id < nx := hok;refine z5L ?_;refine OpsL.new zsd (z0f evr) ?_;obtain ⟨H5, hH5⟩ : ∃ G, G = H.put nx (.cells (Value.agg (zy a (.slice ia a.init.length ic) (.slice fa a.final.length fc) (.slice oa a.opens.length oc) (.slice ca a.closes.length cc) (.slice na a.inners.length nc)).toArray).cells.toList 0 none false (some 30)) := ⟨_, rfl⟩;obtain ⟨m5, hm5⟩ : ∃ q, q = nx + 1 := ⟨_, rfl⟩;have x5 : Ext nx H m5 H5 := by rw [hH5, hm5]; exact zh
 have k5 : ∀ id o, H5 id = some o → id < m5 := by rw [hH5, hm5]; exact zF hok
 have b5 : H5 nx = some (.cells (zy a (.slice ia a.init.length ic) (.slice fa a.final.length fc) (.slice oa a.opens.length oc) (.slice ca a.closes.length cc) (.slice na a.inners.length nc)) 0 none false (some 30)) := by rw [hH5, zb]; rfl
 rw [← hH5, ← hm5];clear hH5 e0;refine zgS ?_;refine Trip.mono (Q := fun e st => e = .normal ∧ ∃ (tm' : Nat → Value) (b1 b2 m6 : Nat) (J : Heap), st = ⟨tm', n, J, m6⟩ ∧ Ext m5 H5 m6 J ∧ (∀ id o, J id = some o → id < m6) ∧ m5 ≤ b1 ∧ b1 < m6 ∧ m5 ≤ b2 ∧ b2 < m6 ∧ b1 ≠ b2 ∧ BRow J 4 b1 n0 (fun _ => False) ∧ BRow J 4 b2 n1 (fun _ => False) ∧ tm' 1 = .pointer (some ⟨nx, 0, none⟩) ∧ tm' 4 = .slice (some ⟨b1, 0, none⟩) n0 n0 ∧ tm' 5 = .slice (some ⟨b2, 0, none⟩) n1 n1) ?_ ?_
 ·refine OpsR.drawn [2, 6, 7, 8] (K := fun nx1 H1 => Ext m5 H5 nx1 H1) z0V krf krf [0, 1, 3, 4, 5, 2, 6, 7, 8] krf Ext.refl ?_;refine zg4 ?_;refine zA (v := .int .i64 (n0 : Int)) rfl krf zsd Ext.refl (fun HH nn hK => zp evr zxr rfl (by rw [Nat.zero_add, ← hn0]; exact ze ((hK.2 nx zom).trans b5) rfl)) ?_;refine zg4 ?_;refine zA (v := .int .i64 ((n1 : Int) - 1)) rfl krf zsd Ext.refl (fun HH nn hK => zp evr zxr rfl (by rw [Nat.zero_add, ← hn1]; exact ze ((hK.2 nx zom).trans b5) rfl)) ?_;refine zg1 ?_;refine zd (v := .int .i64 (n1 : Int)) (by rw [show (.int .i64 (n1 : Int) : Value) = .int .i64 ((n1 : Int) - 1 + 1) by rw [Int.sub_add_cancel]]; exact z6P) ?_;refine OpsL.nil ?_;refine zY krf ?_ ?_
  ·refine zt rfl rfl ?_;refine OpsL.new (v := .slice (some ⟨m5, 0, none⟩) n0 n0) (o := .cells (rep n0 [.bool false]) 1 none false (some 4)) zsd (z1v evd evd (z18 (el := 4) zxr zxr zxr zxr zom)) ?_;obtain ⟨Ja, hJa⟩ : ∃ Q, Q = H5.put m5 (.cells (rep n0 [.bool false]) 1 none false (some 4)) := ⟨_, rfl⟩;have xJa : Ext m5 H5 (m5 + 1) Ja := by rw [hJa]; exact zh
   have kJa : ∀ id o, Ja id = some o → id < m5 + 1 := by rw [hJa]; exact zF k5
   have rJa : BRow Ja 4 m5 n0 (fun _ => False) := by rw [hJa]; exact BRow.new
   have EJa : Ext m5 H5 (m5 + 1) Ja := (Ext.refl : Ext m5 H5 m5 H5).trans xJa;rw [← hJa];clear hJa;refine OpsL.nil ⟨EJa, ?_⟩;refine zY krf ?_ ?_
   ·refine zt rfl rfl ?_;refine OpsL.new (v := .slice (some ⟨(m5 + 1), 0, none⟩) n1 n1) (o := .cells (rep n1 [.bool false]) 1 none false (some 4)) zsd (z1v evd evd (z18 (el := 4) zxr zxr zxr zxr zom)) ?_;obtain ⟨Jb, hJb⟩ : ∃ Q, Q = Ja.put (m5 + 1) (.cells (rep n1 [.bool false]) 1 none false (some 4)) := ⟨_, rfl⟩;have xJb : Ext (m5 + 1) Ja ((m5 + 1) + 1) Jb := by rw [hJb]; exact zh
    have kJb : ∀ id o, Jb id = some o → id < (m5 + 1) + 1 := by rw [hJb]; exact zF kJa
    have rJb : BRow Jb 4 (m5 + 1) n1 (fun _ => False) := by rw [hJb]; exact BRow.new
    have EJb : Ext m5 H5 ((m5 + 1) + 1) Jb := EJa.trans xJb;rw [← hJb];clear hJb;have raJb := rJa.same (xJb.2 m5 zom);refine OpsL.nil ⟨EJb, ?_⟩;refine zg5 ?_;refine zd z0E ?_;refine OpsL.nil ⟨EJb, ?_⟩;refine zg5 ?_;refine zd z0E ?_;refine OpsL.nil ⟨EJb, ?_⟩;refine z0T ?_;exact ⟨rfl, _, m5, (m5 + 1), _, _, rfl, EJb, kJb, zom, zom, zom, zom, zom, raJb, rJb, stp, stp, stp⟩
   ·refine zt rfl rfl ?_;refine zd z0E ?_;refine OpsL.nil ⟨EJa, ?_⟩;refine zg5 ?_;refine OpsL.new (v := .slice (some ⟨(m5 + 1), 0, none⟩) n1 n1) (o := .cells (rep n1 [.bool false]) 1 none false (some 4)) zsd (z1v evd evd (z18 (el := 4) zxr zxr zxr zxr zom)) ?_;obtain ⟨Jb, hJb⟩ : ∃ Q, Q = Ja.put (m5 + 1) (.cells (rep n1 [.bool false]) 1 none false (some 4)) := ⟨_, rfl⟩;have xJb : Ext (m5 + 1) Ja ((m5 + 1) + 1) Jb := by rw [hJb]; exact zh
    have kJb : ∀ id o, Jb id = some o → id < (m5 + 1) + 1 := by rw [hJb]; exact zF kJa
    have rJb : BRow Jb 4 (m5 + 1) n1 (fun _ => False) := by rw [hJb]; exact BRow.new
    have EJb : Ext m5 H5 ((m5 + 1) + 1) Jb := EJa.trans xJb;rw [← hJb];clear hJb;have raJb := rJa.same (xJb.2 m5 zom);refine OpsL.nil ⟨EJb, ?_⟩;refine zg5 ?_;refine zd z0E ?_;refine OpsL.nil ⟨EJb, ?_⟩;refine z0T ?_;exact ⟨rfl, _, m5, (m5 + 1), _, _, rfl, EJb, kJb, zom, zom, zom, zom, zom, raJb, rJb, stp, stp, stp⟩
  ·refine zt rfl rfl ?_;refine OpsL.new (v := .slice (some ⟨m5, 0, none⟩) n1 n1) (o := .cells (rep n1 [.bool false]) 1 none false (some 4)) zsd (z1v evd evd (z18 (el := 4) zxr zxr zxr zxr zom)) ?_;obtain ⟨Jb, hJb⟩ : ∃ Q, Q = H5.put m5 (.cells (rep n1 [.bool false]) 1 none false (some 4)) := ⟨_, rfl⟩;have xJb : Ext m5 H5 (m5 + 1) Jb := by rw [hJb]; exact zh
   have kJb : ∀ id o, Jb id = some o → id < m5 + 1 := by rw [hJb]; exact zF k5
   have rJb : BRow Jb 4 m5 n1 (fun _ => False) := by rw [hJb]; exact BRow.new
   have EJb : Ext m5 H5 (m5 + 1) Jb := (Ext.refl : Ext m5 H5 m5 H5).trans xJb;rw [← hJb];clear hJb;refine OpsL.nil ⟨EJb, ?_⟩;refine zg5 ?_;refine OpsL.new (v := .slice (some ⟨(m5 + 1), 0, none⟩) n0 n0) (o := .cells (rep n0 [.bool false]) 1 none false (some 4)) zsd (z1v evd evd (z18 (el := 4) zxr zxr zxr zxr zom)) ?_;obtain ⟨Ja, hJa⟩ : ∃ Q, Q = Jb.put (m5 + 1) (.cells (rep n0 [.bool false]) 1 none false (some 4)) := ⟨_, rfl⟩;have xJa : Ext (m5 + 1) Jb ((m5 + 1) + 1) Ja := by rw [hJa]; exact zh
   have kJa : ∀ id o, Ja id = some o → id < (m5 + 1) + 1 := by rw [hJa]; exact zF kJb
   have rJa : BRow Ja 4 (m5 + 1) n0 (fun _ => False) := by rw [hJa]; exact BRow.new
   have EJa : Ext m5 H5 ((m5 + 1) + 1) Ja := EJb.trans xJa;rw [← hJa];clear hJa;have rbJa := rJb.same (xJa.2 m5 zom);refine OpsL.nil ⟨EJa, ?_⟩;refine zg5 ?_;refine zd z0E ?_;refine OpsL.nil ⟨EJa, ?_⟩;refine zg5 ?_;refine zd z0E ?_;refine OpsL.nil ⟨EJa, ?_⟩;refine z0T ?_;exact ⟨rfl, _, (m5 + 1), m5, _, _, rfl, EJa, kJa, zom, zom, zom, zom, zom, rJa, rbJa, stp, stp, stp⟩
 rintro e st ⟨rfl, tm6, b1, b2, m6, J0, rfl, x6, k6, hb1, hb1', hb2, hb2', hbne, r1, r2, e1, e4, e5⟩
 (change Trip _ _ _ _ _)
 have hle6 := x6.1;have bA := (x6.2 nx zom).trans b5;have xA : Ext nx H m6 J0 := x5.trans x6;have hAt : ∀ {J : Heap}, (∀ j, j < m6 → j ≠ b1 → j ≠ b2 → J j = J0 j) → AutIn J a (.slice ia a.init.length ic) (.slice fa a.final.length fc) (.slice oa a.opens.length oc) (.slice ca a.closes.length cc) (.slice na a.inners.length nc) := fun {J} fr => ha.ext (⟨Nat.le_refl _, fun j hj => (fr j zom zom zom).trans (xA.2 j hj)⟩ : Ext nx H nx J) hok;have hat : ∀ {J : Heap}, (∀ j, j < m6 → j ≠ b1 → j ≠ b2 → J j = J0 j) → J nx = some (.cells (zy a (.slice ia a.init.length ic) (.slice fa a.final.length fc) (.slice oa a.opens.length oc) (.slice ca a.closes.length cc) (.slice na a.inners.length nc)) 0 none false (some 30)) := fun {J} fr => (fr nx zom zom zom).trans bA;clear x5 b5 x6 bA;refine zgK ?_;refine z2d (b := b2) (m := n1) (j := 0) evr evr zxr r2 zom zom fun J1 r2' f2 => ?_
 have h1 : MayH J0 m6 b1 b2 n0 n1 J1 m6 (fun _ => false) (z4I (fun _ => false) 0) := by
  refine MayH.put (J := J0) (s := fun _ => false) (u := fun _ => false) ⟨Nat.le_refl _, fun _ _ _ _ => rfl, k6, r1.iff fun k _ => by simp, r2.iff fun k _ => by simp, hb1', hb2'⟩ (fun j _ hj => f2 j hj) ((r1.same (f2 b1 hbne)).iff fun k _ => by simp) (r2'.iff fun k _ => by unfold z4I; simp)
 clear r1 r2 r2' f2 k6;refine z7B ?_;refine Trip.mono (Q := fun e st => e = .exit 0 ∧ ∃ (tm' : Nat → Value) (J : Heap) (s : Nat → Bool), st = ⟨tm', n, J, m6⟩ ∧ MayH J0 m6 b1 b2 n0 n1 J m6 s (z4I (fun _ => false) 0) ∧ MaySt a s (z4I (fun _ => false) 0) ∧ tm' 1 = .pointer (some ⟨nx, 0, none⟩) ∧ tm' 4 = .slice (some ⟨b1, 0, none⟩) n0 n0 ∧ tm' 5 = .slice (some ⟨b2, 0, none⟩) n1 n1) ?_ ?_
 ·refine zD (fun (i : Nat) st => ∃ (tm' : Nat → Value) (J : Heap) (s : Nat → Bool), st = ⟨tm', n, J, m6⟩ ∧ MayH J0 m6 b1 b2 n0 n1 J m6 s (z4I (fun _ => false) 0) ∧ (∀ k : Nat, s k = true → ReachT a (0, (k : Int))) ∧ (∀ x ∈ a.init.take i, s x.toNat = true) ∧ tm' 1 = .pointer (some ⟨nx, 0, none⟩) ∧ tm' 4 = .slice (some ⟨b1, 0, none⟩) n0 n0 ∧ tm' 5 = .slice (some ⟨b2, 0, none⟩) n1 n1 ∧ tm' 6 = .int .i64 (i : Int) ∧ i ≤ a.init.length) (fun i => a.init.length - i) 0 ?_ ?_
  ·exact ⟨_, _, _, rfl, h1, fun k hk => (by cases hk), fun x hx => (by cases hx), stp, stp, stp, stp, Nat.zero_le _⟩
  ·clear e1 e4 e5 h1;rintro i st ⟨tm', J, s, rfl, hH, hs, hini, e1, e4, e5, ei, hi⟩;have cF : zj J ⟨nx, 2, none⟩ (.slice ia a.init.length ic) := ze (hat hH.fr) rfl;by_cases hlt : i < a.init.length
   case neg =>
    have hie : i = a.init.length := by omega
    subst hie;rw [List.take_length] at hini;refine z4v ?_;refine ⟨rfl, _, _, _, rfl, hH, ⟨hs, fun k hk => ?_, hini, zdp _ _⟩, stp, stp, stp⟩;rcases z4g hk with rfl | hk
    ·exact .bot
    ·cases hk
   case pos =>
    obtain ⟨p, hp, gr⟩ := z17 (hAt hH.fr).init hlt;subst hp;obtain ⟨r, hr⟩ : ∃ r, a.init[i] = r := ⟨_, rfl⟩;have hmem : r ∈ a.init := by rw [← hr]; exact List.getElem_mem hlt
    obtain ⟨t0, t1⟩ := cS r hmem;rw [hr] at gr;refine z9J ?_;refine zcW ?_;refine z2d (b := b1) (m := n0) (j := r) evr evr zxr hH.ra t0 t1 fun K2 r1' f2 => ?_;have hH2 := hH.put (fun j h _ => f2 j h) r1'.putS (hH.ru.same (f2 b2 (Ne.symm hbne)));refine zg8 ?_;exact ⟨i + 1, ⟨_, _, _, rfl, hH2, fun k hk => (z4g hk).elim (fun e => by subst e; rw [Int.toNat_of_nonneg t0]; exact .init hmem) (hs k), z2b hlt (fun x hx => z7U (hini x hx)) (by rw [hr]; exact zdp _ _), stp, stp, stp, stp, zom⟩, zom⟩
 clear e1 e4 e5 h1;rintro e st ⟨rfl, tm7, J1, s1, rfl, hH, hS, e1, e4, e5⟩;refine z5g ?_;refine Trip.mono (Q := fun e st => e = .exit 2 ∧ ∃ (tm' : Nat → Value) (J : Heap) (m : Nat) (s u : Nat → Bool), st = ⟨tm', n, J, m⟩ ∧ MayH J0 m6 b1 b2 n0 n1 J m s u ∧ (∀ k : Nat, s k = true ↔ ReachT a (0, (k : Int))) ∧ (∀ k : Nat, u k = true ↔ ReachT a (1, (k : Int))) ∧ tm' 1 = .pointer (some ⟨nx, 0, none⟩) ∧ tm' 4 = .slice (some ⟨b1, 0, none⟩) n0 n0 ∧ tm' 5 = .slice (some ⟨b2, 0, none⟩) n1 n1) ?_ ?_
 ·refine zD (fun (q : (Nat → Bool) × (Nat → Bool) × Bool) st => ∃ (tm' : Nat → Value) (J : Heap) (m : Nat), st = ⟨tm', n, J, m⟩ ∧ MayH J0 m6 b1 b2 n0 n1 J m q.1 q.2.1 ∧ MaySt a q.1 q.2.1 ∧ (q.2.2 = false → ClO a q.1 q.2.1 a.opens.length ∧ ClC a q.1 q.2.1 a.closes.length ∧ ClN a q.1 a.inners.length) ∧ tm' 1 = .pointer (some ⟨nx, 0, none⟩) ∧ tm' 4 = .slice (some ⟨b1, 0, none⟩) n0 n0 ∧ tm' 5 = .slice (some ⟨b2, 0, none⟩) n1 n1 ∧ tm' 7 = .bool q.2.2) (fun q => 2 * (n0 + n1 - (z66 q.1 n0 + z66 q.2.1 n1)) + if q.2.2 then 1 else 0) (s1, z4I (fun _ => false) 0, true) ?_ ?_
  ·exact ⟨_, _, _, rfl, hH, hS, fun h => (by cases h), stp, stp, stp, stp⟩
  ·clear e1 e4 e5 hH hS;rintro ⟨s0, u0, g0⟩ st ⟨tm', J, m, rfl, hH, hS, hC, e1, e4, e5, e7⟩;dsimp only at hH hS hC e7;cases g0 with
   | false =>
    obtain ⟨hO, hC, hI⟩ := hC rfl;obtain ⟨q1, q2⟩ := hS.all hg hO hC hI;refine z7A ?_
    repeat fail
    refine z0a ?_
    repeat (refine Trip.exit ?_; (dsimp only))
    exact ⟨rfl, _, _, _, _, _, rfl, hH, q1, q2, stp, stp, stp⟩
   | true =>
    clear hC;obtain ⟨c0, hc0⟩ : ∃ c0, c0 = z66 s0 n0 + z66 u0 n1 := ⟨_, rfl⟩;have hR : RoundI a n0 n1 c0 s0 u0 false := ⟨hS, zom, fun h => (by cases h)⟩;refine z7A ?_
    repeat fail
    refine z0F ?_;refine zfO ?_;refine Trip.mono (Q := fun e st => e = .exit 4 ∧ ∃ (tm' : Nat → Value) (J : Heap) (m : Nat) (s' u' : Nat → Bool) (g : Bool), st = ⟨tm', n, J, m⟩ ∧ MayH J0 m6 b1 b2 n0 n1 J m s' u' ∧ RoundI a n0 n1 c0 s' u' g ∧ (g = false → ClO a s' u' a.opens.length) ∧ tm' 1 = .pointer (some ⟨nx, 0, none⟩) ∧ tm' 4 = .slice (some ⟨b1, 0, none⟩) n0 n0 ∧ tm' 5 = .slice (some ⟨b2, 0, none⟩) n1 n1 ∧ tm' 7 = .bool g) ?_ ?_
    ·refine zD (fun (i : Nat) st => ∃ (tm' : Nat → Value) (J : Heap) (m : Nat) (s' u' : Nat → Bool) (g : Bool), st = ⟨tm', n, J, m⟩ ∧ MayH J0 m6 b1 b2 n0 n1 J m s' u' ∧ RoundI a n0 n1 c0 s' u' g ∧ (g = false → ClO a s' u' i) ∧ tm' 1 = .pointer (some ⟨nx, 0, none⟩) ∧ tm' 4 = .slice (some ⟨b1, 0, none⟩) n0 n0 ∧ tm' 5 = .slice (some ⟨b2, 0, none⟩) n1 n1 ∧ tm' 7 = .bool g ∧ tm' 8 = .int .i64 (i : Int) ∧ i ≤ a.opens.length) (fun i => a.opens.length - i) 0 ?_ ?_
     ·exact ⟨_, _, _, _, _, _, rfl, hH, hR, fun _ => fun r hr => (by cases hr), stp, stp, stp, stp, stp, Nat.zero_le _⟩
     ·clear e1 e4 e5 e7 hH hR hS;rintro i st ⟨tm', J, m, s', u', g, rfl, hH, hR, hC, e1, e4, e5, e7, ei, hi⟩;have cF : zj J ⟨nx, 4, none⟩ (.slice oa a.opens.length oc) := ze (hat hH.fr) rfl;by_cases hlt : i < a.opens.length
      case neg =>
       have hie : i = a.opens.length := by omega
       subst hie;refine z4v ?_;exact ⟨rfl, _, _, _, _, _, _, rfl, hH, hR, hC, stp, stp, stp, stp⟩
      case pos =>
       obtain ⟨p, hp, gr⟩ := zS (hAt hH.fr).opens hlt;subst hp;obtain ⟨r, hr⟩ : ∃ r, a.opens[i] = r := ⟨_, rfl⟩;have hmem : r ∈ a.opens := by rw [← hr]; exact List.getElem_mem hlt
       have hgd := z8P hg hmem;rw [hn0, hn1] at hgd;obtain ⟨⟨f0, f1⟩, -, ⟨t0, t1⟩, p0, p1⟩ := hgd;rw [hr] at gr;refine z9J ?_;refine zcW ?_;refine z36 (k := 4) (vs := Go.Am.e4 r) (zs := (rep 4 [.int .i64 0])) gr hH.ok (fun G xG kG bG => ?_) evr zxr rfl zxr rfl krf rfl rfl zsd zsd (by decide);clear gr;have hmb : m ≠ b1 ∧ m ≠ b2 := by have := hH.l1; have := hH.l2; have := hH.le; omega
       replace hH := hH.box xG kG;have d0 : zj G ⟨m, 0, none⟩ (.int .i64 r.1) := ze bG rfl;have d2 : zj G ⟨m, 2, none⟩ (.int .i64 r.2.2.1) := ze bG rfl;have d3 : zj G ⟨m, 3, none⟩ (.int .i64 r.2.2.2) := ze bG rfl;have y0 := hH.ra.get (j := r.1) f0 zom;have yt := hH.ra.get (j := r.2.2.1) t0 zom;have yp := hH.ru.get (j := r.2.2.2) zom zom;cases hf : s' r.1.toNat with
       | false =>
        rw [hf] at y0
        repeat (first | (refine zd (by first | exact omv | exact z45 | exact ofa | exact old | exact z3i) ?_) | refine Trip.seq ?_ | refine zm ?_ | (refine OpsL.nil ?_; (change Trip _ _ _ _ _)) | refine zQ ?_ | refine z3u ?_)
        refine zg3 ?_;exact ⟨i + 1, ⟨_, _, _, _, _, _, rfl, hH, hR, fun hg0 => z2b hlt (hC hg0) (by rw [hr]; exact fun q => (by rw [hf] at q; cases q)), stp, stp, stp, stp, stp, zom⟩, zom⟩
       | true =>
        rw [hf] at y0;cases ht : s' r.2.2.1.toNat with
        | false =>
         rw [ht] at yt
         repeat (first | (refine zd (by first | exact omv | exact z8y | exact z45 | exact ofa | exact old | exact z2R) ?_) | refine Trip.seq ?_ | refine zm ?_ | (refine OpsL.nil ?_; (change Trip _ _ _ _ _)) | refine zz ?_ | refine zQ ?_)
         refine z0F ?_
         repeat fail
         have hre := hR.st.move (m := z0Y r) (List.mem_append.2 (.inl (List.mem_append.2 (.inl (List.mem_map.2 ⟨r, hmem, rfl⟩))))) f0 (Int.le_refl 0) hf hR.st.bot;refine OpsR.drawn [7, 9] (K := fun _ HH => ∀ j, j ≠ b1 → j ≠ b2 → HH j = G j) z0V krf krf [0, 1, 2, 3, 4, 5, 6, 7, 8, 9, 10] krf (fun _ _ _ => rfl) ?_;refine zes ?_;refine zg4 ?_;refine zA (v := .int .i64 r.2.2.1) rfl krf zsd (fun _ _ _ => rfl) (fun HH nn hK => zp evr zxr rfl (by rw [Nat.zero_add]; exact ze ((hK m hmb.1 hmb.2).trans bG) rfl)) ?_;refine zbJ ?_;refine zA (v := .int .i64 r.2.2.2) rfl krf zsd (fun _ _ _ => rfl) (fun HH nn hK => zp evr zxr rfl (by rw [Nat.zero_add]; exact ze ((hK m hmb.1 hmb.2).trans bG) rfl)) ?_;refine z3L ?_;refine zg5 ?_;refine z2d (b := b1) (m := n0) (j := r.2.2.1) evr evr zxr hH.ra t0 zom fun K2 r1' f2 => ?_;refine OpsL.nil ⟨fun j h1 h2 => f2 j h1, ?_⟩;refine z3L ?_;refine zg5 ?_;refine z2d (b := b2) (m := n1) (j := r.2.2.2) evr evr zxr (hH.ru.same (f2 b2 (Ne.symm hbne))) zom zom fun K3 r2' f3 => ?_;refine OpsL.nil ⟨fun j h1 h2 => (f3 j h2).trans (f2 j h1), ?_⟩;refine zgV ?_;refine zg9 ?_;exact ⟨i + 1, ⟨_, _, _, _, _, _, rfl, hH.put (fun j h1 h2 => (f3 j h2).trans (f2 j h1)) (r1'.same (f3 b1 hbne)).putS r2'.putS, hR.putAU t0 zom zom zom hre.1 hre.2 (.inl ht), fun hg0 => (by cases hg0), stp, stp, stp, stp, stp, zom⟩, zom⟩
        | true =>
         rw [ht] at yt;cases hp : u' r.2.2.2.toNat with
         | true =>
          rw [hp] at yp;refine zh6 ?_;refine zg3 ?_;exact ⟨i + 1, ⟨_, _, _, _, _, _, rfl, hH, hR, fun hg0 => z2b hlt (hC hg0) (by rw [hr]; exact fun _ => ⟨ht, hp⟩), stp, stp, stp, stp, stp, zom⟩, zom⟩
         | false =>
          rw [hp] at yp;refine zh6 ?_;refine z0F ?_
          repeat fail
          have hre := hR.st.move (m := z0Y r) (List.mem_append.2 (.inl (List.mem_append.2 (.inl (List.mem_map.2 ⟨r, hmem, rfl⟩))))) f0 (Int.le_refl 0) hf hR.st.bot;refine OpsR.drawn [7, 9] (K := fun _ HH => ∀ j, j ≠ b1 → j ≠ b2 → HH j = G j) z0V krf krf [0, 1, 2, 3, 4, 5, 6, 7, 8, 9, 10] krf (fun _ _ _ => rfl) ?_;refine zes ?_;refine zg4 ?_;refine zA (v := .int .i64 r.2.2.1) rfl krf zsd (fun _ _ _ => rfl) (fun HH nn hK => zp evr zxr rfl (by rw [Nat.zero_add]; exact ze ((hK m hmb.1 hmb.2).trans bG) rfl)) ?_;refine zbJ ?_;refine zA (v := .int .i64 r.2.2.2) rfl krf zsd (fun _ _ _ => rfl) (fun HH nn hK => zp evr zxr rfl (by rw [Nat.zero_add]; exact ze ((hK m hmb.1 hmb.2).trans bG) rfl)) ?_;refine z3L ?_;refine zg5 ?_;refine z2d (b := b1) (m := n0) (j := r.2.2.1) evr evr zxr hH.ra t0 zom fun K2 r1' f2 => ?_;refine OpsL.nil ⟨fun j h1 h2 => f2 j h1, ?_⟩;refine z3L ?_;refine zg5 ?_;refine z2d (b := b2) (m := n1) (j := r.2.2.2) evr evr zxr (hH.ru.same (f2 b2 (Ne.symm hbne))) zom zom fun K3 r2' f3 => ?_;refine OpsL.nil ⟨fun j h1 h2 => (f3 j h2).trans (f2 j h1), ?_⟩;refine zgV ?_;refine zg9 ?_;exact ⟨i + 1, ⟨_, _, _, _, _, _, rfl, hH.put (fun j h1 h2 => (f3 j h2).trans (f2 j h1)) (r1'.same (f3 b1 hbne)).putS r2'.putS, hR.putAU t0 zom zom zom hre.1 hre.2 (.inr hp), fun hg0 => (by cases hg0), stp, stp, stp, stp, stp, zom⟩, zom⟩
    clear e1 e4 e5 e7 hH hR hS;rintro e st ⟨rfl, tm9, J, m, s', u', g, rfl, hH, hR, hC, e1, e4, e5, e7⟩;refine z5g ?_;refine Trip.mono (Q := fun e st => e = .exit 6 ∧ ∃ (tm' : Nat → Value) (J : Heap) (m : Nat) (s' u' : Nat → Bool) (g : Bool), st = ⟨tm', n, J, m⟩ ∧ MayH J0 m6 b1 b2 n0 n1 J m s' u' ∧ RoundI a n0 n1 c0 s' u' g ∧ (g = false → ClO a s' u' a.opens.length ∧ ClC a s' u' a.closes.length) ∧ tm' 1 = .pointer (some ⟨nx, 0, none⟩) ∧ tm' 4 = .slice (some ⟨b1, 0, none⟩) n0 n0 ∧ tm' 5 = .slice (some ⟨b2, 0, none⟩) n1 n1 ∧ tm' 7 = .bool g) ?_ ?_
    ·refine zD (fun (i : Nat) st => ∃ (tm' : Nat → Value) (J : Heap) (m : Nat) (s' u' : Nat → Bool) (g : Bool), st = ⟨tm', n, J, m⟩ ∧ MayH J0 m6 b1 b2 n0 n1 J m s' u' ∧ RoundI a n0 n1 c0 s' u' g ∧ (g = false → ClO a s' u' a.opens.length ∧ ClC a s' u' i) ∧ tm' 1 = .pointer (some ⟨nx, 0, none⟩) ∧ tm' 4 = .slice (some ⟨b1, 0, none⟩) n0 n0 ∧ tm' 5 = .slice (some ⟨b2, 0, none⟩) n1 n1 ∧ tm' 7 = .bool g ∧ tm' 10 = .int .i64 (i : Int) ∧ i ≤ a.closes.length) (fun i => a.closes.length - i) 0 ?_ ?_
     ·exact ⟨_, _, _, _, _, _, rfl, hH, hR, fun hg0 => ⟨hC hg0, fun r hr => (by cases hr)⟩, stp, stp, stp, stp, stp, Nat.zero_le _⟩
     ·clear e1 e4 e5 e7 hH hR hC;rintro i st ⟨tm', J, m, s', u', g, rfl, hH, hR, hC, e1, e4, e5, e7, ei, hi⟩;have cF : zj J ⟨nx, 5, none⟩ (.slice ca a.closes.length cc) := ze (hat hH.fr) rfl;by_cases hlt : i < a.closes.length
      case neg =>
       have hie : i = a.closes.length := by omega
       subst hie;refine z4v ?_;exact ⟨rfl, _, _, _, _, _, _, rfl, hH, hR, hC, stp, stp, stp, stp⟩
      case pos =>
       obtain ⟨p, hp, gr⟩ := zS (hAt hH.fr).closes hlt;subst hp;obtain ⟨r, hr⟩ : ∃ r, a.closes[i] = r := ⟨_, rfl⟩;have hmem : r ∈ a.closes := by rw [← hr]; exact List.getElem_mem hlt
       have hgd := zb4 hg hmem;rw [hn0, hn1] at hgd;obtain ⟨⟨f0, f1⟩, -, ⟨t0, t1⟩, p0, p1⟩ := hgd;rw [hr] at gr;refine z9J ?_;refine zcW ?_;refine z36 (k := 4) (vs := Go.Am.e4 r) (zs := (rep 4 [.int .i64 0])) gr hH.ok (fun G xG kG bG => ?_) evr zxr rfl zxr rfl krf rfl rfl zsd zsd (by decide);clear gr;replace hH := hH.box xG kG;have d0 : zj G ⟨m, 0, none⟩ (.int .i64 r.1) := ze bG rfl;have d2 : zj G ⟨m, 2, none⟩ (.int .i64 r.2.2.1) := ze bG rfl;have d3 : zj G ⟨m, 3, none⟩ (.int .i64 r.2.2.2) := ze bG rfl;have y0 := hH.ra.get (j := r.1) f0 zom;have yt := hH.ra.get (j := r.2.2.2) t0 zom;have yp := hH.ru.get (j := r.2.2.1) zom zom;cases hf : s' r.1.toNat with
       | false =>
        rw [hf] at y0;refine zie ?_;exact ⟨i + 1, ⟨_, _, _, _, _, _, rfl, hH, hR, fun hg0 => ⟨(hC hg0).1, z2b hlt (hC hg0).2 (by rw [hr]; exact fun q => (by rw [hf] at q; cases q))⟩, stp, stp, stp, stp, stp, zom⟩, zom⟩
       | true =>
        rw [hf] at y0;cases hp : u' r.2.2.1.toNat with
        | false =>
         rw [hp] at yp
         repeat (first | (refine zd (by first | exact omv | exact z45 | exact ofa | exact old | exact z2R | exact z3i) ?_) | refine Trip.seq ?_ | refine zm ?_ | (refine OpsL.nil ?_; (change Trip _ _ _ _ _)) | refine zz ?_ | refine zQ ?_)
         refine zg3 ?_;exact ⟨i + 1, ⟨_, _, _, _, _, _, rfl, hH, hR, fun hg0 => ⟨(hC hg0).1, z2b hlt (hC hg0).2 (by rw [hr]; exact fun _ q => (by rw [hp] at q; cases q))⟩, stp, stp, stp, stp, stp, zom⟩, zom⟩
        | true =>
         rw [hp] at yp;cases ht : s' r.2.2.2.toNat with
         | true =>
          rw [ht] at yt;refine zi6 ?_;refine zg3 ?_;exact ⟨i + 1, ⟨_, _, _, _, _, _, rfl, hH, hR, fun hg0 => ⟨(hC hg0).1, z2b hlt (hC hg0).2 (by rw [hr]; exact fun _ _ => ht)⟩, stp, stp, stp, stp, stp, zom⟩, zom⟩
         | false =>
          rw [ht] at yt;have hre := hR.st.move (m := z1D r) (List.mem_append.2 (.inl (List.mem_append.2 (.inr (List.mem_map.2 ⟨r, hmem, rfl⟩))))) f0 p0 hf hp;refine zi6 ?_;refine z0F ?_
          repeat (first | (refine zd (by first | exact omv | exact z45 | exact ofa | exact old) ?_) | refine zm ?_)
          refine z2d (b := b1) (m := n0) (j := r.2.2.2) evr evr zxr hH.ra t0 zom fun K2 r1' f2 => ?_;have hH2 := hH.put (fun j h _ => f2 j h) r1'.putS (hH.ru.same (f2 b2 (Ne.symm hbne)));have hR2 := hR.putA t0 zom hre.1 ht;refine zg8 ?_;exact ⟨i + 1, ⟨_, _, _, _, _, _, rfl, hH2, hR2, fun hg0 => (by cases hg0), stp, stp, stp, stp, stp, zom⟩, zom⟩
    clear e1 e4 e5 e7 hH hR hC;rintro e st ⟨rfl, tm9, J, m, s', u', g, rfl, hH, hR, hC, e1, e4, e5, e7⟩;refine z5g ?_;refine Trip.mono (Q := fun e st => e = .exit 8 ∧ ∃ (tm' : Nat → Value) (J : Heap) (m : Nat) (s' u' : Nat → Bool) (g : Bool), st = ⟨tm', n, J, m⟩ ∧ MayH J0 m6 b1 b2 n0 n1 J m s' u' ∧ RoundI a n0 n1 c0 s' u' g ∧ (g = false → ClO a s' u' a.opens.length ∧ ClC a s' u' a.closes.length ∧ ClN a s' a.inners.length) ∧ tm' 1 = .pointer (some ⟨nx, 0, none⟩) ∧ tm' 4 = .slice (some ⟨b1, 0, none⟩) n0 n0 ∧ tm' 5 = .slice (some ⟨b2, 0, none⟩) n1 n1 ∧ tm' 7 = .bool g) ?_ ?_
    ·refine zD (fun (i : Nat) st => ∃ (tm' : Nat → Value) (J : Heap) (m : Nat) (s' u' : Nat → Bool) (g : Bool), st = ⟨tm', n, J, m⟩ ∧ MayH J0 m6 b1 b2 n0 n1 J m s' u' ∧ RoundI a n0 n1 c0 s' u' g ∧ (g = false → ClO a s' u' a.opens.length ∧ ClC a s' u' a.closes.length ∧ ClN a s' i) ∧ tm' 1 = .pointer (some ⟨nx, 0, none⟩) ∧ tm' 4 = .slice (some ⟨b1, 0, none⟩) n0 n0 ∧ tm' 5 = .slice (some ⟨b2, 0, none⟩) n1 n1 ∧ tm' 7 = .bool g ∧ tm' 12 = .int .i64 (i : Int) ∧ i ≤ a.inners.length) (fun i => a.inners.length - i) 0 ?_ ?_
     ·exact ⟨_, _, _, _, _, _, rfl, hH, hR, fun hg0 => ⟨(hC hg0).1, (hC hg0).2, fun r hr => (by cases hr)⟩, stp, stp, stp, stp, stp, Nat.zero_le _⟩
     ·clear e1 e4 e5 e7 hH hR hC;rintro i st ⟨tm', J, m, s', u', g, rfl, hH, hR, hC, e1, e4, e5, e7, ei, hi⟩;have cF : zj J ⟨nx, 6, none⟩ (.slice na a.inners.length nc) := ze (hat hH.fr) rfl;by_cases hlt : i < a.inners.length
      case neg =>
       have hie : i = a.inners.length := by omega
       subst hie;refine z4v ?_;exact ⟨rfl, _, _, _, _, _, _, rfl, hH, hR, hC, stp, stp, stp, stp⟩
      case pos =>
       obtain ⟨p, hp, gr⟩ := zS (hAt hH.fr).inners hlt;subst hp;obtain ⟨r, hr⟩ : ∃ r, a.inners[i] = r := ⟨_, rfl⟩;have hmem : r ∈ a.inners := by rw [← hr]; exact List.getElem_mem hlt
       have hgd := zb3 hg hmem;rw [hn0] at hgd;obtain ⟨⟨f0, f1⟩, -, t0, t1⟩ := hgd;rw [hr] at gr;refine z9J ?_;refine zcW ?_;refine z36 (k := 3) (vs := Go.Am.e3 r) (zs := (rep 3 [.int .i64 0])) gr hH.ok (fun G xG kG bG => ?_) evr zxr rfl zxr rfl krf rfl rfl zsd zsd (by decide);clear gr;replace hH := hH.box xG kG;have d0 : zj G ⟨m, 0, none⟩ (.int .i64 r.1) := ze bG rfl;have d2 : zj G ⟨m, 2, none⟩ (.int .i64 r.2.2) := ze bG rfl;have y0 := hH.ra.get (j := r.1) f0 zom;have yt := hH.ra.get (j := r.2.2) t0 zom;cases hf : s' r.1.toNat with
       | false =>
        rw [hf] at y0;refine zie ?_;exact ⟨i + 1, ⟨_, _, _, _, _, _, rfl, hH, hR, fun hg0 => ⟨(hC hg0).1, (hC hg0).2.1, z2b hlt (hC hg0).2.2 (by rw [hr]; exact fun q => (by rw [hf] at q; cases q))⟩, stp, stp, stp, stp, stp, zom⟩, zom⟩
       | true =>
        rw [hf] at y0;cases ht : s' r.2.2.toNat with
        | true =>
         rw [ht] at yt;refine zi6 ?_;refine zg3 ?_;exact ⟨i + 1, ⟨_, _, _, _, _, _, rfl, hH, hR, fun hg0 => ⟨(hC hg0).1, (hC hg0).2.1, z2b hlt (hC hg0).2.2 (by rw [hr]; exact fun _ => ht)⟩, stp, stp, stp, stp, stp, zom⟩, zom⟩
        | false =>
         rw [ht] at yt;have hre := hR.st.move (m := z2Q r) (List.mem_append.2 (.inr (List.mem_map.2 ⟨r, hmem, rfl⟩))) f0 (Int.le_refl 0) hf hR.st.bot;refine zi6 ?_;refine z0F ?_
         repeat (first | (refine zd (by first | exact omv | exact z45 | exact ofa | exact old) ?_) | refine zm ?_)
         refine z2d (b := b1) (m := n0) (j := r.2.2) evr evr zxr hH.ra t0 zom fun K2 r1' f2 => ?_;have hH2 := hH.put (fun j h _ => f2 j h) r1'.putS (hH.ru.same (f2 b2 (Ne.symm hbne)));have hR2 := hR.putA t0 zom hre.1 ht;refine zg8 ?_;exact ⟨i + 1, ⟨_, _, _, _, _, _, rfl, hH2, hR2, fun hg0 => (by cases hg0), stp, stp, stp, stp, stp, zom⟩, zom⟩
    clear e1 e4 e5 e7 hH hR hC;rintro e st ⟨rfl, tm9, J, m, s', u', g, rfl, hH, hR, hC, e1, e4, e5, e7⟩
    ((repeat (first | refine z0e ?_ | refine zN ?_)); dsimp only)
    repeat fail
    have hle1 := zdx s' n0;have hle2 := zdx u' n1;have hRle := hR.le;cases g with
    | false => exact ⟨(s', u', false), ⟨_, _, _, rfl, hH, hR.st, fun _ => hC rfl, stp, stp, stp, stp⟩, by simp only [Bool.false_eq_true, ↓reduceIte]; omega⟩
    | true =>
     have := hR.lt rfl;exact ⟨(s', u', true), ⟨_, _, _, rfl, hH, hR.st, fun h => (by cases h), stp, stp, stp, stp⟩, by simp only [↓reduceIte]; omega⟩
 clear e1 e4 e5 hH hS;rintro e st ⟨rfl, tm8, J, m, s, u, rfl, hH, hs, hu, e1, e4, e5⟩;refine z5e ?_;refine zcU ?_;have hle := hH.le;exact ⟨.inr rfl, _, zbh, b1, b2, n0, n1, stp, hn0, hn1, zom, zom, zom, zom, hH.ra.iff fun k _ => hs k, hH.ru.iff fun k _ => hu k, ⟨zom, fun j hj => (hH.fr j zom zom zom).trans (xA.2 j hj)⟩⟩
end Go.Proofs.YteplpegfcpmflaaGreat
