import Derived.Test.YteplpegfcpmflaaGreatQOM14
set_option linter.unusedSimpArgs false
set_option linter.unusedVariables false
set_option maxRecDepth 100000
set_option maxHeartbeats 64000000
namespace Go.Am
open Go.RowKit
theorem zij {P : Program} {W0 : World} {f : FuncId} {r : Bool} {R : Nat → Heap → Prop}
  (h : ∀ w, ACalls P w f [] NG (z2u []).get fun v nx' H' => v = .bool r ∧ R nx' H') (nx : Nat) (H : Heap) : ACalls P W0 f [] nx H fun v nx' H' => v = .bool r ∧ nx' = nx ∧ H' = H := by
 intro C w args' hR hargs
 have hargs' : args' = [] := by
  have := hargs.1;simpa using this.symm
 subst hargs';refine (h w (z3p w) w [] (z7I Tabs.nil (BelD.refl _ _)) ⟨rfl, fun i p _ => by simp at p⟩).mono ?_;rintro e w' ⟨v, v', C', nx', H', rfl, ⟨rfl, _⟩, hR', hv, hS⟩;have hv' : v' = .bool r := by cases hv; rfl
 subst hv';exact ⟨_, _, C, nx, H, rfl, ⟨rfl, rfl, rfl⟩, hR.world (hR.below.trans (hR'.below.mono hR.below.size)) (fun k hk => hR'.below.block k hk), .bool r, Stp.refl _ _ _⟩
end Go.Am
namespace Go.Proofs.YteplpegfcpmflaaGreat
open Go.RowKit Go.Am
attribute [local irreducible] aop OpsL Trip zI z2r OpsK OpsR
def A0 : Aut := ⟨2, 1, [0], [1], [(0, 0, 0, 1)], [(0, 1, 1, 1)], []⟩
def E0 : Aut := ⟨0, 0, [], [], [], [], []⟩
def B0 : Aut := ⟨1, 0, [], [1], [], [], []⟩
theorem zfU (t : Thg) : ReachT A0 t ↔ t ∈ [((1, 0) : Thg), (0, 0), (1, 1), (0, 1)] := by
 have h00 : ReachT A0 (0, 0) := .init (by simp [A0]);have m1 : ((0, 0, 0, 1) : R4) ∈ z0b A0 := by simp [z0b, A0, z1d, z1S]
 have m2 : ((0, 1, 1, 0) : R4) ∈ z0b A0 := by simp [z0b, A0, z1d, z1S]
 have h11 : ReachT A0 (1, 1) := .step m1 (fun u hu => by
  simp only [z08, List.mem_cons, List.not_mem_nil, or_false] at hu;rcases hu with rfl | rfl
  ·exact h00
  ·exact .bot) (by simp [z0t])
 have h01 : ReachT A0 (0, 1) := .step m2 (fun u hu => by
  simp only [z08, List.mem_cons, List.not_mem_nil, or_false] at hu;rcases hu with rfl | rfl
  ·exact h00
  ·exact h11) (by simp [z0t])
 constructor
 ·intro h;cases h with
  | bot => simp
  | init hs => simp only [A0, List.mem_singleton] at hs; subst hs; simp
  | step hm _ hg =>
   simp only [z0b, A0, List.map_cons, List.map_nil, List.append_nil, List.cons_append, List.nil_append, List.mem_cons, List.not_mem_nil, or_false, z1d, z1S] at hm;rcases hm with rfl | rfl
   ·simp only [z0t, List.mem_cons, List.not_mem_nil, or_false] at hg;rcases hg with rfl | rfl
    ·simp
    ·simp
   ·simp only [z0t, List.mem_cons, List.not_mem_nil, or_false] at hg;rcases hg with rfl | rfl
    ·simp
    ·simp
 ·intro h;simp only [List.mem_cons, List.not_mem_nil, or_false] at h;rcases h with rfl | rfl | rfl | rfl
  ·exact .bot
  ·exact h00
  ·exact h11
  ·exact h01
theorem zfa {L : List Int} {k : Int} (hk : k = 0 ∨ k = 1) (h : z1E A0 k L) : L = [0, 1] := by
 refine z4i zbq _ _ h.1 (by simp [z0P, lt1]) fun x => ?_;rw [h.2 x, zfU];rcases hk with rfl | rfl
 ·simp
 ·simp
theorem zhd {L : List Int} (h : z1E E0 0 L) : L = [] := by
 refine List.eq_nil_iff_forall_not_mem.2 fun x hx => ?_;have := (h.2 x).1 hx;cases this with
 | init hs => cases hs
 | step hm _ _ => simp [z0b, E0] at hm
theorem z6i : Am.z0O Tryz.prog 6 := ⟨Tryz.f6, Tryz.func6, by kernel_rfl, by kernel_rfl⟩
theorem z8q {α : Type} {enc : α → List Value} {sz : Nat} {H : Heap} {b e : Nat} {q : Option TypeId} {x : α} (hk : (enc x).length = sz) (h : H b = some (.cells (enc x) e none false q)) : RowsAt enc sz H (.slice (some ⟨b, 0, none⟩) 1 1) [x] := by
 refine .inr ⟨⟨b, 0, none⟩, 1, rfl, fun j hj => ?_⟩;have : j = 0 := by simpa using hj
 subst this;unfold z0A;simp only [h];rw [if_pos ⟨trivial, zom⟩, Nat.zero_mul, Nat.zero_add, List.drop_zero, List.take_of_length_le zom];rfl
theorem z46 {α : Type} {enc : α → List Value} {sz : Nat} {H : Heap} : RowsAt enc sz H (.slice none 0 0) ([] : List α) := .inl ⟨0, rfl, rfl⟩
def VA (b : Nat) : List Value := zz A0 (.slice (some ⟨b, 0, none⟩) 1 1) (.slice (some ⟨b + 1, 0, none⟩) 1 1) (.slice (some ⟨b + 2, 0, none⟩) 1 1) (.slice (some ⟨b + 3, 0, none⟩) 1 1) (.slice none 0 0)
def VE : List Value := zz E0 (.slice none 0 0) (.slice none 0 0) (.slice none 0 0) (.slice none 0 0) (.slice none 0 0)
theorem zhg (W0 : World) : ACalls Tryz.prog W0 6 [] NG (z2u []).get fun v _ _ => v = .bool true ∧ True := by
 generalize (z2u []).get = H at *;generalize NG = nx at *;refine zm (fn := Tryz.f6) (c := _) Tryz.func6 rfl (fun tm n hn0 htm => ?_);clear htm;replace hn0 : n = 61 := hn0;refine Trip.ok fun hok => ?_;replace hok : ∀ id o, H id = some o → id < nx := hok;refine z9q ?_;refine OpsL.c2 (hf := z71) (hc := (zgL W0 (ns := []) (.inl ⟨0, rfl, rfl⟩)).ok) (h := ?_);rintro lv b H1 ⟨⟨hl, x1⟩, k1⟩;have hss : z4x 0 [] = [(⟨#[97]⟩, 1), (⟨#[97]⟩, 2), (⟨#[98]⟩, 3)] := by kernel_rfl
 rw [hss] at hl;have hs3 : ([(⟨#[97]⟩, 1), (⟨#[97]⟩, 2), (⟨#[98]⟩, 3)] : List (ByteArray × Int)).length ≤ 1000 := by decide
 clear hss;refine z9q ?_;refine OpsL.new zsd (zq (l := [(0, .int .i64 0)]) (r := (.slice (some ⟨b, 0, none⟩) 1 1, .new (.cells (z5v 0) 1 none false (some 3)))) zep krf) ?_;refine OpsL.new zsd (zq (l := [(0, .int .i64 1)]) (r := (.slice (some ⟨b + 1, 0, none⟩) 1 1, .new (.cells (z5v 1) 1 none false (some 3)))) zep krf) ?_;refine zd (zC (v := .agg (Go.Am.e4 (0, 0, 0, 1)).toArray) (l := [(0, .int .i64 0), (1, .int .i64 0), (2, .int .i64 0), (3, .int .i64 1)]) zep krf) ?_;refine OpsL.new zsd (zq (l := [(0, .agg (Go.Am.e4 (0, 0, 0, 1)).toArray)]) (r := (.slice (some ⟨b + 1 + 1, 0, none⟩) 1 1, .new (.cells (Go.Am.e4 (0, 0, 0, 1)) 4 none false (some 43)))) zep krf) ?_;refine zd (zC (v := .agg (Go.Am.e4 (0, 1, 1, 1)).toArray) (l := [(0, .int .i64 0), (1, .int .i64 1), (2, .int .i64 1), (3, .int .i64 1)]) zep krf) ?_;refine OpsL.new zsd (zq (l := [(0, .agg (Go.Am.e4 (0, 1, 1, 1)).toArray)]) (r := (.slice (some ⟨b + 1 + 1 + 1, 0, none⟩) 1 1, .new (.cells (Go.Am.e4 (0, 1, 1, 1)) 4 none false (some 45)))) zep krf) ?_;refine zd (zC (v := .agg (VA b).toArray) (l := [(0, .int .i64 2), (1, .int .i64 1), (2, .slice (some ⟨b, 0, none⟩) 1 1), (3, .slice (some ⟨b + 1, 0, none⟩) 1 1), (4, .slice (some ⟨b + 1 + 1, 0, none⟩) 1 1), (5, .slice (some ⟨b + 1 + 1 + 1, 0, none⟩) 1 1)]) zep krf) ?_;refine OpsL.new zsd (zD (l := z0N) krf) ?_;refine OpsL.upd (zw (k := 7) (u := .agg (VA b).toArray) evd evd zxr rfl (o := .cells (VA b) 0 none false (some 30)) (zE (vs := VA b) zb rfl rfl)) ?_;obtain ⟨G, hG⟩ : ∃ Q, Q = (((((H1.put b (.cells (z5v 0) 1 none false (some 3))).put (b + 1) (.cells (z5v 1) 1 none false (some 3))).put (b + 1 + 1) (.cells (Go.Am.e4 (0, 0, 0, 1)) 4 none false (some 43))).put (b + 1 + 1 + 1) (.cells (Go.Am.e4 (0, 1, 1, 1)) 4 none false (some 45))).put (b + 1 + 1 + 1 + 1) (.cells z0N 0 none false (some 30))).put (b + 1 + 1 + 1 + 1) (.cells (VA b) 0 none false (some 30)) := ⟨_, rfl⟩;obtain ⟨m, hm⟩ : ∃ q, b + 1 + 1 + 1 + 1 + 1 = q := ⟨_, rfl⟩;have kG : ∀ id o, G id = some o → id < m := by rw [hG, ← hm]; exact zV (zF (zF (zF (zF (zF k1))))) zb
 have gA : G (b + 1 + 1 + 1 + 1) = some (.cells (VA b) 0 none false (some 30)) := by rw [hG, zb]
 have hx : Ext b H1 m G := ⟨zom, fun j hj => by rw [hG, za zom, za zom, za zom, za zom, za zom, za zom]⟩
 have hA : AutIn G A0 (.slice (some ⟨b, 0, none⟩) 1 1) (.slice (some ⟨b + 1, 0, none⟩) 1 1) (.slice (some ⟨b + 2, 0, none⟩) 1 1) (.slice (some ⟨b + 3, 0, none⟩) 1 1) (.slice none 0 0) :=
  ⟨z1f (z8q rfl (by rw [hG, za zom, za zom, za zom, za zom, za zom, zb])), z1f (z8q rfl (by rw [hG, za zom, za zom, za zom, za zom, zb])), z8q rfl (by rw [hG, za zom, za zom, za zom, zb]), z8q rfl (by rw [hG, za zom, za zom, zb]), z46⟩
 rw [← hG]
 first | dsimp only | skip
 rw [hm];obtain ⟨p, hp⟩ : ∃ q, b + 1 + 1 + 1 + 1 = q := ⟨_, rfl⟩;rw [hp] at gA ⊢;have hpm : p < m := by omega
 have hl1 := hl.ext hx k1;have nA : AutLen A0 := ⟨by decide, by decide, by decide, by decide, by decide⟩;have nE : AutLen E0 := ⟨by decide, by decide, by decide, by decide, by decide⟩;have nB : AutLen B0 := ⟨by decide, by decide, by decide, by decide, by decide⟩;have fA : zaU A0 := .inl ⟨by decide, by decide⟩;have fE : zaU E0 := .inr ⟨fun s h => (by cases h), fun m h => (by simp [z0b, E0] at h)⟩;clear hG hm hp hl hx x1 k1;refine zaE ?_;refine zd (zg (k := 7) (vs := VA b) evd zxr rfl zxr (zH gA rfl)) ?_;refine OpsL.c2 (hf := z0s) (hc := (z12 W0 hA nA fA).ok) (h := ?_);rintro u m2 H2 ⟨⟨L0, L1, l2, wi, wf, wo, wc, wn, h20, h21, rfl, hT, x2⟩, k2⟩;have eL0 := zfa (.inl rfl) h20;have eL1 := zfa (.inr rfl) h21;subst eL0; subst eL1;have hTI := hT.in;have hone := z0r hTI;clear hT h20 h21;have hTN : (zM (z02 A0 [0, 1] [0, 1])).N = 2 := by kernel_rfl
 have hTO : (zM (z02 A0 [0, 1] [0, 1])).opens.length = 1 := by kernel_rfl
 generalize zM (z02 A0 [0, 1] [0, 1]) = T at *;have g2 := (x2.2 p hpm).trans gA;refine OpsL.new zsd (zD (l := z0N) krf) ?_;refine OpsL.upd (zw (k := 7) (u := .agg (zz T wi wf wo wc wn).toArray) evd evd zxr rfl (o := .cells (zz T wi wf wo wc wn) 0 none false (some 30)) (zE (vs := zz T wi wf wo wc wn) zb rfl hone)) ?_;obtain ⟨G3, hG3⟩ : ∃ G0, G0 = (H2.put m2 (.cells z0N 0 none false (some 30))).put m2 (.cells (zz T wi wf wo wc wn) 0 none false (some 30)) := ⟨_, rfl⟩;have x3 : Ext m2 H2 (m2 + 1) G3 := ⟨Nat.le_succ _, fun j hj => by rw [hG3, za zom, za zom]⟩;have k3 : ∀ id o, G3 id = some o → id < m2 + 1 := by rw [hG3]; exact zV (zF k2) zb
 have b3 : G3 m2 = some (.cells (zz T wi wf wo wc wn) 0 none false (some 30)) := by rw [hG3, zb]
 rw [← hG3];clear hG3 hone;have hle2 := x2.1;have x13 := x2.trans x3;have g3 := (x3.2 p zom).trans g2;have hA3 := hA.ext x13 kG;have hT3 := hTI.ext x3 k2;have hl3 := hl1.ext x13 kG;clear g2 gA hA hTI hl1 x2 x3 x13 k2 kG;obtain ⟨ao, co, hwo⟩ := hT3.opens.slice;subst hwo;obtain ⟨m3, hm3⟩ : ∃ q, m2 + 1 = q := ⟨_, rfl⟩;rw [hm3] at k3 ⊢;have hm23 : m2 < m3 := by omega
 have hpm3 : p < m3 := by omega
 clear hm3;refine zdU ?_;refine zG [2, 8, 14, 19, 35, 37, 41, 43] (K := fun nx1 HH => Ext m3 G3 nx1 HH) krf krf krf [0, 1, 2, 3, 4, 5, 6, 7, 8, 9, 10, 11, 12, 13, 14, 15, 16, 17, 18, 19, 20, 21, 22, 23, 24, 25, 26, 27, 28, 29, 30, 31, 32, 33, 34, 36, 35, 37, 38, 39, 40, 41, 42, 43, 44, 45, 46] krf Ext.refl ?_;refine z5w ?_;refine zg5 ?_;refine zd (zC (v := .agg VE.toArray) (l := []) (by simp only [z0i]) krf) ?_;refine OpsL.nil ?_;refine zg6 ?_;refine OpsL.c2 (hf := z0s) (hc := (z12 W0 (a := E0) ⟨z1f z46, z1f z46, z46, z46, z46⟩ nE fE).ok) (h := ?_);rintro u m4 H4 ⟨⟨M0, M1, l4, zi, zf, zo, zc, zn, h40, h41, rfl, -, x4⟩, k4⟩;have eM0 := zhd h40;subst eM0;have hEN : (zM (z02 E0 [] M1)).N = 0 := rfl;refine OpsL.nil ⟨x4, ?_⟩;refine zg5 ?_;refine zd (v := .int .i64 0) (zdz (cs := zz (zM (z02 E0 [] M1)) zi zf zo zc zn) evd zxr zxr zxr rfl zxr) ?_;refine OpsL.nil ?_;refine zx (v := .bool true) rfl krf zsd x4 (fun HH nn hK => z3R evr evr rfl) ?_;refine zg0 ?_;refine z89 ?_;refine z0o (v := .agg (VA b).toArray) rfl krf zsd zxr evd x4 (fun HH nn hK => zg (k := 7) (vs := VA b) evd zxr rfl zxr (zH ((hK.2 p hpm3).trans g3) rfl)) ?_;refine z3z ?_;refine OpsL.c2 (hf := z6k) (hc := (zfe W0 (hl3.ext x4 k3) hs3 (hA3.ext x4 k3) nA).ok) (h := ?_);rintro v5 m5 H5 ⟨⟨rfl, x5⟩, k5⟩;have e5 := x4.trans x5;refine OpsL.nil ⟨e5, ?_⟩;have hc5 : z2I [(⟨#[97]⟩, 1), (⟨#[97]⟩, 2), (⟨#[98]⟩, 3)] A0 = true := by kernel_rfl
 rw [hc5]
 first | dsimp only | skip
 refine z0o (v := .bool true) rfl krf zsd zxr evd e5 (fun HH nn hK => z3R evr evr rfl) ?_;refine zcv ?_;refine z0o (v := .agg (VA b).toArray) rfl krf zsd zxr evd e5 (fun HH nn hK => zg (k := 7) (vs := VA b) evd zxr rfl zxr (zH ((hK.2 p hpm3).trans g3) rfl)) ?_;refine z3z ?_;refine OpsL.c2 (hf := z94) (hc := (zfS W0 (hA3.ext e5 k3) nA).ok) (h := ?_);rintro v6 m6 H6 ⟨⟨rfl, x6⟩, k6⟩;have e6 := e5.trans x6;refine OpsL.nil ⟨e6, ?_⟩;have hc6 : z9H A0 = true := by kernel_rfl
 rw [hc6];refine zcv ?_;refine z0o (v := .agg (VA b).toArray) rfl krf zsd zxr evd e6 (fun HH nn hK => zg (k := 7) (vs := VA b) evd zxr rfl zxr (zH ((hK.2 p hpm3).trans g3) rfl)) ?_;refine z3z ?_;refine OpsL.c2 (hf := za2) (hc := (zgT W0 (hl3.ext e6 k3) hs3 (hA3.ext e6 k3) nA (by decide) (by decide) (by decide) (by decide)).ok) (h := ?_);rintro v7 m7 H7 ⟨⟨rfl, x7⟩, k7⟩;have e7 := e6.trans x7;refine OpsL.nil ⟨e7, ?_⟩;have hc7 : zcz [(⟨#[97]⟩, 1), (⟨#[97]⟩, 2), (⟨#[98]⟩, 3)] A0 = false := by kernel_rfl
 rw [hc7];refine zg5 ?_
 repeat (first | refine zd (by exact z7e) ?_ | (refine OpsL.nil ?_; (skip)) | refine zA ?_)
 refine zg5 ?_;refine z9p ?_;refine zg0 ?_;refine ze0 ?_;refine z0o (v := .int .i64 2) rfl krf zsd zxr evr e7 (fun HH nn hK => zp evr zxr rfl (by rw [← hTN]; exact ze ((hK.2 m2 hm23).trans b3) rfl)) ?_;refine z0o (v := .bool true) rfl krf zsd zxr evr e7 (fun HH nn hK => z3R evr evr rfl) ?_;refine zg5 ?_;refine z9p ?_;refine zg0 ?_;refine ze0 ?_;refine z0o (v := .slice ao 1 co) rfl krf zsd zxr evd e7 (fun HH nn hK => zp evr zxr rfl (by rw [Nat.zero_add, ← hTO]; exact ze ((hK.2 m2 hm23).trans b3) rfl)) ?_;refine z0o (v := .int .i64 ((1 : Nat) : Int)) rfl krf zsd zxr evd e7 (fun HH nn hK => z1D) ?_;refine z0o (v := .bool true) rfl krf zsd zxr evd e7 (fun HH nn hK => z3R evr evr rfl) ?_;refine zg5 ?_;refine z9p ?_;refine zg5 ?_;refine zdO ?_;refine z0o (v := .agg (VA b).toArray) rfl krf zsd zxr evd e7 (fun HH nn hK => zg (k := 7) (vs := VA b) evd zxr rfl zxr (zH ((hK.2 p hpm3).trans g3) rfl)) ?_;refine z0o (v := .agg (VA b).toArray) rfl krf zsd zxr evd e7 (fun HH nn hK => zg (k := 7) (vs := VA b) evd zxr rfl zxr (zH ((hK.2 p hpm3).trans g3) rfl)) ?_;refine z3z ?_;refine z0c (hf := z1i) (hc := (z7f W0 (hA3.ext e7 k3) nA).ok) (h := ?_);rintro u m8 H8 ⟨⟨l8, yi, yf, yo, yc, yn, rfl, hO8, x8⟩, k8⟩;have e8 := e7.trans x8;refine OpsL.nil ⟨e8, ?_⟩;refine z3z ?_;refine OpsL.c2 (hf := z3t) (hc := (zaN W0 hO8.in (z7z nA) (hA3.ext e8 k3) nA).ok) (h := ?_);rintro v9 m9 H9 ⟨⟨rfl, x9⟩, k9⟩;have e9 := e8.trans x9;have hc9 : z2s (zM A0) A0 = true := by kernel_rfl
 rw [hc9];refine OpsL.nil ⟨e9, ?_⟩;refine zcv ?_;refine z3z ?_;refine OpsL.new zsd (zq (l := [(0, .int .i64 1)]) (r := (.slice (some ⟨m9, 0, none⟩) 1 1, .new (.cells (z5v 1) 1 none false (some 3)))) zep krf) ?_;obtain ⟨G9, hG9⟩ : ∃ Q, Q = H9.put m9 (.cells (z5v 1) 1 none false (some 3)) := ⟨_, rfl⟩;have xa : Ext m9 H9 (m9 + 1) G9 := by rw [hG9]; exact zj
 have ka : ∀ id o, G9 id = some o → id < m9 + 1 := by rw [hG9]; exact zF k9
 have ga : G9 m9 = some (.cells (z5v 1) 1 none false (some 3)) := by rw [hG9, zb]
 rw [← hG9];clear hG9;have ea := e9.trans xa;refine OpsL.nil ⟨ea, ?_⟩;refine zg5 ?_;refine zA ?_;refine zd (zC (v := .agg (zz B0 (.slice none 0 0) (.slice (some ⟨m9, 0, none⟩) 1 1) (.slice none 0 0) (.slice none 0 0) (.slice none 0 0)).toArray) (l := [(0, .int .i64 1), (3, .slice (some ⟨m9, 0, none⟩) 1 1)]) zep krf) ?_;refine OpsL.nil ?_;refine z3z ?_;refine OpsL.c2 (hf := z6k) (hc := (zfe W0 (hl3.ext ea k3) hs3 (a := B0) ⟨z1f z46, z1f (z8q rfl ga), z46, z46, z46⟩ nB).ok) (h := ?_);rintro vb mb Hb ⟨⟨rfl, xb⟩, kb⟩;have hcb : z2I [(⟨#[97]⟩, 1), (⟨#[97]⟩, 2), (⟨#[98]⟩, 3)] B0 = false := by kernel_rfl
 rw [hcb]
 first | dsimp only | skip
 refine OpsL.nil ⟨ea.trans xb, ?_⟩;refine z0o (v := .bool true) rfl krf zsd zxr evd (ea.trans xb) (fun HH nn hK => z3R evr evr rfl) ?_;refine zg5 ?_;refine z9p ?_;refine zbo ?_
 (change Trip _ _ _ _ _)
 repeat (refine Trip.ret ?_; (skip))
 exact ⟨.inr rfl, _, zy, stp, trivial⟩
theorem zbJ (W0 : World) (hT : Tabs [] W0) : Am.z0O Tryz.prog 6 ∧ ∀ nx H, ACalls Tryz.prog W0 6 [] nx H fun v nx' H' => v = .bool true ∧ nx' = nx ∧ H' = H :=
 ⟨z6i, fun nx H => zij (fun w => zhg w) nx H⟩
end Go.Proofs.YteplpegfcpmflaaGreat
namespace Go.Proofs.YteplpegfcpmflaaGreat
open Go.RowKit Go.Am
theorem z9C {N s : Int} (h : stF N s = true) : 0 ≤ s ∧ s < N := by
 simpa [stF] using h
theorem zgR {n a b : Int} (h : btF n a b = true) : a ≤ n ∧ n ≤ b := by
 simpa [btF] using h
section
variable {ss : List (ByteArray × Int)} {most : Int} {a : Aut} {i : Nat} (h : GoodM ss most a i)
include h
theorem zcB {r : R4} (hr : r ∈ a.opens) : (0 ≤ r.1 ∧ r.1 < a.N) ∧ kdF ss r.2.1 1 = true ∧ (0 ≤ r.2.2.1 ∧ r.2.2.1 < a.N) ∧ 1 ≤ r.2.2.2 ∧ r.2.2.2 ≤ a.G := by
 have := List.all_eq_true.1 h.opens r hr;simp only [okO, Bool.and_eq_true] at this;exact ⟨z9C this.1.1.1, this.1.1.2, z9C this.1.2, zgR this.2⟩
theorem zcD {r : R4} (hr : r ∈ a.closes) : (0 ≤ r.1 ∧ r.1 < a.N) ∧ kdF ss r.2.1 2 = true ∧ (0 ≤ r.2.2.2 ∧ r.2.2.2 < a.N) ∧ 0 ≤ r.2.2.1 ∧ r.2.2.1 ≤ a.G := by
 have := List.all_eq_true.1 h.closes r hr;simp only [okC, Bool.and_eq_true] at this;exact ⟨z9C this.1.1.1, this.1.1.2, z9C this.1.2, zgR this.2⟩
theorem zcC {r : R3} (hr : r ∈ a.inners) : (0 ≤ r.1 ∧ r.1 < a.N) ∧ kdF ss r.2.1 3 = true ∧ (0 ≤ r.2.2 ∧ r.2.2 < a.N) := by
 have := List.all_eq_true.1 h.inners r hr;simp only [okI, Bool.and_eq_true] at this;exact ⟨z9C this.1.1, this.1.2, z9C this.2⟩
theorem z6W {m : R4} (hm : m ∈ z0b a) : (0 ≤ m.2.2.1 ∧ m.2.2.1 < a.N) ∧ 0 ≤ m.2.2.2 ∧ m.2.2.2 ≤ a.G := by
 have := h.G0;simp only [z0b, List.mem_append, List.mem_map] at hm;rcases hm with (⟨r, hr, rfl⟩ | ⟨r, hr, rfl⟩) | ⟨r, hr, rfl⟩
 ·have := zcB h hr; simp only [z1d]; omega
 ·have := zcD h hr; simp only [z1S]; omega
 ·have := zcC h hr; simp only [z3A]; omega
theorem zei {x : Int} (hx : ReachT a (0, x)) : 0 ≤ x ∧ x < a.N := by
 rcases z9U hx with q | ⟨m, hm, _, rfl⟩
 ·exact z9C (List.all_eq_true.1 h.init x q)
 ·exact (z6W h hm).1
theorem zej {x : Int} (hx : ReachT a (1, x)) : 0 ≤ x ∧ x ≤ a.G := by
 have := h.G0;rcases zbF hx with rfl | ⟨m, hm, _, rfl⟩
 ·omega
 ·exact (z6W h hm).2
end
theorem z7v {l : List Int} {n : Nat} (h : l.Pairwise (· < ·)) (hb : ∀ x ∈ l, 0 ≤ x ∧ x < n) : l.length ≤ n := by
 have := z67 l ((List.range n).map fun (j : Nat) => (j : Int)) (by
  rw [List.nodup_iff_pairwise_ne];exact h.imp fun {x y} hlt e => by omega) (fun x hx => by
  obtain ⟨h1, h2⟩ := hb x hx;exact List.mem_map.2 ⟨x.toNat, List.mem_range.2 zom, zom⟩)
 simpa using this
section
variable {ss : List (ByteArray × Int)} {most : Int} {a : Aut} {i : Nat} {L0 L1 : List Int} (h : GoodM ss most a i) (h0 : z1E a 0 L0) (h1 : z1E a 1 L1)
include h h0 in
include h h1 in
include h h1 in
include h h0 h1 in
include h0 h1 in
include h0 in
include h h0 h1 in
include h0 h1 in
include h0 in
include h h0 h1 in
include h h0 h1 in
include h h0 h1 in
end
theorem z0u {ss : List (ByteArray × Int)} {most : Int} {a : Aut} {i : Nat} (L0 L1 : List Int) (h : GoodM ss most a i) (hi : i ≤ 1000) : AutLen (zM (z02 a L0 L1)) := by
 have ⟨n1, n2, n3, n4, n5⟩ := h.len;refine ⟨Nat.le_trans (zK _) (Nat.le_trans (List.length_filterMap_le _ _) zom), Nat.le_trans (zK _) (Nat.le_trans (List.length_filterMap_le _ _) zom), Nat.le_trans (zK _) (Nat.le_trans (List.length_filterMap_le _ _) zom), Nat.le_trans (zK _) (Nat.le_trans (List.length_filterMap_le _ _) zom), Nat.le_trans (zK _) (Nat.le_trans (List.length_filterMap_le _ _) zom)⟩
theorem z2f {ss : List (ByteArray × Int)} {most : Int} {a : Aut} {i : Nat} (h : GoodM ss most a i) (hi : i ≤ 25) : muF a [] (z5U a) ≤ 100000 := by
 have ⟨n1, n2, n3, n4, n5⟩ := h.len;have hm : (z0b a).length ≤ 75 := by simp only [z0b, List.length_append, List.length_map]; omega
 have h3 : ∀ l : List R4, (l.flatMap z0t).length = 2 * l.length := fun l => by
  induction l with
  | nil => rfl
  | cons x l ih => simp only [List.flatMap_cons, List.length_append, ih, List.length_cons]; have : (z0t x).length = 2 := rfl; omega
 have hu : (z8a a).length ≤ 176 := by simp only [z8a, List.length_append, List.length_cons, List.length_map, h3]; omega
 have hf : ((z8a a).filter fun t => decide (t ∉ ([] : List Thg))).length ≤ 176 := Nat.le_trans (List.length_filter_le _ _) hu;have hs : (z5U a).length ≤ 26 := by simp only [z5U, List.length_cons, List.length_map]; omega
 unfold muF;have := Nat.mul_le_mul hf (show 2 * (z0b a).length + 1 ≤ 151 by omega);omega
theorem zdl {ss : List (ByteArray × Int)} {size most : Int} {ns : List Int} : (z5T ss size most ns).init ≠ [] := by
 unfold z5T zbu;split
 ·simp [z5F]
 ·assumption
end Go.Proofs.YteplpegfcpmflaaGreat
namespace Go.Am
inductive AllR {α β : Type} (R : α → β → Prop) : List α → List β → Prop
 | nil : AllR R [] []
 | cons {a : α} {b : β} {l : List α} {m : List β} : R a b → AllR R l m → AllR R (a :: l) (b :: m)
structure LvT where
 row : Int → Int → Prop
 by_ : Int
def zfG (a : Aut) (now : LvT) (x : Int) : LvT := ⟨fun p q => p = q ∧ ∃ r ∈ a.opens, r.2.1 = x ∧ r.2.2.1 = q ∧ ∃ p1, 0 ≤ p1 ∧ p1 < a.N ∧ now.row p1 r.1, x⟩
def zcA (a : Aut) (now : LvT) (x : Int) : LvT := ⟨fun p q => ∃ r ∈ a.closes, r.2.1 = x ∧ r.2.2.1 = 0 ∧ r.2.2.2 = q ∧ now.row p r.1, now.by_⟩
def ze6 (a : Aut) (below now : LvT) (x : Int) : LvT := ⟨fun p q => ∃ o ∈ a.opens, o.2.1 = now.by_ ∧ ∃ c ∈ a.closes, c.2.1 = x ∧ c.2.2.1 = o.2.2.2 ∧ now.row o.2.2.1 c.1 ∧ c.2.2.2 = q ∧ below.row p o.1, below.by_⟩
def zfD (a : Aut) (now : LvT) (x : Int) : LvT := ⟨fun p q => ∃ r ∈ a.inners, r.2.1 = x ∧ r.2.2 = q ∧ now.row p r.1, now.by_⟩
def z4y (ss : List (ByteArray × Int)) (a : Aut) (st : LvT × List LvT) (x : Int) : LvT × List LvT :=
 if kdF ss x 1 = true then (zfG a st.1 x, st.1 :: st.2)
 else if kdF ss x 2 = true then (match st.2 with
  | [] => (zcA a st.1 x, [])
  | b :: u => (ze6 a b st.1 x, u))
 else (zfD a st.1 x, st.2)
def zhD (a : Aut) : LvT × List LvT := (⟨fun p q => p = q ∧ p ∈ a.init, 0⟩, [])
def z7d (ss : List (ByteArray × Int)) (a : Aut) (w : List Int) : LvT × List LvT := w.foldl (z4y ss a) (zhD a)
def zgX (ss : List (ByteArray × Int)) (a : Aut) (w : List Int) : Prop := ∃ f ∈ a.final, ∃ p, 0 ≤ p ∧ p < a.N ∧ (z7d ss a w).1.row p f
theorem zdg (ss : List (ByteArray × Int)) (a : Aut) (w : List Int) (x : Int) : z7d ss a (w ++ [x]) = z4y ss a (z7d ss a w) x := by
 unfold z7d;rw [List.foldl_append];rfl
end Go.Am
namespace Go.Proofs.YteplpegfcpmflaaGreat
open Go.RowKit Go.Am
structure SimL (a : Aut) (L0 : List Int) (u v : LvT) : Prop where
 re : ∀ p q, u.row p q → ReachT a (0, p) ∧ ReachT a (0, q)
 eq : ∀ p' q', v.row p' q' ↔ ∃ p q, z0T L0 p = some p' ∧ z0T L0 q = some q' ∧ u.row p q
 sy : u.by_ = v.by_
section
variable {ss : List (ByteArray × Int)} {most : Int} {a : Aut} {i : Nat} {L0 L1 : List Int} (h : GoodM ss most a i) (h0 : z1E a 0 L0) (h1 : z1E a 1 L1)
include h h0 h1 in
include h0 h1 in
include h0 in
include h0 in
include h1 in
include h h0 h1 in
include h h0 h1 in
include h h0 h1 in
include h0 in
include h h0 h1 in
include h h0 h1 in
include h h0 h1 in
include h h0 h1 in
include h h0 h1 in
include h h0 h1 in
end
section
variable {ss : List (ByteArray × Int)} {most : Int} {a : Aut} {i : Nat} {L0 L1 : List Int} (h : GoodM ss most a i) (h0 : z1E a 0 L0) (h1 : z1E a 1 L1)
include h h0 h1 in
end
end Go.Proofs.YteplpegfcpmflaaGreat
namespace Go.Am
open Go.RowKit
def BCells (cs : List Value) (n : Nat) (S : Nat → Prop) : Prop := cs.length = n ∧ ∀ i, i < n → ∃ x : Bool, cs[i]? = some (.bool x) ∧ (x = true ↔ S i)
theorem BCells.zero (n : Nat) : BCells (rep n [.bool false]) n fun _ => False := by
 have h : rep n [.bool false] = List.replicate n (.bool false) := by
  unfold rep
  induction n with
  | zero => rfl
  | succ n ih => rw [List.replicate_succ, List.flatten_cons, ih, List.replicate_succ]; rfl
 rw [h];exact ⟨by simp, fun i hi => ⟨false, by rw [List.getElem?_replicate, if_pos hi], by simp⟩⟩
theorem BCells.set {cs : List Value} {n k : Nat} {S : Nat → Prop} (h : BCells cs n S) (hk : k < n) : BCells (cs.set k (.bool true)) n fun i => i = k ∨ S i := by
 refine ⟨by rw [List.length_set, h.1], fun i hi => ?_⟩;by_cases e : i = k
 ·subst e;exact ⟨true, by rw [List.getElem?_set_self (by rw [h.1]; exact hk)], by simp⟩
 ·obtain ⟨x, h1, h2⟩ := h.2 i hi;exact ⟨x, by rw [List.getElem?_set_ne (fun q => e q.symm)]; exact h1, by simp [e, h2]⟩
theorem BCells.iff {cs : List Value} {n : Nat} {S S' : Nat → Prop} (h : BCells cs n S) (hS : ∀ i, i < n → (S i ↔ S' i)) : BCells cs n S' :=
 ⟨h.1, fun i hi => by obtain ⟨x, h1, h2⟩ := h.2 i hi; exact ⟨x, h1, h2.trans (hS i hi)⟩⟩
def BRow (H : Heap) (el : TypeId) (b n : Nat) (S : Nat → Prop) : Prop := ∃ cs, H b = some (.cells cs 1 none false (some el)) ∧ BCells cs n S
theorem BRow.same {H H' : Heap} {el : TypeId} {b n : Nat} {S : Nat → Prop} (h : BRow H el b n S) (hs : H' b = H b) : BRow H' el b n S := by
 obtain ⟨cs, h1, h2⟩ := h;exact ⟨cs, hs.trans h1, h2⟩
theorem BRow.ext {H H' : Heap} {nx nx' : Nat} {el : TypeId} {b n : Nat} {S : Nat → Prop} (h : BRow H el b n S) (hx : Ext nx H nx' H') (hb : b < nx) : BRow H' el b n S := h.same (hx.2 b hb)
theorem BRow.iff {H : Heap} {el : TypeId} {b n : Nat} {S S' : Nat → Prop} (h : BRow H el b n S) (hS : ∀ i, i < n → (S i ↔ S' i)) : BRow H el b n S' := by
 obtain ⟨cs, h1, h2⟩ := h;exact ⟨cs, h1, h2.iff hS⟩
theorem BRow.get {H : Heap} {el : TypeId} {b n : Nat} {S : Nat → Prop} (h : BRow H el b n S) {j : Int} (h0 : 0 ≤ j) (h1 : j < n) : ∃ x : Bool, zh H ⟨b, 0 + j.toNat * 1, none⟩ (.bool x) ∧ (x = true ↔ S j.toNat) := by
 obtain ⟨cs, hH, hc⟩ := h;obtain ⟨x, hx, hS⟩ := hc.2 j.toNat zom;refine ⟨x, ?_, hS⟩;unfold zh z0A;simp only [hH];have hl := hc.1;rw [if_pos ⟨trivial, zom⟩];obtain ⟨hjl, hje⟩ := List.getElem?_eq_some_iff.1 hx;rw [Nat.zero_add, Nat.mul_one, List.take_one, List.head?_drop, List.getElem?_eq_getElem hjl, hje];rfl
theorem BRow.new {H : Heap} {el : TypeId} {b n : Nat} : BRow (H.put b (.cells (rep n [.bool false]) 1 none false (some el))) el b n fun _ => False := ⟨_, zb, BCells.zero n⟩
theorem z09 {P : Program} {nx : Nat} {t el : TypeId} {m : Nat} (hu : P.underlying t = some (.slice el)) (hs : z1w P el = some 1) (hb : z0v P el = some 1) (hz : z0D P el = some [.bool false]) (hm : m ≤ 1000000000) :
  z1A P nx t (.int .i64 m) (.int .i64 m) = some (.slice (some ⟨nx, 0, none⟩) m m, .new (.cells (rep m [.bool false]) 1 none false (some el))) := by
 unfold z1A;simp only [hu, hs, hb, hz, Int.toNat_natCast];rw [if_pos ⟨zom, zom, zom, zom, rfl⟩]
section
variable {P : Program} {W0 : World} {ops : Array Oper} {H : Heap} {nx n : Nat} {type : TypeId} {pos : String} {after : Array Edge} {l : List Oper} {tm : Nat → Value} {QQ : ASt → Prop} {el : TypeId}
theorem z1K {t : TypeId} {x y : Operand} {b m : Nat} {j : Int} {S : Nat → Prop} (hx : ASt.ev ⟨tm, n, H, nx⟩ x = some (.pointer (some ⟨b, 0 + j.toNat * 1, none⟩))) (hy : ASt.ev ⟨tm, n, H, nx⟩ y = some (.bool true)) (hz : z1w P t = some 1)
  (hr : BRow H el b m S) (h0 : 0 ≤ j) (h1 : j < m) (h : ∀ H', BRow H' el b m (fun i => i = j.toNat ∨ S i) → (∀ i, i ≠ b → H' i = H i) → OpsL P W0 ops l ⟨tm, n, H', nx⟩ QQ) :
  OpsL P W0 ops (⟨none, .store t x y, type, pos, after, none⟩ :: l) ⟨tm, n, H, nx⟩ QQ := by
 obtain ⟨cs, hH, hc⟩ := hr;have hl := hc.1;refine OpsL.storeAt (a := ⟨b, 0 + j.toNat * 1, none⟩) (cs' := cs.set j.toNat (.bool true)) j.toNat hx hy hz rfl rfl hH (by simp) zom rfl ?_;exact h _ ⟨_, zb, hc.set zom⟩ fun i hi => za hi
end
theorem zcS {N p q : Nat} (h : q < N) : (p * N + q) / N = p ∧ (p * N + q) % N = q := by
 rw [Nat.mul_comm p N];refine ⟨?_, ?_⟩
 ·rw [Nat.mul_add_div zom, Nat.div_eq_of_lt h, Nat.add_zero]
 ·rw [Nat.mul_add_mod, Nat.mod_eq_of_lt h]
theorem z33 {N : Nat} {p q : Int} (hN : N ≤ 200) (p0 : 0 ≤ p) (p1 : p < N) (q0 : 0 ≤ q) (q1 : q < N) : 0 ≤ p * (N : Int) ∧ p * (N : Int) ≤ 40000 ∧ p * (N : Int) + q < ((N * N : Nat) : Int) ∧ (p * (N : Int) + q).toNat = p.toNat * N + q.toNat := by
 obtain ⟨i, rfl⟩ : ∃ i : Nat, p = i := ⟨p.toNat, zom⟩;obtain ⟨k, rfl⟩ : ∃ k : Nat, q = k := ⟨q.toNat, zom⟩
 have h1 : i * N + N ≤ N * N := by
  have := Nat.mul_le_mul_right N (show i + 1 ≤ N by omega)
  rwa [Nat.add_mul, Nat.one_mul] at this
 have h2 : N * N ≤ 200 * 200 := Nat.mul_le_mul hN hN;have e : ((i : Int) * (N : Int)) = ((i * N : Nat) : Int) := by simp
 rw [e];simp only [Int.toNat_natCast];omega
def LRow (H : Heap) (el : TypeId) (b N : Nat) (R : Int → Int → Prop) : Prop := BRow H el b (N * N) fun i => R ((i / N : Nat) : Int) ((i % N : Nat) : Int)
theorem LRow.same {H H' : Heap} {el : TypeId} {b N : Nat} {R : Int → Int → Prop} (h : LRow H el b N R) (hs : H' b = H b) : LRow H' el b N R := BRow.same h hs
theorem LRow.iff {H : Heap} {el : TypeId} {b N : Nat} {R R' : Int → Int → Prop} (h : LRow H el b N R) (hR : ∀ p q : Int, 0 ≤ p → p < N → 0 ≤ q → q < N → (R p q ↔ R' p q)) : LRow H el b N R' :=
 BRow.iff h fun i hi => by
  have hN : 0 < N := by
   by_cases e : N = 0
   ·subst e; omega
   ·omega
  have h1 : i / N < N := Nat.div_lt_of_lt_mul hi;have h2 := Nat.mod_lt i hN;exact hR _ _ (Int.natCast_nonneg _) (Int.ofNat_lt.2 h1) (Int.natCast_nonneg _) (Int.ofNat_lt.2 h2)
theorem LRow.get {H : Heap} {el : TypeId} {b N : Nat} {R : Int → Int → Prop} (h : LRow H el b N R) {p q : Int} (hN : N ≤ 200) (p0 : 0 ≤ p) (p1 : p < N) (q0 : 0 ≤ q) (q1 : q < N) : ∃ x : Bool, zh H ⟨b, 0 + (p * (N : Int) + q).toNat * 1, none⟩ (.bool x) ∧ (x = true ↔ R p q) := by
 obtain ⟨i1, i2, i3, i4⟩ := z33 hN p0 p1 q0 q1;obtain ⟨x, h1, h2⟩ := BRow.get h (j := p * (N : Int) + q) zom i3;refine ⟨x, h1, h2.trans ?_⟩;obtain ⟨e1, e2⟩ := zcS (N := N) (p := p.toNat) (q := q.toNat) zom;rw [i4, e1, e2, Int.toNat_of_nonneg p0, Int.toNat_of_nonneg q0]
theorem LRow.new {H : Heap} {el : TypeId} {b N M : Nat} (hM : M = N * N) : LRow (H.put b (.cells (rep M [.bool false]) 1 none false (some el))) el b N fun _ _ => False := by subst hM; exact BRow.new
section
variable {P : Program} {W0 : World} {ops : Array Oper} {H : Heap} {nx n : Nat} {type : TypeId} {pos : String} {after : Array Edge} {l : List Oper} {tm : Nat → Value} {QQ : ASt → Prop} {el : TypeId}
theorem z3J {t : TypeId} {x y : Operand} {b N : Nat} {p q : Int} {R : Int → Int → Prop} (hx : ASt.ev ⟨tm, n, H, nx⟩ x = some (.pointer (some ⟨b, 0 + (p * (N : Int) + q).toNat * 1, none⟩))) (hy : ASt.ev ⟨tm, n, H, nx⟩ y = some (.bool true)) (hz : z1w P t = some 1)
  (hr : LRow H el b N R) (hN : N ≤ 200) (p0 : 0 ≤ p) (p1 : p < N) (q0 : 0 ≤ q) (q1 : q < N) (h : ∀ H', LRow H' el b N (fun p' q' => (p' = p ∧ q' = q) ∨ R p' q') → (∀ i, i ≠ b → H' i = H i) → (∀ k, (∀ id o, H id = some o → id < k) → ∀ id o, H' id = some o → id < k) → OpsL P W0 ops l ⟨tm, n, H', nx⟩ QQ) :
  OpsL P W0 ops (⟨none, .store t x y, type, pos, after, none⟩ :: l) ⟨tm, n, H, nx⟩ QQ := by
 obtain ⟨i1, i2, i3, i4⟩ := z33 hN p0 p1 q0 q1;have hsome : ∃ o, H b = some o := by obtain ⟨cs, h1, _⟩ := hr; exact ⟨_, h1⟩
 refine z1K hx hy hz hr zom i3 fun H' h1 h2 => h H' (BRow.iff h1 fun i hi => ?_) h2 fun k hk id o ho => ?_
 ·obtain ⟨e1, e2⟩ := zcS (N := N) (p := p.toNat) (q := q.toNat) zom;rw [i4];constructor
  ·rintro (rfl | hR)
   ·exact .inl ⟨by rw [e1]; omega, by rw [e2]; omega⟩
   ·exact .inr hR
  ·rintro (⟨h3, h4⟩ | hR)
   ·refine .inl ?_;have := Nat.div_add_mod i N;have e3 : i / N = p.toNat := by omega
    have e4 : i % N = q.toNat := by omega
    rw [e3, e4, Nat.mul_comm] at this;exact this.symm
   ·exact .inr hR
 ·by_cases e : id = b
  ·subst e;obtain ⟨o', ho'⟩ := hsome;exact hk _ _ ho'
  ·rw [h2 id e] at ho;exact hk _ _ ho
end
end Go.Am
namespace Go.Proofs.YteplpegfcpmflaaGreat
open Go.Am Go.RowKit
attribute [local irreducible] aop OpsL Trip zI z2r OpsK OpsR
theorem z1n : Tryz.prog.follows .mixedOrders = true := by kernel_rfl
end Go.Proofs.YteplpegfcpmflaaGreat
namespace Go.Am
open Go.RowKit
def z6w (r : R3) : List Int := [r.1, r.2.2]
def z7c (r : R4) : List Int := [r.1, r.2.2.1]
def zbp (r : R4) : List Int := [r.1, r.2.2.2]
def z51 (a : Aut) : Bool := (((a.init ++ a.final) ++ a.inners.flatMap z6w ++ a.opens.flatMap z7c) ++ a.closes.flatMap zbp).all (stF a.N)
theorem z35 {H : Heap} {a : Addr} {k j : Nat} {vs : List Value} {v : Value} (h : z0A H a k = some vs) (hj : vs[j]? = some v) : zh H ⟨a.block, a.off + j, a.spot⟩ v := by
 unfold zh z0A at *;split at h
 ·rename_i c e t r q ho;simp only [ho];split at h
  ·rename_i hc;simp only [Option.some.injEq] at h;obtain ⟨hjl, hje⟩ := List.getElem?_eq_some_iff.1 hj;subst h;have hjk : j < k := by simp at hjl; omega
   rw [if_pos ⟨hc.1, zom⟩];rw [List.getElem_take, List.getElem_drop] at hje;rw [List.take_one, List.head?_drop, List.getElem?_eq_getElem zom, hje];rfl
  ·cases h
 ·cases h
theorem zdq {α : Type} {f : α → List Int} {l : List α} {i : Nat} (h : i < l.length) : (l.take (i + 1)).flatMap f = (l.take i).flatMap f ++ f l[i] := by
 rw [List.take_succ_eq_append_getElem h, List.flatMap_append];simp
theorem z1s {α : Type} {f : α → List Int} (h : ∀ x, (f x).length = 2) (l : List α) : (l.flatMap f).length = 2 * l.length := by
 induction l with
 | nil => rfl
 | cons x l ih => rw [List.flatMap_cons, List.length_append, h, ih, List.length_cons]; omega
end Go.Am
namespace Go.Proofs.YteplpegfcpmflaaGreat
open Go.Am Go.RowKit
attribute [local irreducible] aop OpsL Trip zI z2r OpsK OpsR
theorem z95 : Am.z0O Tryz.prog 54 := ⟨Tryz.f54, Tryz.func54, by kernel_rfl, by kernel_rfl⟩
theorem zh8 {A : Prop} (h : A := by
 refine OpsL.nil ⟨hext.trans y0, ?_⟩;refine zg6 ?_;refine z0S (bytes := 8) (z := [.int .i64 0]) z5J z7C zom zsd hv0 htwo evd evd (fun b t h => by have := (hob b t h).2; omega) zxr zxr zxr zxr zxr rfl (by show _ + 2 ≤ _; omega) zom ?_;intro u5 nx5 H5 o5 hA5;have hle5 := hA5.le;have hn5 := hext.1;have x5 : Ext (nx + 1) F nx5 H5 := ⟨zom, fun j hj => by rw [hA5.same j zom (fun b t h => by have := (hob b t h).1; omega), y0.2 j zom, hext.2 j hj]⟩
 have hob5 : ∀ b t, o5 = some (b, t) → nx + 1 ≤ b ∧ b < nx5 := fun b t h => by
  obtain ⟨i1, i2⟩ := hA5.blk b t h;rcases i2 with rfl | ⟨t', h'⟩
  ·exact ⟨zom, i1⟩
  ·have := hob _ _ h'; exact ⟨zom, i1⟩
 refine OpsL.nil ⟨x5, ?_⟩;refine ziQ ?_;refine ⟨x5, ?_⟩;refine z0M ?_;exact ⟨rfl, _, nx5, H5, o5, u5, rfl, x5, by rw [zdq hlt, ← List.append_assoc]; exact hA5.own, hob5, stp, stp, stp⟩) : A := h
theorem zgb (W0 : World) {nx : Nat} {H : Heap} {a : Aut} {vi vf vo vc vn : Value} (ha : AutIn H a vi vf vo vc vn) (hn : AutLen a) :
  ACalls Tryz.prog W0 54 [.agg (zz a vi vf vo vc vn).toArray] nx H fun v nx' H' => v = .bool (z51 a) ∧ Ext nx H nx' H' := by
 obtain ⟨oa, oc, rfl⟩ := ha.opens.slice;obtain ⟨ca, cc, rfl⟩ := ha.closes.slice;obtain ⟨na, nc, rfl⟩ := ha.inners.slice;have q0 := hn.init;have q1 := hn.final;have q2 := hn.opens;have q3 := hn.closes;have q4 := hn.inners;refine zm (fn := Tryz.f54) (c := _) Tryz.func54 rfl (fun tm n hn0 htm => ?_);have e0 : tm 0 = .agg (zz a vi vf (.slice oa a.opens.length oc) (.slice ca a.closes.length cc) (.slice na a.inners.length nc)).toArray := htm 0;clear htm;replace hn0 : n = 101 := hn0;refine Trip.ok fun hok => ?_;replace hok : ∀ id o, H id = some o → id < nx := hok;refine z5h ?_;refine OpsL.new zsd (z0a evr) ?_;obtain ⟨F, hF⟩ : ∃ F, F = H.put nx (.cells (Value.agg (zz a vi vf (.slice oa a.opens.length oc) (.slice ca a.closes.length cc) (.slice na a.inners.length nc)).toArray).cells.toList 0 none false (some 30)) := ⟨_, rfl⟩;have hx0 : Ext nx H (nx + 1) F := by rw [hF]; exact zj
 have hokF : ∀ id o, F id = some o → id < nx + 1 := by rw [hF]; exact zF hok
 have hFn : F nx = some (.cells (zz a vi vf (.slice oa a.opens.length oc) (.slice ca a.closes.length cc) (.slice na a.inners.length nc)) 0 none false (some 30)) := by rw [hF, zb]; rfl
 replace ha := ha.ext hx0 hok;have g0 : zh F ⟨nx, 0, none⟩ (.int .i64 a.N) := ze hFn rfl;have g2 : zh F ⟨nx, 2, none⟩ vi := ze hFn rfl;have g3 : zh F ⟨nx, 3, none⟩ vf := ze hFn rfl;have g4 : zh F ⟨nx, 4, none⟩ (.slice oa a.opens.length oc) := ze hFn rfl;have g5 : zh F ⟨nx, 5, none⟩ (.slice ca a.closes.length cc) := ze hFn rfl;have g6 : zh F ⟨nx, 6, none⟩ (.slice na a.inners.length nc) := ze hFn rfl;rw [← hF];clear hF e0;refine zfm ?_;refine Trip.mono (Q := fun e st => e = .normal ∧ ∃ (tm' : Nat → Value) (nx' : Nat) (H' : Heap) (ob : Option (Nat × Nat)) (v : Value), st = ⟨tm', n, H', nx'⟩ ∧ Ext (nx + 1) F nx' H' ∧ RowE z5v 1 3 H' ob v (a.init ++ a.final) ∧ (∀ b t, ob = some (b, t) → nx + 1 ≤ b ∧ b < nx') ∧ tm' 1 = .pointer (some ⟨nx, 0, none⟩) ∧ tm' 3 = v) ?_ ?_
 ·refine zG [0, 3, 6] (K := fun nx1 H1 => Ext (nx + 1) F nx1 H1) z1n krf krf [1, 2, 4, 5, 0, 3, 6, 7] krf Ext.refl ?_;refine zg1 ?_;refine zx (v := vi) rfl krf zsd Ext.refl (fun H2 nx2 hK => zp evr zxr rfl (zN hK hokF g2)) ?_;refine zg1 ?_;refine zx (v := vf) rfl krf zsd Ext.refl (fun H2 nx2 hK => zp evr zxr rfl (zN hK hokF g3)) ?_;refine zg6 ?_;refine OpsL.new zsd (zq (l := []) (r := (.slice (some ⟨nx + 1, 0, none⟩) 0 0, .new (.cells [] 1 none false (some 3)))) (by simp only [z0i]) krf) ?_;have y0 : Ext (nx + 1) F (nx + 1 + 1) (F.put (nx + 1) (.cells [] 1 none false (some 3))) := zj;have p0 := zF (o := (.cells [] 1 none false (some 3))) hokF;have hE : RowE z5v 1 3 (F.put (nx + 1) (.cells [] 1 none false (some 3))) none (.slice (some ⟨nx + 1, 0, none⟩) 0 0) ([] : List Int) := .inr ⟨rfl, rfl, nx + 1, 1, false, _, rfl, zb⟩;generalize (F.put (nx + 1) (.cells [] 1 none false (some 3))) = G at *;refine OpsL.nil ⟨y0, ?_⟩;refine zg6 ?_;refine z0S (bytes := 8) (z := [.int .i64 0]) z5J z7C zom zsd hE (RowsAt.ext y0 hokF (z1h ha.init)) evd evd (fun b t h => by cases h) zxr zxr zxr zxr zxr rfl (by simp; omega) zom ?_;intro u1 m1 G1 o1 hA1;have y1 : Ext (nx + 1) F m1 G1 := y0.trans ⟨hA1.le, fun i hi => hA1.same i hi (fun b t h => by cases h)⟩
  have h1' : ∀ b t, o1 = some (b, t) → nx + 1 ≤ b ∧ b < m1 := fun b t h => by
   obtain ⟨i1, i2⟩ := hA1.blk b t h;rcases i2 with rfl | ⟨t', h'⟩
   ·exact ⟨zom, i1⟩
   ·cases h'
  refine OpsL.nil ⟨y1, ?_⟩;refine zg6 ?_;refine z0S (bytes := 8) (z := [.int .i64 0]) z5J z7C zom zsd hA1.own (RowsAt.ext y1 hokF (z1h ha.final)) evd evd (fun b t h => (h1' b t h).2) zxr zxr zxr zxr zxr rfl (by simp; omega) zom ?_;intro u2 m2 G2 o2 hA2;have y2 : Ext (nx + 1) F m2 G2 := ⟨by have := y1.1; have := hA2.le; omega, fun i hi => by rw [hA2.same i (by have := y1.1; omega) (fun b t h => by have := h1' b t h; omega), y1.2 i hi]⟩;refine OpsL.nil ⟨y2, ?_⟩;refine zbo ?_;refine ⟨rfl, _, m2, G2, o2, u2, rfl, y2, by simpa using hA2.own, fun b t h => ?_, stp, stp⟩;obtain ⟨i1, i2⟩ := hA2.blk b t h;have := y1.1;rcases i2 with rfl | ⟨t', h'⟩
  ·exact ⟨zom, i1⟩
  ·have := h1' _ _ h'; exact ⟨zom, i1⟩
 ·rintro e st ⟨rfl, tm2, nx2, G2, ob, v, rfl, x2, hv, hob, e1, e3⟩;refine zg9 ?_;refine zu (fun (i : Nat) s => ∃ (tm : Nat → Value) (nx' : Nat) (H' : Heap) (ob : Option (Nat × Nat)) (v : Value), s = ⟨tm, n, H', nx'⟩ ∧ Ext (nx + 1) F nx' H' ∧ RowE z5v 1 3 H' ob v ((a.init ++ a.final) ++ (a.inners.take i).flatMap z6w) ∧ (∀ b t, ob = some (b, t) → nx + 1 ≤ b ∧ b < nx') ∧ tm 1 = .pointer (some ⟨nx, 0, none⟩) ∧ tm 3 = v ∧ tm 4 = .int .i64 i ∧ i ≤ a.inners.length) (fun i => a.inners.length - i) 0 ?_ ?_
  ·exact ⟨_, _, _, ob, v, rfl, x2, by simpa using hv, hob, stp, stp, stp, zom⟩
  clear e1 e3 x2 hv hob;rintro i s ⟨tm, nx', H', ob, v, rfl, hext, hv, hob, e1, e3, e4, hi⟩;have gl := zN hext hokF g6;refine Trip.ok fun hokH => ?_;replace hokH : ∀ id o, H' id = some o → id < nx' := hokH
  repeat (first | (refine zd (by first | exact omv | exact zaH | exact z1D | exact ofa | exact old) ?_) | refine Trip.seq ?_ | refine zk ?_ | refine Trip.block ?_ | refine z1u (fun _ => ?_) (fun _ => ?_) | (refine Trip.skip ?_; (change Trip _ _ _ _ _)) | (refine OpsL.nil ?_; (change Trip _ _ _ _ _)))
  ·have hlt : i < a.inners.length := by omega
   obtain ⟨q, hq, hc⟩ := zX ha.inners hlt;have hc0 : zh F ⟨q.block, q.off + (i : Int).toNat * 3, q.spot⟩ (.int .i64 a.inners[i].1) := z35 (j := 0) hc rfl;have hcT : zh F ⟨q.block, q.off + (i : Int).toNat * 3 + 2, q.spot⟩ (.int .i64 a.inners[i].2.2) := z35 (j := 2) hc rfl;have gq := g6;rw [hq] at gq
   have hblen : ((a.init ++ a.final) ++ (a.inners.take i).flatMap z6w).length ≤ 100000 := by
    have z1 := z1s (f := z6w) (fun _ => rfl) a.inners;have z2 := z1s (f := z7c) (fun _ => rfl) a.opens;have z3 := z1s (f := z6w) (fun _ => rfl) (a.inners.take i);simp only [List.length_append] at *;rw [z3, List.length_take];omega
   repeat fail
   refine Trip.mono (Q := fun e st => e = .normal ∧ ∃ (tm' : Nat → Value) (nx5 : Nat) (H5 : Heap) (ob5 : Option (Nat × Nat)) (v5 : Value), st = ⟨tm', n, H5, nx5⟩ ∧ Ext (nx + 1) F nx5 H5 ∧ RowE z5v 1 3 H5 ob5 v5 ((a.init ++ a.final) ++ (a.inners.take (i + 1)).flatMap z6w) ∧ (∀ b t, ob5 = some (b, t) → nx + 1 ≤ b ∧ b < nx5) ∧ tm' 1 = .pointer (some ⟨nx, 0, none⟩) ∧ tm' 3 = v5 ∧ tm' 4 = .int .i64 i) ?_ ?_
   ·refine zG [13, 14, 15] (K := fun nx1 H1 => Ext (nx + 1) F nx1 H1) z1n krf krf [0, 1, 2, 3, 4, 5, 6, 7, 8, 9, 10, 11, 12, 13, 14, 15] krf hext ?_;refine z5w ?_;refine zg1 ?_;refine zx (v := .slice (some q) a.inners.length nc) rfl krf zsd hext (fun H2 nx2 hK => zp evr zxr rfl (zN hK hokF gq)) ?_;refine zbr ?_;refine zx (v := .int .i64 a.inners[i].1) rfl krf zsd hext (fun H2 nx2 hK => zp evr zxr rfl (zN hK hokF hc0)) ?_;refine zg1 ?_;refine zx (v := .slice (some q) a.inners.length nc) rfl krf zsd hext (fun H2 nx2 hK => zp evr zxr rfl (zN hK hokF gq)) ?_;refine zbr ?_;refine zx (v := .int .i64 a.inners[i].2.2) rfl krf zsd hext (fun H2 nx2 hK => zp evr zxr rfl (zN hK hokF hcT)) ?_;refine zg6 ?_;refine OpsL.new zsd (zq (l := [(0, .int .i64 a.inners[i].1), (1, .int .i64 a.inners[i].2.2)]) (r := (.slice (some ⟨nx', 0, none⟩) 2 2, .new (.cells [.int .i64 a.inners[i].1, .int .i64 a.inners[i].2.2] 1 none false (some 3)))) zeq krf) ?_;have y0 : Ext nx' H' (nx' + 1) (H'.put nx' (.cells [.int .i64 a.inners[i].1, .int .i64 a.inners[i].2.2] 1 none false (some 3))) := zj
    have htwo : RowsAt z5v 1 (H'.put nx' (.cells [.int .i64 a.inners[i].1, .int .i64 a.inners[i].2.2] 1 none false (some 3))) (.slice (some ⟨nx', 0, none⟩) 2 2) (z6w a.inners[i]) := by
     refine .inr ⟨⟨nx', 0, none⟩, 2, rfl, fun j hj => ?_⟩;have hj2 : j < 2 := hj;rcases (by omega : j = 0 ∨ j = 1) with rfl | rfl
     ·exact z01 (by show 0 + 0 * 1 + 1 ≤ 2; decide)
     ·exact z01 (by show 0 + 1 * 1 + 1 ≤ 2; decide)
    have hv0 := hv.same y0 hokH (fun b t h => (hob b t h).2);generalize (H'.put nx' (.cells [.int .i64 a.inners[i].1, .int .i64 a.inners[i].2.2] 1 none false (some 3))) = G at *;exact zh8
   ·clear e1 e3 e4 hv hob hext gl;rintro e st ⟨rfl, tm5, nx5, H5, ob5, v5, rfl, x5, hv5, hob5, e1, e3, e4⟩;refine zfq ?_;exact ⟨i + 1, ⟨_, _, _, ob5, v5, rfl, x5, hv5, hob5, stp, stp, stp, zom⟩, zom⟩
  have hi2 : i = a.inners.length := by omega
  subst hi2;rw [List.take_length] at hv;have x2 := hext;clear hi gl e4 hext;refine zi1 ?_;refine zu (fun (i : Nat) s => ∃ (tm : Nat → Value) (nx' : Nat) (H' : Heap) (ob : Option (Nat × Nat)) (v : Value), s = ⟨tm, n, H', nx'⟩ ∧ Ext (nx + 1) F nx' H' ∧ RowE z5v 1 3 H' ob v ((a.init ++ a.final ++ a.inners.flatMap z6w) ++ (a.opens.take i).flatMap z7c) ∧ (∀ b t, ob = some (b, t) → nx + 1 ≤ b ∧ b < nx') ∧ tm 1 = .pointer (some ⟨nx, 0, none⟩) ∧ tm 3 = v ∧ tm 5 = .int .i64 i ∧ i ≤ a.opens.length) (fun i => a.opens.length - i) 0 ?_ ?_
  ·exact ⟨_, _, _, ob, v, rfl, x2, by simpa using hv, hob, stp, stp, stp, zom⟩
  clear e1 e3 x2 hv hob;rintro i s ⟨tm, nx', H', ob, v, rfl, hext, hv, hob, e1, e3, e4, hi⟩;have gl := zN hext hokF g4;refine Trip.ok fun hokH => ?_;replace hokH : ∀ id o, H' id = some o → id < nx' := hokH
  repeat (first | (refine zd (by first | exact omv | exact zaH | exact z1D | exact ofa | exact old) ?_) | refine Trip.seq ?_ | refine zk ?_ | refine Trip.block ?_ | refine z1u (fun _ => ?_) (fun _ => ?_) | (refine Trip.skip ?_; (change Trip _ _ _ _ _)) | (refine OpsL.nil ?_; (change Trip _ _ _ _ _)))
  ·have hlt : i < a.opens.length := by omega
   obtain ⟨q, hq, hc⟩ := zX ha.opens hlt;have hc0 : zh F ⟨q.block, q.off + (i : Int).toNat * 4, q.spot⟩ (.int .i64 a.opens[i].1) := z35 (j := 0) hc rfl;have hcT : zh F ⟨q.block, q.off + (i : Int).toNat * 4 + 2, q.spot⟩ (.int .i64 a.opens[i].2.2.1) := z35 (j := 2) hc rfl;have gq := g4;rw [hq] at gq
   have hblen : ((a.init ++ a.final ++ a.inners.flatMap z6w) ++ (a.opens.take i).flatMap z7c).length ≤ 100000 := by
    have z1 := z1s (f := z6w) (fun _ => rfl) a.inners;have z2 := z1s (f := z7c) (fun _ => rfl) a.opens;have z3 := z1s (f := z7c) (fun _ => rfl) (a.opens.take i);simp only [List.length_append] at *;rw [z3, List.length_take];omega
   repeat fail
   refine Trip.mono (Q := fun e st => e = .normal ∧ ∃ (tm' : Nat → Value) (nx5 : Nat) (H5 : Heap) (ob5 : Option (Nat × Nat)) (v5 : Value), st = ⟨tm', n, H5, nx5⟩ ∧ Ext (nx + 1) F nx5 H5 ∧ RowE z5v 1 3 H5 ob5 v5 ((a.init ++ a.final ++ a.inners.flatMap z6w) ++ (a.opens.take (i + 1)).flatMap z7c) ∧ (∀ b t, ob5 = some (b, t) → nx + 1 ≤ b ∧ b < nx5) ∧ tm' 1 = .pointer (some ⟨nx, 0, none⟩) ∧ tm' 3 = v5 ∧ tm' 5 = .int .i64 i) ?_ ?_
   ·refine zG [13, 14, 15] (K := fun nx1 H1 => Ext (nx + 1) F nx1 H1) z1n krf krf [0, 1, 2, 3, 4, 5, 6, 7, 8, 9, 10, 11, 12, 13, 14, 15] krf hext ?_;refine z5w ?_;refine zg1 ?_;refine zx (v := .slice (some q) a.opens.length oc) rfl krf zsd hext (fun H2 nx2 hK => zp evr zxr rfl (zN hK hokF gq)) ?_;refine zbr ?_;refine zx (v := .int .i64 a.opens[i].1) rfl krf zsd hext (fun H2 nx2 hK => zp evr zxr rfl (zN hK hokF hc0)) ?_;refine zg1 ?_;refine zx (v := .slice (some q) a.opens.length oc) rfl krf zsd hext (fun H2 nx2 hK => zp evr zxr rfl (zN hK hokF gq)) ?_;refine zbr ?_;refine zx (v := .int .i64 a.opens[i].2.2.1) rfl krf zsd hext (fun H2 nx2 hK => zp evr zxr rfl (zN hK hokF hcT)) ?_;refine zg6 ?_;refine OpsL.new zsd (zq (l := [(0, .int .i64 a.opens[i].1), (1, .int .i64 a.opens[i].2.2.1)]) (r := (.slice (some ⟨nx', 0, none⟩) 2 2, .new (.cells [.int .i64 a.opens[i].1, .int .i64 a.opens[i].2.2.1] 1 none false (some 3)))) zeq krf) ?_;have y0 : Ext nx' H' (nx' + 1) (H'.put nx' (.cells [.int .i64 a.opens[i].1, .int .i64 a.opens[i].2.2.1] 1 none false (some 3))) := zj
    have htwo : RowsAt z5v 1 (H'.put nx' (.cells [.int .i64 a.opens[i].1, .int .i64 a.opens[i].2.2.1] 1 none false (some 3))) (.slice (some ⟨nx', 0, none⟩) 2 2) (z7c a.opens[i]) := by
     refine .inr ⟨⟨nx', 0, none⟩, 2, rfl, fun j hj => ?_⟩;have hj2 : j < 2 := hj;rcases (by omega : j = 0 ∨ j = 1) with rfl | rfl
     ·exact z01 (by show 0 + 0 * 1 + 1 ≤ 2; decide)
     ·exact z01 (by show 0 + 1 * 1 + 1 ≤ 2; decide)
    have hv0 := hv.same y0 hokH (fun b t h => (hob b t h).2);generalize (H'.put nx' (.cells [.int .i64 a.opens[i].1, .int .i64 a.opens[i].2.2.1] 1 none false (some 3))) = G at *;exact zh8
   ·clear e1 e3 e4 hv hob hext gl;rintro e st ⟨rfl, tm5, nx5, H5, ob5, v5, rfl, x5, hv5, hob5, e1, e3, e4⟩;refine zfq ?_;exact ⟨i + 1, ⟨_, _, _, ob5, v5, rfl, x5, hv5, hob5, stp, stp, stp, zom⟩, zom⟩
  have hi2 : i = a.opens.length := by omega
  subst hi2;rw [List.take_length] at hv;have x2 := hext;clear hi gl e4 hext;refine zi1 ?_;refine zu (fun (i : Nat) s => ∃ (tm : Nat → Value) (nx' : Nat) (H' : Heap) (ob : Option (Nat × Nat)) (v : Value), s = ⟨tm, n, H', nx'⟩ ∧ Ext (nx + 1) F nx' H' ∧ RowE z5v 1 3 H' ob v ((a.init ++ a.final ++ a.inners.flatMap z6w ++ a.opens.flatMap z7c) ++ (a.closes.take i).flatMap zbp) ∧ (∀ b t, ob = some (b, t) → nx + 1 ≤ b ∧ b < nx') ∧ tm 1 = .pointer (some ⟨nx, 0, none⟩) ∧ tm 3 = v ∧ tm 6 = .int .i64 i ∧ i ≤ a.closes.length) (fun i => a.closes.length - i) 0 ?_ ?_
  ·exact ⟨_, _, _, ob, v, rfl, x2, by simpa using hv, hob, stp, stp, stp, zom⟩
  clear e1 e3 x2 hv hob;rintro i s ⟨tm, nx', H', ob, v, rfl, hext, hv, hob, e1, e3, e4, hi⟩;have gl := zN hext hokF g5;refine Trip.ok fun hokH => ?_;replace hokH : ∀ id o, H' id = some o → id < nx' := hokH
  repeat (first | (refine zd (by first | exact omv | exact zaH | exact z1D | exact ofa | exact old) ?_) | refine Trip.seq ?_ | refine zk ?_ | refine Trip.block ?_ | refine z1u (fun _ => ?_) (fun _ => ?_) | (refine Trip.skip ?_; (change Trip _ _ _ _ _)) | (refine OpsL.nil ?_; (change Trip _ _ _ _ _)))
  ·have hlt : i < a.closes.length := by omega
   obtain ⟨q, hq, hc⟩ := zX ha.closes hlt;have hc0 : zh F ⟨q.block, q.off + (i : Int).toNat * 4, q.spot⟩ (.int .i64 a.closes[i].1) := z35 (j := 0) hc rfl;have hcT : zh F ⟨q.block, q.off + (i : Int).toNat * 4 + 3, q.spot⟩ (.int .i64 a.closes[i].2.2.2) := z35 (j := 3) hc rfl;have gq := g5;rw [hq] at gq
   have hblen : ((a.init ++ a.final ++ a.inners.flatMap z6w ++ a.opens.flatMap z7c) ++ (a.closes.take i).flatMap zbp).length ≤ 100000 := by
    have z1 := z1s (f := z6w) (fun _ => rfl) a.inners;have z2 := z1s (f := z7c) (fun _ => rfl) a.opens;have z3 := z1s (f := zbp) (fun _ => rfl) (a.closes.take i);simp only [List.length_append] at *;rw [z3, List.length_take];omega
   repeat fail
   refine Trip.mono (Q := fun e st => e = .normal ∧ ∃ (tm' : Nat → Value) (nx5 : Nat) (H5 : Heap) (ob5 : Option (Nat × Nat)) (v5 : Value), st = ⟨tm', n, H5, nx5⟩ ∧ Ext (nx + 1) F nx5 H5 ∧ RowE z5v 1 3 H5 ob5 v5 ((a.init ++ a.final ++ a.inners.flatMap z6w ++ a.opens.flatMap z7c) ++ (a.closes.take (i + 1)).flatMap zbp) ∧ (∀ b t, ob5 = some (b, t) → nx + 1 ≤ b ∧ b < nx5) ∧ tm' 1 = .pointer (some ⟨nx, 0, none⟩) ∧ tm' 3 = v5 ∧ tm' 6 = .int .i64 i) ?_ ?_
   ·refine zG [13, 14, 15] (K := fun nx1 H1 => Ext (nx + 1) F nx1 H1) z1n krf krf [0, 1, 2, 3, 4, 5, 6, 7, 8, 9, 10, 11, 12, 13, 14, 15] krf hext ?_;refine z5w ?_;refine zg1 ?_;refine zx (v := .slice (some q) a.closes.length cc) rfl krf zsd hext (fun H2 nx2 hK => zp evr zxr rfl (zN hK hokF gq)) ?_;refine zbr ?_;refine zx (v := .int .i64 a.closes[i].1) rfl krf zsd hext (fun H2 nx2 hK => zp evr zxr rfl (zN hK hokF hc0)) ?_;refine zg1 ?_;refine zx (v := .slice (some q) a.closes.length cc) rfl krf zsd hext (fun H2 nx2 hK => zp evr zxr rfl (zN hK hokF gq)) ?_;refine zbr ?_;refine zx (v := .int .i64 a.closes[i].2.2.2) rfl krf zsd hext (fun H2 nx2 hK => zp evr zxr rfl (zN hK hokF hcT)) ?_;refine zg6 ?_;refine OpsL.new zsd (zq (l := [(0, .int .i64 a.closes[i].1), (1, .int .i64 a.closes[i].2.2.2)]) (r := (.slice (some ⟨nx', 0, none⟩) 2 2, .new (.cells [.int .i64 a.closes[i].1, .int .i64 a.closes[i].2.2.2] 1 none false (some 3)))) zeq krf) ?_;have y0 : Ext nx' H' (nx' + 1) (H'.put nx' (.cells [.int .i64 a.closes[i].1, .int .i64 a.closes[i].2.2.2] 1 none false (some 3))) := zj
    have htwo : RowsAt z5v 1 (H'.put nx' (.cells [.int .i64 a.closes[i].1, .int .i64 a.closes[i].2.2.2] 1 none false (some 3))) (.slice (some ⟨nx', 0, none⟩) 2 2) (zbp a.closes[i]) := by
     refine .inr ⟨⟨nx', 0, none⟩, 2, rfl, fun j hj => ?_⟩;have hj2 : j < 2 := hj;rcases (by omega : j = 0 ∨ j = 1) with rfl | rfl
     ·exact z01 (by show 0 + 0 * 1 + 1 ≤ 2; decide)
     ·exact z01 (by show 0 + 1 * 1 + 1 ≤ 2; decide)
    have hv0 := hv.same y0 hokH (fun b t h => (hob b t h).2);generalize (H'.put nx' (.cells [.int .i64 a.closes[i].1, .int .i64 a.closes[i].2.2.2] 1 none false (some 3))) = G at *;exact zh8
   ·clear e1 e3 e4 hv hob hext gl;rintro e st ⟨rfl, tm5, nx5, H5, ob5, v5, rfl, x5, hv5, hob5, e1, e3, e4⟩;refine zfq ?_;exact ⟨i + 1, ⟨_, _, _, ob5, v5, rfl, x5, hv5, hob5, stp, stp, stp, zom⟩, zom⟩
  have hi2 : i = a.closes.length := by omega
  subst hi2;rw [List.take_length] at hv;have x2 := hext;clear hi gl e4 hext;have hvi := z1f (hv.at z5J);have hins : z51 a = (a.init ++ a.final ++ a.inners.flatMap z6w ++ a.opens.flatMap z7c ++ a.closes.flatMap zbp).all (stF a.N) := rfl
  have hlen : (a.init ++ a.final ++ a.inners.flatMap z6w ++ a.opens.flatMap z7c ++ a.closes.flatMap zbp).length ≤ 100000 := by
   have z1 := z1s (f := z6w) (fun _ => rfl) a.inners;have z2 := z1s (f := z7c) (fun _ => rfl) a.opens;have z3 := z1s (f := zbp) (fun _ => rfl) a.closes;simp only [List.length_append] at *;omega
  rw [hins];clear hins hv;generalize (a.init ++ a.final ++ a.inners.flatMap z6w ++ a.opens.flatMap z7c ++ a.closes.flatMap zbp) = L at *;obtain ⟨va, vk, rfl⟩ := hvi.slice;have gN := zN x2 hokF g0;refine zi1 ?_;refine zu (fun (i : Nat) s => ∃ (tm : Nat → Value), s = ⟨tm, n, H', nx'⟩ ∧ tm 1 = .pointer (some ⟨nx, 0, none⟩) ∧ tm 3 = .slice va L.length vk ∧ tm 7 = .int .i64 i ∧ i ≤ L.length ∧ (L.take i).all (stF a.N) = true) (fun i => L.length - i) 0 ?_ ?_
  ·exact ⟨_, rfl, stp, stp, stp, zom, rfl⟩
  clear e1 e3;rintro i s ⟨tm, rfl, e1, e3, e7, hi, hall⟩
  repeat (first | (refine zd (by first | exact omv | exact zaH | exact z1D) ?_) | refine Trip.seq ?_ | refine zk ?_ | refine Trip.block ?_ | refine z1u (fun _ => ?_) (fun _ => ?_) | (refine Trip.skip ?_; (change Trip _ _ _ _ _)) | (refine OpsL.nil ?_; (change Trip _ _ _ _ _)))
  ·have hlt : i < L.length := by omega
   obtain ⟨q, rfl, hc⟩ := z0g hvi hlt
   have hst : stF a.N L[i] = (!(decide (L[i] < 0)) && decide (L[i] < a.N)) := by
    unfold stF;rw [Bool.eq_iff_iff];simp
   repeat fail
   refine Trip.mono (Q := fun e st => e = .normal ∧ ∃ tm' : Nat → Value, st = ⟨tm', n, H', nx'⟩ ∧ tm' 1 = .pointer (some ⟨nx, 0, none⟩) ∧ tm' 3 = .slice (some q) L.length vk ∧ tm' 7 = .int .i64 i ∧ tm' 100 = .bool (!stF a.N L[i])) ?_ ?_
   ·refine zG [] (K := fun _ _ => True) z1n krf krf [0, 1, 2, 3, 4, 5, 6, 7, 8, 9, 10, 11, 12, 13] krf trivial ?_;refine zbn ?_;refine z9v ?_;refine zg5 ?_;by_cases h0 : L[i] < 0
    ·refine z0z ?_ (c := h0);refine z3B ?_;refine zg0 ?_;refine zgz ?_;refine zg5 ?_;refine zgz ?_;refine z8f ?_;refine z9p ?_;refine z0M ?_;exact ⟨rfl, _, rfl, stp, stp, stp, by simp [zl, hst, h0]⟩
    ·refine z0H ?_ (c := h0);refine z3B ?_;refine zg0 ?_;refine z89 ?_;refine z8g ?_;refine ze2 ?_;refine zg5 ?_
     repeat (first | refine zd (by exact old) ?_ | (refine OpsL.nil ?_; (skip)) | refine zA ?_)
     refine zg5 ?_;refine ze0 ?_;refine zg5 ?_
     repeat (first | refine zd (by exact old) ?_ | (refine OpsL.nil ?_; (skip)) | refine zA ?_)
     refine zg5 ?_;refine zA ?_;by_cases h1 : a.N ≤ L[i]
     ·refine z4M ?_ (c := h1);refine z3B ?_;refine zg5 ?_;refine zaC ?_;refine z0M ?_;have h2 : ¬ L[i] < a.N := by omega
      exact ⟨rfl, _, rfl, stp, stp, stp, by simp [zl, hst, h0, h2]⟩
     ·refine z3K ?_ (c := h1);refine z3B ?_;refine zg5 ?_;refine zaC ?_;refine z0M ?_;have h2 : L[i] < a.N := by omega
      exact ⟨rfl, _, rfl, stp, stp, stp, by simp [zl, hst, h0, h2]⟩
   ·clear e1 e3 e7;rintro e st ⟨rfl, tm', rfl, e1, e3, e7, e100⟩;cases hs : stF a.N L[i]
    ·rw [hs] at e100
     (change Trip _ _ _ _ _)
     repeat fail
     refine zdN ?_;exact ⟨.inr rfl, _, zy, by simp [zl, zaO hlt hs], hx0.trans x2⟩
    ·rw [hs] at e100
     (change Trip _ _ _ _ _)
     repeat fail
     refine zg4 ?_;exact ⟨i + 1, ⟨_, rfl, stp, stp, stp, zom, z5M hlt hall hs⟩, zom⟩
  ·repeat (first | refine zd (by exact z0y) ?_ | refine Trip.seq ?_ | refine zk ?_ | (refine Trip.exit ?_; ((repeat (refine zY ?_)); change Trip _ _ _ _ _)) | (refine Trip.ret ?_; (dsimp only)) | (refine OpsL.nil ?_; (change Trip _ _ _ _ _)))
   have hi2 : i = L.length := by omega
   subst hi2;rw [List.take_length] at hall;exact ⟨.inr rfl, _, zy, by simp [zl, hall], hx0.trans x2⟩
end Go.Proofs.YteplpegfcpmflaaGreat
