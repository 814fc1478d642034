import Derived.Test.YteplpegfcpmflaaGreatQKM18
set_option linter.unusedSimpArgs false
set_option linter.unusedVariables false
set_option maxRecDepth 100000
set_option maxHeartbeats 32000000
namespace Go.Proofs.YteplpegfcpmflaaGreat
open Go.RowKit Go.Am
attribute [local irreducible] aop OpsL Trip zI z2w OpsK OpsR
theorem z56 : Am.z0U Tryz.prog 11 := ⟨Tryz.f11, Tryz.func11, by kernel_rfl, by kernel_rfl⟩
theorem AdjL.zero {α : Type} (g : α → R3) (l : List α) : AdjL g l 1 := fun j _ h0 h1 => by omega
theorem AdjL.next {α : Type} {g : α → R3} {l : List α} {j : Nat} (h : AdjL g l (j + 1)) (hj : j + 1 < l.length) (hne : g l[j] ≠ g l[j + 1]) : AdjL g l (j + 1 + 1) := fun i hi h0 h1 => by
 by_cases e : i = j + 1
 ·subst e; exact hne
 ·exact h i hi h0 zom
theorem AdjL.all {α : Type} {g : α → R3} {l : List α} {i : Nat} (h : AdjL g l i) (hi : l.length ≤ i) : (z1h (l.map g)).length = l.length := (zbI g l).1 fun j hj h0 _ => h j hj h0 zom
theorem AdjL.no {α : Type} {g : α → R3} {l : List α} {j : Nat} (hj : j + 1 < l.length) (he : g l[j] = g l[j + 1]) : ¬ (z1h (l.map g)).length = l.length := fun h => (zbI g l).2 h (j + 1) hj zom hj he
theorem zbg (W0 : World) {nx : Nat} {H : Heap} {a : Aut} {lv vi vf vo vc vn : Value} (ha : AutIn H a vi vf vo vc vn) (hn : AutLen a) :
  ACalls Tryz.prog W0 11 [lv, .agg (zy a vi vf vo vc vn).toArray] nx H fun v nx' H' => v = .bool (zb2 a) ∧ Ext nx H nx' H' := by
 refine zl (fn := Tryz.f11) (c := _) Tryz.func11 rfl (fun tm n hn0 htm => ?_);have e0 : tm 1 = .agg (zy a vi vf vo vc vn).toArray := htm 1;clear htm;replace hn0 : n = 118 := hn0;refine Trip.ok fun hok => ?_;replace hok : ∀ id o, H id = some o → id < nx := hok;refine z5L ?_;refine OpsL.new zsd (z0f evr) ?_;obtain ⟨G, hG⟩ : ∃ G, G = H.put nx (.cells (Value.agg (zy a vi vf vo vc vn).toArray).cells.toList 0 none false (some 30)) := ⟨_, rfl⟩;have x0 : Ext nx H (nx + 1) G := by rw [hG]; exact zh
 have k0 : ∀ id o, G id = some o → id < nx + 1 := by rw [hG]; exact zF hok
 have ha0 := ha.ext x0 hok;obtain ⟨ia0, ic0, rfl⟩ := ha.init.slice;obtain ⟨fa0, fc0, rfl⟩ := ha.final.slice;obtain ⟨oa0, oc0, rfl⟩ := ha.opens.slice;obtain ⟨ca0, cc0, rfl⟩ := ha.closes.slice;obtain ⟨na0, nc0, rfl⟩ := ha.inners.slice;have g0 : G nx = some (.cells (zy a (.slice ia0 a.init.length ic0) (.slice fa0 a.final.length fc0) (.slice oa0 a.opens.length oc0) (.slice ca0 a.closes.length cc0) (.slice na0 a.inners.length nc0)) 0 none false (some 30)) := by rw [hG, zb]; rfl
 rw [← hG];clear hG e0 ha;refine z8v ?_;refine zd (zg (k := 7) (vs := (zy a (.slice ia0 a.init.length ic0) (.slice fa0 a.final.length fc0) (.slice oa0 a.opens.length oc0) (.slice ca0 a.closes.length cc0) (.slice na0 a.inners.length nc0))) evd zxr rfl zxr (zG g0 rfl)) ?_;refine z0c (hf := z4C) (hc := (zdc W0 ha0 hn).ok) (h := ?_);rintro v1 n1 H1 ⟨⟨l, vi, vf, vo, vc, vn, rfl, hO, x1⟩, k1⟩;have hB := hO.in;have hlB := z5Y hn;have hsF : zb2 a = (decide ((zR a).init.length = 1) && decide ((z1h ((zR a).opens.map z2S)).length = (zR a).opens.length) && decide ((z1h ((zR a).closes.map z3F)).length = (zR a).closes.length) && decide ((z1h ((zR a).inners.map z47)).length = (zR a).inners.length)) := rfl;rw [hsF];clear hsF hO g0 ha0;generalize zR a = b at *;obtain ⟨ia, ic, rfl⟩ := hB.init.slice;obtain ⟨fa, fc, rfl⟩ := hB.final.slice;obtain ⟨oa, oc, rfl⟩ := hB.opens.slice;obtain ⟨ca, cc, rfl⟩ := hB.closes.slice;obtain ⟨na, nc, rfl⟩ := hB.inners.slice;have l1 := hlB.init;have l3 := hlB.opens;have l4 := hlB.closes;have l5 := hlB.inners;refine z22 (k := 7) (vs := (zy b (.slice ia b.init.length ic) (.slice fa b.final.length fc) (.slice oa b.opens.length oc) (.slice ca b.closes.length cc) (.slice na b.inners.length nc))) (zs := z0g) zsd krf evd zxr rfl rfl rfl k1 fun G2 x2 k2 b2 => ?_;have q1 := x1.1;have hx2 : Ext nx H (n1 + 1) G2 := (x0.trans x1).trans x2;have gX : ∀ {J : Heap} {m : Nat}, Ext (n1 + 1) G2 m J → J n1 = some (.cells (zy b (.slice ia b.init.length ic) (.slice fa b.final.length fc) (.slice oa b.opens.length oc) (.slice ca b.closes.length cc) (.slice na b.inners.length nc)) 0 none false (some 30)) := fun {J m} hJ => (hJ.2 n1 zom).trans b2;have aX : ∀ {J : Heap} {m : Nat}, Ext (n1 + 1) G2 m J → AutIn J b (.slice ia b.init.length ic) (.slice fa b.final.length fc) (.slice oa b.opens.length oc) (.slice ca b.closes.length cc) (.slice na b.inners.length nc) := fun {J m} hJ => hB.ext (x2.trans hJ) k1;have cI : zj G2 ⟨n1, 0 + 2, none⟩ (.slice ia b.init.length ic) := by rw [Nat.zero_add]; exact ze b2 rfl
 repeat (first | (refine zd (by first | exact ofa | exact old | exact z2i) ?_) | refine Trip.seq ?_ | refine zm ?_ | (refine OpsL.nil ?_; (change Trip _ _ _ _ _)))
 repeat fail
 by_cases hi1 : b.init.length = 1
 case neg =>
  refine z0z ?_;refine z7z ?_;refine zcL ?_;exact ⟨.inr rfl, _, zx, by rw [decide_eq_false hi1]; simp [zk], hx2⟩
 refine z0A ?_;rw [decide_eq_true hi1];refine z8A ?_;refine zfO ?_;clear cI x0 x1 hB b2;refine Trip.mono (Q := fun e st => (e = .exit 0 ∧ ∃ (tm' : Nat → Value) (J : Heap) (m : Nat), st = ⟨tm', n, J, m⟩ ∧ Ext (n1 + 1) G2 m J ∧ (∀ id o, J id = some o → id < m) ∧ tm' 5 = .pointer (some ⟨n1, 0, none⟩) ∧ tm' 4 = .bool false ∧ (z1h (b.opens.map z2S)).length = b.opens.length) ∨ (e = .ret ∧ ∃ (tm' : Nat → Value) (J : Heap) (m : Nat), st = ⟨tm', n, J, m⟩ ∧ Ext (n1 + 1) G2 m J ∧ tm' 4 = .bool false ∧ ¬ (z1h (b.opens.map z2S)).length = b.opens.length)) ?_ ?_
 ·refine zD (fun (j : Nat) st => ∃ (tm' : Nat → Value) (J : Heap) (m : Nat), st = ⟨tm', n, J, m⟩ ∧ Ext (n1 + 1) G2 m J ∧ (∀ id o, J id = some o → id < m) ∧ AdjL z2S b.opens (j + 1) ∧ tm' 5 = .pointer (some ⟨n1, 0, none⟩) ∧ tm' 4 = .bool false ∧ tm' 6 = .int .i64 ((j : Int) + 1) ∧ j ≤ b.opens.length) (fun j => b.opens.length - j) 0 ?_ ?_
  ·exact ⟨_, _, _, rfl, Ext.refl, k2, AdjL.zero _ _, stp, stp, stp, Nat.zero_le _⟩
  ·clear k2;rintro j st ⟨tm', J, m, rfl, xJ, kJ, hadj, e5, e4, ei, hj⟩;have cF : zj J ⟨n1, 0 + 4, none⟩ (.slice oa b.opens.length oc) := by rw [Nat.zero_add]; exact ze (gX xJ) rfl
   by_cases hlt : j + 1 < b.opens.length
   case neg =>
    refine z4v ?_;exact .inl ⟨rfl, _, _, _, rfl, xJ, kJ, stp, stp, AdjL.all hadj zom⟩
   case pos =>
    have hl0 : j < b.opens.length := by omega
    have hc1 : ((j + 1 : Nat) : Int) = (j : Int) + 1 := by omega
    obtain ⟨pp, hpp, -⟩ := zS (aX xJ).opens hl0;subst hpp;obtain ⟨p, hp⟩ : ∃ p, b.opens[j] = p := ⟨_, rfl⟩;obtain ⟨q, hq⟩ : ∃ q, b.opens[j + 1] = q := ⟨_, rfl⟩;refine z9J ?_;refine z78 ?_;refine Trip.mono (Q := fun e st => e = .normal ∧ ∃ (tm' : Nat → Value) (m' : Nat) (J' : Heap) (P1 P2 : Nat), st = ⟨tm', n, J', m'⟩ ∧ Ext m J m' J' ∧ (∀ id o, J' id = some o → id < m') ∧ J' P1 = some (.cells (Go.Am.e4 p) 0 none false (some 43)) ∧ J' P2 = some (.cells (Go.Am.e4 q) 0 none false (some 43)) ∧ tm' 5 = .pointer (some ⟨n1, 0, none⟩) ∧ tm' 4 = .bool false ∧ tm' 6 = .int .i64 ((j : Int) + 1) ∧ tm' 7 = .pointer (some ⟨P1, 0, none⟩) ∧ tm' 8 = .pointer (some ⟨P2, 0, none⟩)) ?_ ?_
    ·have EJ : Ext m J m J := Ext.refl;refine OpsR.drawn [11, 12, 13, 14] (K := fun nn HH => Ext m J nn HH) z0V krf krf [0, 1, 2, 3, 4, 5, 6, 7, 8, 9, 10, 11, 12, 13, 14] krf EJ ?_;refine zg4 ?_;refine zA (v := .slice (some pp) b.opens.length oc) rfl krf zsd EJ (fun HH nn hK => zp evr zxr rfl (by rw [Nat.zero_add]; exact ze (gX (xJ.trans hK)) rfl)) ?_;refine z5U ?_;refine zd (v := .int .i64 (j : Int)) (by rw [show (.int .i64 (j : Int) : Value) = .int .i64 ((j : Int) + 1 - 1) by rw [Int.add_sub_cancel]]; exact z7C) ?_;refine OpsL.nil ?_;refine z3L ?_;refine zA (v := .agg (Go.Am.e4 p).toArray) rfl krf zsd EJ (fun HH nn hK => zg (k := 4) (vs := Go.Am.e4 p) evr zxr rfl zxr (by obtain ⟨p', hp', g'⟩ := zS (aX (xJ.trans hK)).opens hl0; cases hp'; rw [hp] at g'; exact g')) ?_;refine zg4 ?_;refine zA (v := .slice (some pp) b.opens.length oc) rfl krf zsd EJ (fun HH nn hK => zp evr zxr rfl (by rw [Nat.zero_add]; exact ze (gX (xJ.trans hK)) rfl)) ?_;refine z5U ?_;refine zek ?_;refine zA (v := .agg (Go.Am.e4 q).toArray) rfl krf zsd EJ (fun HH nn hK => zg (k := 4) (vs := Go.Am.e4 q) evr zxr rfl zxr (by obtain ⟨p', hp', g'⟩ := zS (aX (xJ.trans hK)).opens hlt; cases hp'; rw [hc1, hq] at g'; exact g')) ?_;refine zY krf (zt rfl rfl ?_) (zt rfl rfl ?_)
     ·skip;refine OpsL.new zsd (zB (l := (rep 4 [.int .i64 0])) krf) ?_;obtain ⟨HB1, hHB1⟩ : ∃ Q, Q = J.put m (.cells (rep 4 [.int .i64 0]) 0 none false (some 43)) := ⟨_, rfl⟩;obtain ⟨nB1, hnB1⟩ : ∃ q, q = m + 1 := ⟨_, rfl⟩;have xB1 : Ext m J nB1 HB1 := by rw [hnB1, hHB1]; exact zh
      have kB1 : ∀ id o, HB1 id = some o → id < nB1 := by rw [hHB1, hnB1]; exact zF kJ
      have gB1 : HB1 m = some (.cells (rep 4 [.int .i64 0]) 0 none false (some 43)) := by rw [hHB1, zb]
      have EB1 : Ext m J nB1 HB1 := EJ.trans xB1;rw [← hHB1, ← hnB1];clear hHB1;have lB1 : m ≤ m ∧ m < nB1 := by have := EB1.1; omega
      refine OpsL.nil ⟨EB1, ?_⟩;refine zY krf (zt rfl rfl ?_) (zt rfl rfl ?_)
      ·skip;refine OpsL.new zsd (zB (l := (rep 4 [.int .i64 0])) krf) ?_;obtain ⟨HB2, hHB2⟩ : ∃ Q, Q = HB1.put nB1 (.cells (rep 4 [.int .i64 0]) 0 none false (some 43)) := ⟨_, rfl⟩;obtain ⟨nB2, hnB2⟩ : ∃ q, q = nB1 + 1 := ⟨_, rfl⟩;have xB2 : Ext nB1 HB1 nB2 HB2 := by rw [hnB2, hHB2]; exact zh
       have kB2 : ∀ id o, HB2 id = some o → id < nB2 := by rw [hHB2, hnB2]; exact zF kB1
       have gB2 : HB2 nB1 = some (.cells (rep 4 [.int .i64 0]) 0 none false (some 43)) := by rw [hHB2, zb]
       have EB2 : Ext m J nB2 HB2 := EB1.trans xB2;rw [← hHB2, ← hnB2];clear hHB2;have gB21 := (xB2.2 m zom).trans gB1;have lB2 : m ≤ nB1 ∧ nB1 < nB2 := by have := EB2.1; omega
       refine OpsL.nil ⟨EB2, ?_⟩;refine zg5 ?_;refine OpsL.upd (zw (k := 4) (u := .agg (Go.Am.e4 p).toArray) evd evd zxr rfl (o := .cells (Go.Am.e4 p) 0 none false (some 43)) (zC (vs := Go.Am.e4 p) gB21 rfl rfl)) ?_;obtain ⟨HD3, hHD3⟩ : ∃ Q, Q = HB2.put m (.cells (Go.Am.e4 p) 0 none false (some 43)) := ⟨_, rfl⟩;have kD3 : ∀ id o, HD3 id = some o → id < nB2 := by rw [hHD3]; exact zU kB2 gB21
       have gD3 : HD3 m = some (.cells (Go.Am.e4 p) 0 none false (some 43)) := by rw [hHD3, zb]
       have ED3 : Ext m J nB2 HD3 := ⟨EB2.1, fun j hj => by rw [hHD3, za zom]; exact EB2.2 j hj⟩;have gD32 := (show HD3 nB1 = HB2 nB1 by rw [hHD3, za zom]).trans gB2;rw [← hHD3];clear hHD3;refine OpsL.nil ⟨ED3, ?_⟩;refine zg5 ?_;refine OpsL.upd (zw (k := 4) (u := .agg (Go.Am.e4 q).toArray) evd evd zxr rfl (o := .cells (Go.Am.e4 q) 0 none false (some 43)) (zC (vs := Go.Am.e4 q) gD32 rfl rfl)) ?_;obtain ⟨HD4, hHD4⟩ : ∃ Q, Q = HD3.put nB1 (.cells (Go.Am.e4 q) 0 none false (some 43)) := ⟨_, rfl⟩;have kD4 : ∀ id o, HD4 id = some o → id < nB2 := by rw [hHD4]; exact zU kD3 gD32
       have gD4 : HD4 nB1 = some (.cells (Go.Am.e4 q) 0 none false (some 43)) := by rw [hHD4, zb]
       have ED4 : Ext m J nB2 HD4 := ⟨ED3.1, fun j hj => by rw [hHD4, za zom]; exact ED3.2 j hj⟩;have gD41 := (show HD4 m = HD3 m by rw [hHD4, za zom]).trans gD3;rw [← hHD4];clear hHD4;refine OpsL.nil ⟨ED4, ?_⟩;refine z0T ?_;exact ⟨rfl, _, _, _, m, nB1, rfl, ED4, kD4, gD41, gD4, stp, stp, stp, stp, stp⟩
      ·skip;refine OpsL.upd (zw (k := 4) (u := .agg (Go.Am.e4 p).toArray) evd evd zxr rfl (o := .cells (Go.Am.e4 p) 0 none false (some 43)) (zC (vs := Go.Am.e4 p) gB1 rfl rfl)) ?_;obtain ⟨HD5, hHD5⟩ : ∃ Q, Q = HB1.put m (.cells (Go.Am.e4 p) 0 none false (some 43)) := ⟨_, rfl⟩;have kD5 : ∀ id o, HD5 id = some o → id < nB1 := by rw [hHD5]; exact zU kB1 gB1
       have gD5 : HD5 m = some (.cells (Go.Am.e4 p) 0 none false (some 43)) := by rw [hHD5, zb]
       have ED5 : Ext m J nB1 HD5 := ⟨EB1.1, fun j hj => by rw [hHD5, za zom]; exact EB1.2 j hj⟩;rw [← hHD5];clear hHD5;refine OpsL.nil ⟨ED5, ?_⟩;refine zg5 ?_;refine OpsL.new zsd (zB (l := (rep 4 [.int .i64 0])) krf) ?_;obtain ⟨HB6, hHB6⟩ : ∃ Q, Q = HD5.put nB1 (.cells (rep 4 [.int .i64 0]) 0 none false (some 43)) := ⟨_, rfl⟩;obtain ⟨nB6, hnB6⟩ : ∃ q, q = nB1 + 1 := ⟨_, rfl⟩;have xB6 : Ext nB1 HD5 nB6 HB6 := by rw [hnB6, hHB6]; exact zh
       have kB6 : ∀ id o, HB6 id = some o → id < nB6 := by rw [hHB6, hnB6]; exact zF kD5
       have gB6 : HB6 nB1 = some (.cells (rep 4 [.int .i64 0]) 0 none false (some 43)) := by rw [hHB6, zb]
       have EB6 : Ext m J nB6 HB6 := ED5.trans xB6;rw [← hHB6, ← hnB6];clear hHB6;have gB61 := (xB6.2 m zom).trans gD5;have lB6 : m ≤ nB1 ∧ nB1 < nB6 := by have := EB6.1; omega
       refine OpsL.nil ⟨EB6, ?_⟩;refine zg5 ?_;refine OpsL.upd (zw (k := 4) (u := .agg (Go.Am.e4 q).toArray) evd evd zxr rfl (o := .cells (Go.Am.e4 q) 0 none false (some 43)) (zC (vs := Go.Am.e4 q) gB6 rfl rfl)) ?_;obtain ⟨HD7, hHD7⟩ : ∃ Q, Q = HB6.put nB1 (.cells (Go.Am.e4 q) 0 none false (some 43)) := ⟨_, rfl⟩;have kD7 : ∀ id o, HD7 id = some o → id < nB6 := by rw [hHD7]; exact zU kB6 gB6
       have gD7 : HD7 nB1 = some (.cells (Go.Am.e4 q) 0 none false (some 43)) := by rw [hHD7, zb]
       have ED7 : Ext m J nB6 HD7 := ⟨EB6.1, fun j hj => by rw [hHD7, za zom]; exact EB6.2 j hj⟩;have gD71 := (show HD7 m = HB6 m by rw [hHD7, za zom]).trans gB61;rw [← hHD7];clear hHD7;refine OpsL.nil ⟨ED7, ?_⟩;refine z0T ?_;exact ⟨rfl, _, _, _, m, nB1, rfl, ED7, kD7, gD71, gD7, stp, stp, stp, stp, stp⟩
     ·skip;refine OpsL.new zsd (zB (l := (rep 4 [.int .i64 0])) krf) ?_;obtain ⟨HB8, hHB8⟩ : ∃ Q, Q = J.put m (.cells (rep 4 [.int .i64 0]) 0 none false (some 43)) := ⟨_, rfl⟩;obtain ⟨nB8, hnB8⟩ : ∃ q, q = m + 1 := ⟨_, rfl⟩;have xB8 : Ext m J nB8 HB8 := by rw [hnB8, hHB8]; exact zh
      have kB8 : ∀ id o, HB8 id = some o → id < nB8 := by rw [hHB8, hnB8]; exact zF kJ
      have gB8 : HB8 m = some (.cells (rep 4 [.int .i64 0]) 0 none false (some 43)) := by rw [hHB8, zb]
      have EB8 : Ext m J nB8 HB8 := EJ.trans xB8;rw [← hHB8, ← hnB8];clear hHB8;have lB8 : m ≤ m ∧ m < nB8 := by have := EB8.1; omega
      refine OpsL.nil ⟨EB8, ?_⟩;refine zg5 ?_;refine OpsL.new zsd (zB (l := (rep 4 [.int .i64 0])) krf) ?_;obtain ⟨HB9, hHB9⟩ : ∃ Q, Q = HB8.put nB8 (.cells (rep 4 [.int .i64 0]) 0 none false (some 43)) := ⟨_, rfl⟩;obtain ⟨nB9, hnB9⟩ : ∃ q, q = nB8 + 1 := ⟨_, rfl⟩;have xB9 : Ext nB8 HB8 nB9 HB9 := by rw [hnB9, hHB9]; exact zh
      have kB9 : ∀ id o, HB9 id = some o → id < nB9 := by rw [hHB9, hnB9]; exact zF kB8
      have gB9 : HB9 nB8 = some (.cells (rep 4 [.int .i64 0]) 0 none false (some 43)) := by rw [hHB9, zb]
      have EB9 : Ext m J nB9 HB9 := EB8.trans xB9;rw [← hHB9, ← hnB9];clear hHB9;have gB92 := (xB9.2 m zom).trans gB8;have lB9 : m ≤ nB8 ∧ nB8 < nB9 := by have := EB9.1; omega
      refine OpsL.nil ⟨EB9, ?_⟩;refine zg5 ?_;refine OpsL.upd (zw (k := 4) (u := .agg (Go.Am.e4 p).toArray) evd evd zxr rfl (o := .cells (Go.Am.e4 p) 0 none false (some 43)) (zC (vs := Go.Am.e4 p) gB9 rfl rfl)) ?_;obtain ⟨HD10, hHD10⟩ : ∃ Q, Q = HB9.put nB8 (.cells (Go.Am.e4 p) 0 none false (some 43)) := ⟨_, rfl⟩;have kD10 : ∀ id o, HD10 id = some o → id < nB9 := by rw [hHD10]; exact zU kB9 gB9
      have gD10 : HD10 nB8 = some (.cells (Go.Am.e4 p) 0 none false (some 43)) := by rw [hHD10, zb]
      have ED10 : Ext m J nB9 HD10 := ⟨EB9.1, fun j hj => by rw [hHD10, za zom]; exact EB9.2 j hj⟩;have gD102 := (show HD10 m = HB9 m by rw [hHD10, za zom]).trans gB92;rw [← hHD10];clear hHD10;refine OpsL.nil ⟨ED10, ?_⟩;refine zg5 ?_;refine OpsL.upd (zw (k := 4) (u := .agg (Go.Am.e4 q).toArray) evd evd zxr rfl (o := .cells (Go.Am.e4 q) 0 none false (some 43)) (zC (vs := Go.Am.e4 q) gD102 rfl rfl)) ?_;obtain ⟨HD11, hHD11⟩ : ∃ Q, Q = HD10.put m (.cells (Go.Am.e4 q) 0 none false (some 43)) := ⟨_, rfl⟩;have kD11 : ∀ id o, HD11 id = some o → id < nB9 := by rw [hHD11]; exact zU kD10 gD102
      have gD11 : HD11 m = some (.cells (Go.Am.e4 q) 0 none false (some 43)) := by rw [hHD11, zb]
      have ED11 : Ext m J nB9 HD11 := ⟨ED10.1, fun j hj => by rw [hHD11, za zom]; exact ED10.2 j hj⟩;have gD111 := (show HD11 nB8 = HD10 nB8 by rw [hHD11, za zom]).trans gD10;rw [← hHD11];clear hHD11;refine OpsL.nil ⟨ED11, ?_⟩;refine z0T ?_;exact ⟨rfl, _, _, _, nB8, m, rfl, ED11, kD11, gD111, gD11, stp, stp, stp, stp, stp⟩
    clear e5 e4 ei cF;rintro e st ⟨rfl, tm9, m', J', P1, P2, rfl, x9, k9, g1, g2, e5, e4, ei, ep, eq⟩
    (change Trip _ _ _ _ _)
    have cp1 : zj J' ⟨P1, 0, none⟩ (.int .i64 p.1) := by exact ze g1 rfl
    have cq1 : zj J' ⟨P2, 0, none⟩ (.int .i64 q.1) := by exact ze g2 rfl
    have cp2 : zj J' ⟨P1, 0 + 1, none⟩ (.int .i64 p.2.1) := by rw [Nat.zero_add]; exact ze g1 rfl
    have cq2 : zj J' ⟨P2, 0 + 1, none⟩ (.int .i64 q.2.1) := by rw [Nat.zero_add]; exact ze g2 rfl
    refine zfW ?_
    repeat fail
    by_cases h1 : p.1 = q.1
    case neg =>
     refine z00 ?_ (c := h1);refine zez ?_;refine zg3 ?_;exact ⟨j + 1, ⟨_, _, _, rfl, xJ.trans x9, k9, AdjL.next hadj hlt (by rw [hp, hq]; exact fun h => h1 (by have h' := congrArg (fun x : R3 => x.1) h; exact h')), stp, stp, stp, zom⟩, zom⟩
    refine zZ ?_ (c := h1);refine zd7 ?_
    repeat fail
    by_cases h2 : p.2.1 = q.2.1
    case neg =>
     refine z00 ?_ (c := h2);refine zen ?_;refine zg3 ?_;exact ⟨j + 1, ⟨_, _, _, rfl, xJ.trans x9, k9, AdjL.next hadj hlt (by rw [hp, hq]; exact fun h => h2 (by have h' := congrArg (fun x : R3 => x.2.1) h; exact h')), stp, stp, stp, zom⟩, zom⟩
    refine zZ ?_ (c := h2);refine zen ?_;refine zcV ?_;exact .inr ⟨rfl, _, _, _, rfl, xJ.trans x9, stp, AdjL.no hlt (by rw [hp, hq]; unfold z2S; rw [h1, h2])⟩
 rintro e st (⟨rfl, tm2, J, m, rfl, xJ, kJ, e5, e4, a1⟩ | ⟨rfl, tm2, J, m, rfl, xJ, e4, hno⟩)
 rotate_left
 ·((repeat (refine z0s ?_)); dsimp only)
  exact ⟨.inr rfl, _, zx, by rw [decide_eq_false hno]; simp [*], hx2.trans xJ⟩
 refine z5g ?_;refine Trip.mono (Q := fun e st => (e = .exit 2 ∧ ∃ (tm' : Nat → Value) (J : Heap) (m : Nat), st = ⟨tm', n, J, m⟩ ∧ Ext (n1 + 1) G2 m J ∧ (∀ id o, J id = some o → id < m) ∧ tm' 5 = .pointer (some ⟨n1, 0, none⟩) ∧ tm' 4 = .bool false ∧ (z1h (b.closes.map z3F)).length = b.closes.length) ∨ (e = .ret ∧ ∃ (tm' : Nat → Value) (J : Heap) (m : Nat), st = ⟨tm', n, J, m⟩ ∧ Ext (n1 + 1) G2 m J ∧ tm' 4 = .bool false ∧ ¬ (z1h (b.closes.map z3F)).length = b.closes.length)) ?_ ?_
 ·refine zD (fun (j : Nat) st => ∃ (tm' : Nat → Value) (J : Heap) (m : Nat), st = ⟨tm', n, J, m⟩ ∧ Ext (n1 + 1) G2 m J ∧ (∀ id o, J id = some o → id < m) ∧ AdjL z3F b.closes (j + 1) ∧ tm' 5 = .pointer (some ⟨n1, 0, none⟩) ∧ tm' 4 = .bool false ∧ tm' 9 = .int .i64 ((j : Int) + 1) ∧ j ≤ b.closes.length) (fun j => b.closes.length - j) 0 ?_ ?_
  ·exact ⟨_, _, _, rfl, xJ, kJ, AdjL.zero _ _, stp, stp, stp, Nat.zero_le _⟩
  ·clear e5 e4 xJ kJ;rintro j st ⟨tm', J, m, rfl, xJ, kJ, hadj, e5, e4, ei, hj⟩;have cF : zj J ⟨n1, 0 + 5, none⟩ (.slice ca b.closes.length cc) := by rw [Nat.zero_add]; exact ze (gX xJ) rfl
   by_cases hlt : j + 1 < b.closes.length
   case neg =>
    refine z4v ?_;exact .inl ⟨rfl, _, _, _, rfl, xJ, kJ, stp, stp, AdjL.all hadj zom⟩
   case pos =>
    have hl0 : j < b.closes.length := by omega
    have hc1 : ((j + 1 : Nat) : Int) = (j : Int) + 1 := by omega
    obtain ⟨pp, hpp, -⟩ := zS (aX xJ).closes hl0;subst hpp;obtain ⟨p, hp⟩ : ∃ p, b.closes[j] = p := ⟨_, rfl⟩;obtain ⟨q, hq⟩ : ∃ q, b.closes[j + 1] = q := ⟨_, rfl⟩;refine z9J ?_;refine z78 ?_;refine Trip.mono (Q := fun e st => e = .normal ∧ ∃ (tm' : Nat → Value) (m' : Nat) (J' : Heap) (P1 P2 : Nat), st = ⟨tm', n, J', m'⟩ ∧ Ext m J m' J' ∧ (∀ id o, J' id = some o → id < m') ∧ J' P1 = some (.cells (Go.Am.e4 p) 0 none false (some 45)) ∧ J' P2 = some (.cells (Go.Am.e4 q) 0 none false (some 45)) ∧ tm' 5 = .pointer (some ⟨n1, 0, none⟩) ∧ tm' 4 = .bool false ∧ tm' 9 = .int .i64 ((j : Int) + 1) ∧ tm' 10 = .pointer (some ⟨P1, 0, none⟩) ∧ tm' 11 = .pointer (some ⟨P2, 0, none⟩)) ?_ ?_
    ·have EJ : Ext m J m J := Ext.refl;refine OpsR.drawn [11, 12, 13, 14] (K := fun nn HH => Ext m J nn HH) z0V krf krf [0, 1, 2, 3, 4, 5, 6, 7, 8, 9, 10, 11, 12, 13, 14] krf EJ ?_;refine zg4 ?_;refine zA (v := .slice (some pp) b.closes.length cc) rfl krf zsd EJ (fun HH nn hK => zp evr zxr rfl (by rw [Nat.zero_add]; exact ze (gX (xJ.trans hK)) rfl)) ?_;refine z5U ?_;refine zd (v := .int .i64 (j : Int)) (by rw [show (.int .i64 (j : Int) : Value) = .int .i64 ((j : Int) + 1 - 1) by rw [Int.add_sub_cancel]]; exact z7C) ?_;refine OpsL.nil ?_;refine z3L ?_;refine zA (v := .agg (Go.Am.e4 p).toArray) rfl krf zsd EJ (fun HH nn hK => zg (k := 4) (vs := Go.Am.e4 p) evr zxr rfl zxr (by obtain ⟨p', hp', g'⟩ := zS (aX (xJ.trans hK)).closes hl0; cases hp'; rw [hp] at g'; exact g')) ?_;refine zg4 ?_;refine zA (v := .slice (some pp) b.closes.length cc) rfl krf zsd EJ (fun HH nn hK => zp evr zxr rfl (by rw [Nat.zero_add]; exact ze (gX (xJ.trans hK)) rfl)) ?_;refine z5U ?_;refine zek ?_;refine zA (v := .agg (Go.Am.e4 q).toArray) rfl krf zsd EJ (fun HH nn hK => zg (k := 4) (vs := Go.Am.e4 q) evr zxr rfl zxr (by obtain ⟨p', hp', g'⟩ := zS (aX (xJ.trans hK)).closes hlt; cases hp'; rw [hc1, hq] at g'; exact g')) ?_;refine zY krf (zt rfl rfl ?_) (zt rfl rfl ?_)
     ·skip;refine OpsL.new zsd (zB (l := (rep 4 [.int .i64 0])) krf) ?_;obtain ⟨HB1, hHB1⟩ : ∃ Q, Q = J.put m (.cells (rep 4 [.int .i64 0]) 0 none false (some 45)) := ⟨_, rfl⟩;obtain ⟨nB1, hnB1⟩ : ∃ q, q = m + 1 := ⟨_, rfl⟩;have xB1 : Ext m J nB1 HB1 := by rw [hnB1, hHB1]; exact zh
      have kB1 : ∀ id o, HB1 id = some o → id < nB1 := by rw [hHB1, hnB1]; exact zF kJ
      have gB1 : HB1 m = some (.cells (rep 4 [.int .i64 0]) 0 none false (some 45)) := by rw [hHB1, zb]
      have EB1 : Ext m J nB1 HB1 := EJ.trans xB1;rw [← hHB1, ← hnB1];clear hHB1;have lB1 : m ≤ m ∧ m < nB1 := by have := EB1.1; omega
      refine OpsL.nil ⟨EB1, ?_⟩;refine zY krf (zt rfl rfl ?_) (zt rfl rfl ?_)
      ·skip;refine OpsL.new zsd (zB (l := (rep 4 [.int .i64 0])) krf) ?_;obtain ⟨HB2, hHB2⟩ : ∃ Q, Q = HB1.put nB1 (.cells (rep 4 [.int .i64 0]) 0 none false (some 45)) := ⟨_, rfl⟩;obtain ⟨nB2, hnB2⟩ : ∃ q, q = nB1 + 1 := ⟨_, rfl⟩;have xB2 : Ext nB1 HB1 nB2 HB2 := by rw [hnB2, hHB2]; exact zh
       have kB2 : ∀ id o, HB2 id = some o → id < nB2 := by rw [hHB2, hnB2]; exact zF kB1
       have gB2 : HB2 nB1 = some (.cells (rep 4 [.int .i64 0]) 0 none false (some 45)) := by rw [hHB2, zb]
       have EB2 : Ext m J nB2 HB2 := EB1.trans xB2;rw [← hHB2, ← hnB2];clear hHB2;have gB21 := (xB2.2 m zom).trans gB1;have lB2 : m ≤ nB1 ∧ nB1 < nB2 := by have := EB2.1; omega
       refine OpsL.nil ⟨EB2, ?_⟩;refine zg5 ?_;refine OpsL.upd (zw (k := 4) (u := .agg (Go.Am.e4 p).toArray) evd evd zxr rfl (o := .cells (Go.Am.e4 p) 0 none false (some 45)) (zC (vs := Go.Am.e4 p) gB21 rfl rfl)) ?_;obtain ⟨HD3, hHD3⟩ : ∃ Q, Q = HB2.put m (.cells (Go.Am.e4 p) 0 none false (some 45)) := ⟨_, rfl⟩;have kD3 : ∀ id o, HD3 id = some o → id < nB2 := by rw [hHD3]; exact zU kB2 gB21
       have gD3 : HD3 m = some (.cells (Go.Am.e4 p) 0 none false (some 45)) := by rw [hHD3, zb]
       have ED3 : Ext m J nB2 HD3 := ⟨EB2.1, fun j hj => by rw [hHD3, za zom]; exact EB2.2 j hj⟩;have gD32 := (show HD3 nB1 = HB2 nB1 by rw [hHD3, za zom]).trans gB2;rw [← hHD3];clear hHD3;refine OpsL.nil ⟨ED3, ?_⟩;refine zg5 ?_;refine OpsL.upd (zw (k := 4) (u := .agg (Go.Am.e4 q).toArray) evd evd zxr rfl (o := .cells (Go.Am.e4 q) 0 none false (some 45)) (zC (vs := Go.Am.e4 q) gD32 rfl rfl)) ?_;obtain ⟨HD4, hHD4⟩ : ∃ Q, Q = HD3.put nB1 (.cells (Go.Am.e4 q) 0 none false (some 45)) := ⟨_, rfl⟩;have kD4 : ∀ id o, HD4 id = some o → id < nB2 := by rw [hHD4]; exact zU kD3 gD32
       have gD4 : HD4 nB1 = some (.cells (Go.Am.e4 q) 0 none false (some 45)) := by rw [hHD4, zb]
       have ED4 : Ext m J nB2 HD4 := ⟨ED3.1, fun j hj => by rw [hHD4, za zom]; exact ED3.2 j hj⟩;have gD41 := (show HD4 m = HD3 m by rw [hHD4, za zom]).trans gD3;rw [← hHD4];clear hHD4;refine OpsL.nil ⟨ED4, ?_⟩;refine z0T ?_;exact ⟨rfl, _, _, _, m, nB1, rfl, ED4, kD4, gD41, gD4, stp, stp, stp, stp, stp⟩
      ·skip;refine OpsL.upd (zw (k := 4) (u := .agg (Go.Am.e4 p).toArray) evd evd zxr rfl (o := .cells (Go.Am.e4 p) 0 none false (some 45)) (zC (vs := Go.Am.e4 p) gB1 rfl rfl)) ?_;obtain ⟨HD5, hHD5⟩ : ∃ Q, Q = HB1.put m (.cells (Go.Am.e4 p) 0 none false (some 45)) := ⟨_, rfl⟩;have kD5 : ∀ id o, HD5 id = some o → id < nB1 := by rw [hHD5]; exact zU kB1 gB1
       have gD5 : HD5 m = some (.cells (Go.Am.e4 p) 0 none false (some 45)) := by rw [hHD5, zb]
       have ED5 : Ext m J nB1 HD5 := ⟨EB1.1, fun j hj => by rw [hHD5, za zom]; exact EB1.2 j hj⟩;rw [← hHD5];clear hHD5;refine OpsL.nil ⟨ED5, ?_⟩;refine zg5 ?_;refine OpsL.new zsd (zB (l := (rep 4 [.int .i64 0])) krf) ?_;obtain ⟨HB6, hHB6⟩ : ∃ Q, Q = HD5.put nB1 (.cells (rep 4 [.int .i64 0]) 0 none false (some 45)) := ⟨_, rfl⟩;obtain ⟨nB6, hnB6⟩ : ∃ q, q = nB1 + 1 := ⟨_, rfl⟩;have xB6 : Ext nB1 HD5 nB6 HB6 := by rw [hnB6, hHB6]; exact zh
       have kB6 : ∀ id o, HB6 id = some o → id < nB6 := by rw [hHB6, hnB6]; exact zF kD5
       have gB6 : HB6 nB1 = some (.cells (rep 4 [.int .i64 0]) 0 none false (some 45)) := by rw [hHB6, zb]
       have EB6 : Ext m J nB6 HB6 := ED5.trans xB6;rw [← hHB6, ← hnB6];clear hHB6;have gB61 := (xB6.2 m zom).trans gD5;have lB6 : m ≤ nB1 ∧ nB1 < nB6 := by have := EB6.1; omega
       refine OpsL.nil ⟨EB6, ?_⟩;refine zg5 ?_;refine OpsL.upd (zw (k := 4) (u := .agg (Go.Am.e4 q).toArray) evd evd zxr rfl (o := .cells (Go.Am.e4 q) 0 none false (some 45)) (zC (vs := Go.Am.e4 q) gB6 rfl rfl)) ?_;obtain ⟨HD7, hHD7⟩ : ∃ Q, Q = HB6.put nB1 (.cells (Go.Am.e4 q) 0 none false (some 45)) := ⟨_, rfl⟩;have kD7 : ∀ id o, HD7 id = some o → id < nB6 := by rw [hHD7]; exact zU kB6 gB6
       have gD7 : HD7 nB1 = some (.cells (Go.Am.e4 q) 0 none false (some 45)) := by rw [hHD7, zb]
       have ED7 : Ext m J nB6 HD7 := ⟨EB6.1, fun j hj => by rw [hHD7, za zom]; exact EB6.2 j hj⟩;have gD71 := (show HD7 m = HB6 m by rw [hHD7, za zom]).trans gB61;rw [← hHD7];clear hHD7;refine OpsL.nil ⟨ED7, ?_⟩;refine z0T ?_;exact ⟨rfl, _, _, _, m, nB1, rfl, ED7, kD7, gD71, gD7, stp, stp, stp, stp, stp⟩
     ·skip;refine OpsL.new zsd (zB (l := (rep 4 [.int .i64 0])) krf) ?_;obtain ⟨HB8, hHB8⟩ : ∃ Q, Q = J.put m (.cells (rep 4 [.int .i64 0]) 0 none false (some 45)) := ⟨_, rfl⟩;obtain ⟨nB8, hnB8⟩ : ∃ q, q = m + 1 := ⟨_, rfl⟩;have xB8 : Ext m J nB8 HB8 := by rw [hnB8, hHB8]; exact zh
      have kB8 : ∀ id o, HB8 id = some o → id < nB8 := by rw [hHB8, hnB8]; exact zF kJ
      have gB8 : HB8 m = some (.cells (rep 4 [.int .i64 0]) 0 none false (some 45)) := by rw [hHB8, zb]
      have EB8 : Ext m J nB8 HB8 := EJ.trans xB8;rw [← hHB8, ← hnB8];clear hHB8;have lB8 : m ≤ m ∧ m < nB8 := by have := EB8.1; omega
      refine OpsL.nil ⟨EB8, ?_⟩;refine zg5 ?_;refine OpsL.new zsd (zB (l := (rep 4 [.int .i64 0])) krf) ?_;obtain ⟨HB9, hHB9⟩ : ∃ Q, Q = HB8.put nB8 (.cells (rep 4 [.int .i64 0]) 0 none false (some 45)) := ⟨_, rfl⟩;obtain ⟨nB9, hnB9⟩ : ∃ q, q = nB8 + 1 := ⟨_, rfl⟩;have xB9 : Ext nB8 HB8 nB9 HB9 := by rw [hnB9, hHB9]; exact zh
      have kB9 : ∀ id o, HB9 id = some o → id < nB9 := by rw [hHB9, hnB9]; exact zF kB8
      have gB9 : HB9 nB8 = some (.cells (rep 4 [.int .i64 0]) 0 none false (some 45)) := by rw [hHB9, zb]
      have EB9 : Ext m J nB9 HB9 := EB8.trans xB9;rw [← hHB9, ← hnB9];clear hHB9;have gB92 := (xB9.2 m zom).trans gB8;have lB9 : m ≤ nB8 ∧ nB8 < nB9 := by have := EB9.1; omega
      refine OpsL.nil ⟨EB9, ?_⟩;refine zg5 ?_;refine OpsL.upd (zw (k := 4) (u := .agg (Go.Am.e4 p).toArray) evd evd zxr rfl (o := .cells (Go.Am.e4 p) 0 none false (some 45)) (zC (vs := Go.Am.e4 p) gB9 rfl rfl)) ?_;obtain ⟨HD10, hHD10⟩ : ∃ Q, Q = HB9.put nB8 (.cells (Go.Am.e4 p) 0 none false (some 45)) := ⟨_, rfl⟩;have kD10 : ∀ id o, HD10 id = some o → id < nB9 := by rw [hHD10]; exact zU kB9 gB9
      have gD10 : HD10 nB8 = some (.cells (Go.Am.e4 p) 0 none false (some 45)) := by rw [hHD10, zb]
      have ED10 : Ext m J nB9 HD10 := ⟨EB9.1, fun j hj => by rw [hHD10, za zom]; exact EB9.2 j hj⟩;have gD102 := (show HD10 m = HB9 m by rw [hHD10, za zom]).trans gB92;rw [← hHD10];clear hHD10;refine OpsL.nil ⟨ED10, ?_⟩;refine zg5 ?_;refine OpsL.upd (zw (k := 4) (u := .agg (Go.Am.e4 q).toArray) evd evd zxr rfl (o := .cells (Go.Am.e4 q) 0 none false (some 45)) (zC (vs := Go.Am.e4 q) gD102 rfl rfl)) ?_;obtain ⟨HD11, hHD11⟩ : ∃ Q, Q = HD10.put m (.cells (Go.Am.e4 q) 0 none false (some 45)) := ⟨_, rfl⟩;have kD11 : ∀ id o, HD11 id = some o → id < nB9 := by rw [hHD11]; exact zU kD10 gD102
      have gD11 : HD11 m = some (.cells (Go.Am.e4 q) 0 none false (some 45)) := by rw [hHD11, zb]
      have ED11 : Ext m J nB9 HD11 := ⟨ED10.1, fun j hj => by rw [hHD11, za zom]; exact ED10.2 j hj⟩;have gD111 := (show HD11 nB8 = HD10 nB8 by rw [hHD11, za zom]).trans gD10;rw [← hHD11];clear hHD11;refine OpsL.nil ⟨ED11, ?_⟩;refine z0T ?_;exact ⟨rfl, _, _, _, nB8, m, rfl, ED11, kD11, gD111, gD11, stp, stp, stp, stp, stp⟩
    clear e5 e4 ei cF;rintro e st ⟨rfl, tm9, m', J', P1, P2, rfl, x9, k9, g1, g2, e5, e4, ei, ep, eq⟩
    (change Trip _ _ _ _ _)
    have cp1 : zj J' ⟨P1, 0, none⟩ (.int .i64 p.1) := by exact ze g1 rfl
    have cq1 : zj J' ⟨P2, 0, none⟩ (.int .i64 q.1) := by exact ze g2 rfl
    have cp2 : zj J' ⟨P1, 0 + 1, none⟩ (.int .i64 p.2.1) := by rw [Nat.zero_add]; exact ze g1 rfl
    have cq2 : zj J' ⟨P2, 0 + 1, none⟩ (.int .i64 q.2.1) := by rw [Nat.zero_add]; exact ze g2 rfl
    have cp3 : zj J' ⟨P1, 0 + 2, none⟩ (.int .i64 p.2.2.1) := by rw [Nat.zero_add]; exact ze g1 rfl
    have cq3 : zj J' ⟨P2, 0 + 2, none⟩ (.int .i64 q.2.2.1) := by rw [Nat.zero_add]; exact ze g2 rfl
    refine zfW ?_
    repeat fail
    by_cases h1 : p.1 = q.1
    case neg =>
     refine z00 ?_ (c := h1);refine zez ?_;refine zg3 ?_;exact ⟨j + 1, ⟨_, _, _, rfl, xJ.trans x9, k9, AdjL.next hadj hlt (by rw [hp, hq]; exact fun h => h1 (by have h' := congrArg (fun x : R3 => x.1) h; exact h')), stp, stp, stp, zom⟩, zom⟩
    refine zZ ?_ (c := h1);refine zd7 ?_
    repeat fail
    by_cases h2 : p.2.1 = q.2.1
    case neg =>
     refine z00 ?_ (c := h2);refine zi3 ?_;refine zg3 ?_;exact ⟨j + 1, ⟨_, _, _, rfl, xJ.trans x9, k9, AdjL.next hadj hlt (by rw [hp, hq]; exact fun h => h2 (by have h' := congrArg (fun x : R3 => x.2.1) h; exact h')), stp, stp, stp, zom⟩, zom⟩
    refine zZ ?_ (c := h2);refine zfK ?_
    repeat fail
    by_cases h3 : p.2.2.1 = q.2.2.1
    case neg =>
     refine z00 ?_ (c := h3);refine zen ?_;refine zg3 ?_;exact ⟨j + 1, ⟨_, _, _, rfl, xJ.trans x9, k9, AdjL.next hadj hlt (by rw [hp, hq]; exact fun h => h3 (by have h' := congrArg (fun x : R3 => x.2.2) h; exact h')), stp, stp, stp, zom⟩, zom⟩
    refine zZ ?_ (c := h3);refine zen ?_;refine zcV ?_;exact .inr ⟨rfl, _, _, _, rfl, xJ.trans x9, stp, AdjL.no hlt (by rw [hp, hq]; unfold z3F; rw [h1, h2, h3])⟩
 clear e5 e4 xJ kJ;rintro e st (⟨rfl, tm3, J, m, rfl, xJ, kJ, e5, e4, a2⟩ | ⟨rfl, tm3, J, m, rfl, xJ, e4, hno⟩)
 rotate_left
 ·((repeat (refine z0s ?_)); dsimp only)
  exact ⟨.inr rfl, _, zx, by rw [decide_eq_false hno]; simp [*], hx2.trans xJ⟩
 refine z5g ?_;refine Trip.mono (Q := fun e st => (e = .exit 4 ∧ ∃ (tm' : Nat → Value) (J : Heap) (m : Nat), st = ⟨tm', n, J, m⟩ ∧ Ext (n1 + 1) G2 m J ∧ (∀ id o, J id = some o → id < m) ∧ tm' 5 = .pointer (some ⟨n1, 0, none⟩) ∧ tm' 4 = .bool false ∧ (z1h (b.inners.map z47)).length = b.inners.length) ∨ (e = .ret ∧ ∃ (tm' : Nat → Value) (J : Heap) (m : Nat), st = ⟨tm', n, J, m⟩ ∧ Ext (n1 + 1) G2 m J ∧ tm' 4 = .bool false ∧ ¬ (z1h (b.inners.map z47)).length = b.inners.length)) ?_ ?_
 ·refine zD (fun (j : Nat) st => ∃ (tm' : Nat → Value) (J : Heap) (m : Nat), st = ⟨tm', n, J, m⟩ ∧ Ext (n1 + 1) G2 m J ∧ (∀ id o, J id = some o → id < m) ∧ AdjL z47 b.inners (j + 1) ∧ tm' 5 = .pointer (some ⟨n1, 0, none⟩) ∧ tm' 4 = .bool false ∧ tm' 12 = .int .i64 ((j : Int) + 1) ∧ j ≤ b.inners.length) (fun j => b.inners.length - j) 0 ?_ ?_
  ·exact ⟨_, _, _, rfl, xJ, kJ, AdjL.zero _ _, stp, stp, stp, Nat.zero_le _⟩
  ·clear e5 e4 xJ kJ;rintro j st ⟨tm', J, m, rfl, xJ, kJ, hadj, e5, e4, ei, hj⟩;have cF : zj J ⟨n1, 0 + 6, none⟩ (.slice na b.inners.length nc) := by rw [Nat.zero_add]; exact ze (gX xJ) rfl
   by_cases hlt : j + 1 < b.inners.length
   case neg =>
    refine z4v ?_;exact .inl ⟨rfl, _, _, _, rfl, xJ, kJ, stp, stp, AdjL.all hadj zom⟩
   case pos =>
    have hl0 : j < b.inners.length := by omega
    have hc1 : ((j + 1 : Nat) : Int) = (j : Int) + 1 := by omega
    obtain ⟨pp, hpp, -⟩ := zS (aX xJ).inners hl0;subst hpp;obtain ⟨p, hp⟩ : ∃ p, b.inners[j] = p := ⟨_, rfl⟩;obtain ⟨q, hq⟩ : ∃ q, b.inners[j + 1] = q := ⟨_, rfl⟩;refine z9J ?_;refine z78 ?_;refine Trip.mono (Q := fun e st => e = .normal ∧ ∃ (tm' : Nat → Value) (m' : Nat) (J' : Heap) (P1 P2 : Nat), st = ⟨tm', n, J', m'⟩ ∧ Ext m J m' J' ∧ (∀ id o, J' id = some o → id < m') ∧ J' P1 = some (.cells (Go.Am.e3 p) 0 none false (some 51)) ∧ J' P2 = some (.cells (Go.Am.e3 q) 0 none false (some 51)) ∧ tm' 5 = .pointer (some ⟨n1, 0, none⟩) ∧ tm' 4 = .bool false ∧ tm' 12 = .int .i64 ((j : Int) + 1) ∧ tm' 13 = .pointer (some ⟨P1, 0, none⟩) ∧ tm' 14 = .pointer (some ⟨P2, 0, none⟩)) ?_ ?_
    ·have EJ : Ext m J m J := Ext.refl;refine OpsR.drawn [11, 12, 13, 14] (K := fun nn HH => Ext m J nn HH) z0V krf krf [0, 1, 2, 3, 4, 5, 6, 7, 8, 9, 10, 11, 12, 13, 14] krf EJ ?_;refine zg4 ?_;refine zA (v := .slice (some pp) b.inners.length nc) rfl krf zsd EJ (fun HH nn hK => zp evr zxr rfl (by rw [Nat.zero_add]; exact ze (gX (xJ.trans hK)) rfl)) ?_;refine z5U ?_;refine zd (v := .int .i64 (j : Int)) (by rw [show (.int .i64 (j : Int) : Value) = .int .i64 ((j : Int) + 1 - 1) by rw [Int.add_sub_cancel]]; exact z7C) ?_;refine OpsL.nil ?_;refine z3L ?_;refine zA (v := .agg (Go.Am.e3 p).toArray) rfl krf zsd EJ (fun HH nn hK => zg (k := 3) (vs := Go.Am.e3 p) evr zxr rfl zxr (by obtain ⟨p', hp', g'⟩ := zS (aX (xJ.trans hK)).inners hl0; cases hp'; rw [hp] at g'; exact g')) ?_;refine zg4 ?_;refine zA (v := .slice (some pp) b.inners.length nc) rfl krf zsd EJ (fun HH nn hK => zp evr zxr rfl (by rw [Nat.zero_add]; exact ze (gX (xJ.trans hK)) rfl)) ?_;refine z5U ?_;refine zek ?_;refine zA (v := .agg (Go.Am.e3 q).toArray) rfl krf zsd EJ (fun HH nn hK => zg (k := 3) (vs := Go.Am.e3 q) evr zxr rfl zxr (by obtain ⟨p', hp', g'⟩ := zS (aX (xJ.trans hK)).inners hlt; cases hp'; rw [hc1, hq] at g'; exact g')) ?_;refine zY krf (zt rfl rfl ?_) (zt rfl rfl ?_)
     ·skip;refine OpsL.new zsd (zB (l := (rep 3 [.int .i64 0])) krf) ?_;obtain ⟨HB1, hHB1⟩ : ∃ Q, Q = J.put m (.cells (rep 3 [.int .i64 0]) 0 none false (some 51)) := ⟨_, rfl⟩;obtain ⟨nB1, hnB1⟩ : ∃ q, q = m + 1 := ⟨_, rfl⟩;have xB1 : Ext m J nB1 HB1 := by rw [hnB1, hHB1]; exact zh
      have kB1 : ∀ id o, HB1 id = some o → id < nB1 := by rw [hHB1, hnB1]; exact zF kJ
      have gB1 : HB1 m = some (.cells (rep 3 [.int .i64 0]) 0 none false (some 51)) := by rw [hHB1, zb]
      have EB1 : Ext m J nB1 HB1 := EJ.trans xB1;rw [← hHB1, ← hnB1];clear hHB1;have lB1 : m ≤ m ∧ m < nB1 := by have := EB1.1; omega
      refine OpsL.nil ⟨EB1, ?_⟩;refine zY krf (zt rfl rfl ?_) (zt rfl rfl ?_)
      ·skip;refine OpsL.new zsd (zB (l := (rep 3 [.int .i64 0])) krf) ?_;obtain ⟨HB2, hHB2⟩ : ∃ Q, Q = HB1.put nB1 (.cells (rep 3 [.int .i64 0]) 0 none false (some 51)) := ⟨_, rfl⟩;obtain ⟨nB2, hnB2⟩ : ∃ q, q = nB1 + 1 := ⟨_, rfl⟩;have xB2 : Ext nB1 HB1 nB2 HB2 := by rw [hnB2, hHB2]; exact zh
       have kB2 : ∀ id o, HB2 id = some o → id < nB2 := by rw [hHB2, hnB2]; exact zF kB1
       have gB2 : HB2 nB1 = some (.cells (rep 3 [.int .i64 0]) 0 none false (some 51)) := by rw [hHB2, zb]
       have EB2 : Ext m J nB2 HB2 := EB1.trans xB2;rw [← hHB2, ← hnB2];clear hHB2;have gB21 := (xB2.2 m zom).trans gB1;have lB2 : m ≤ nB1 ∧ nB1 < nB2 := by have := EB2.1; omega
       refine OpsL.nil ⟨EB2, ?_⟩;refine zg5 ?_;refine OpsL.upd (zw (k := 3) (u := .agg (Go.Am.e3 p).toArray) evd evd zxr rfl (o := .cells (Go.Am.e3 p) 0 none false (some 51)) (zC (vs := Go.Am.e3 p) gB21 rfl rfl)) ?_;obtain ⟨HD3, hHD3⟩ : ∃ Q, Q = HB2.put m (.cells (Go.Am.e3 p) 0 none false (some 51)) := ⟨_, rfl⟩;have kD3 : ∀ id o, HD3 id = some o → id < nB2 := by rw [hHD3]; exact zU kB2 gB21
       have gD3 : HD3 m = some (.cells (Go.Am.e3 p) 0 none false (some 51)) := by rw [hHD3, zb]
       have ED3 : Ext m J nB2 HD3 := ⟨EB2.1, fun j hj => by rw [hHD3, za zom]; exact EB2.2 j hj⟩;have gD32 := (show HD3 nB1 = HB2 nB1 by rw [hHD3, za zom]).trans gB2;rw [← hHD3];clear hHD3;refine OpsL.nil ⟨ED3, ?_⟩;refine zg5 ?_;refine OpsL.upd (zw (k := 3) (u := .agg (Go.Am.e3 q).toArray) evd evd zxr rfl (o := .cells (Go.Am.e3 q) 0 none false (some 51)) (zC (vs := Go.Am.e3 q) gD32 rfl rfl)) ?_;obtain ⟨HD4, hHD4⟩ : ∃ Q, Q = HD3.put nB1 (.cells (Go.Am.e3 q) 0 none false (some 51)) := ⟨_, rfl⟩;have kD4 : ∀ id o, HD4 id = some o → id < nB2 := by rw [hHD4]; exact zU kD3 gD32
       have gD4 : HD4 nB1 = some (.cells (Go.Am.e3 q) 0 none false (some 51)) := by rw [hHD4, zb]
       have ED4 : Ext m J nB2 HD4 := ⟨ED3.1, fun j hj => by rw [hHD4, za zom]; exact ED3.2 j hj⟩;have gD41 := (show HD4 m = HD3 m by rw [hHD4, za zom]).trans gD3;rw [← hHD4];clear hHD4;refine OpsL.nil ⟨ED4, ?_⟩;refine z0T ?_;exact ⟨rfl, _, _, _, m, nB1, rfl, ED4, kD4, gD41, gD4, stp, stp, stp, stp, stp⟩
      ·skip;refine OpsL.upd (zw (k := 3) (u := .agg (Go.Am.e3 p).toArray) evd evd zxr rfl (o := .cells (Go.Am.e3 p) 0 none false (some 51)) (zC (vs := Go.Am.e3 p) gB1 rfl rfl)) ?_;obtain ⟨HD5, hHD5⟩ : ∃ Q, Q = HB1.put m (.cells (Go.Am.e3 p) 0 none false (some 51)) := ⟨_, rfl⟩;have kD5 : ∀ id o, HD5 id = some o → id < nB1 := by rw [hHD5]; exact zU kB1 gB1
       have gD5 : HD5 m = some (.cells (Go.Am.e3 p) 0 none false (some 51)) := by rw [hHD5, zb]
       have ED5 : Ext m J nB1 HD5 := ⟨EB1.1, fun j hj => by rw [hHD5, za zom]; exact EB1.2 j hj⟩;rw [← hHD5];clear hHD5;refine OpsL.nil ⟨ED5, ?_⟩;refine zg5 ?_;refine OpsL.new zsd (zB (l := (rep 3 [.int .i64 0])) krf) ?_;obtain ⟨HB6, hHB6⟩ : ∃ Q, Q = HD5.put nB1 (.cells (rep 3 [.int .i64 0]) 0 none false (some 51)) := ⟨_, rfl⟩;obtain ⟨nB6, hnB6⟩ : ∃ q, q = nB1 + 1 := ⟨_, rfl⟩;have xB6 : Ext nB1 HD5 nB6 HB6 := by rw [hnB6, hHB6]; exact zh
       have kB6 : ∀ id o, HB6 id = some o → id < nB6 := by rw [hHB6, hnB6]; exact zF kD5
       have gB6 : HB6 nB1 = some (.cells (rep 3 [.int .i64 0]) 0 none false (some 51)) := by rw [hHB6, zb]
       have EB6 : Ext m J nB6 HB6 := ED5.trans xB6;rw [← hHB6, ← hnB6];clear hHB6;have gB61 := (xB6.2 m zom).trans gD5;have lB6 : m ≤ nB1 ∧ nB1 < nB6 := by have := EB6.1; omega
       refine OpsL.nil ⟨EB6, ?_⟩;refine zg5 ?_;refine OpsL.upd (zw (k := 3) (u := .agg (Go.Am.e3 q).toArray) evd evd zxr rfl (o := .cells (Go.Am.e3 q) 0 none false (some 51)) (zC (vs := Go.Am.e3 q) gB6 rfl rfl)) ?_;obtain ⟨HD7, hHD7⟩ : ∃ Q, Q = HB6.put nB1 (.cells (Go.Am.e3 q) 0 none false (some 51)) := ⟨_, rfl⟩;have kD7 : ∀ id o, HD7 id = some o → id < nB6 := by rw [hHD7]; exact zU kB6 gB6
       have gD7 : HD7 nB1 = some (.cells (Go.Am.e3 q) 0 none false (some 51)) := by rw [hHD7, zb]
       have ED7 : Ext m J nB6 HD7 := ⟨EB6.1, fun j hj => by rw [hHD7, za zom]; exact EB6.2 j hj⟩;have gD71 := (show HD7 m = HB6 m by rw [hHD7, za zom]).trans gB61;rw [← hHD7];clear hHD7;refine OpsL.nil ⟨ED7, ?_⟩;refine z0T ?_;exact ⟨rfl, _, _, _, m, nB1, rfl, ED7, kD7, gD71, gD7, stp, stp, stp, stp, stp⟩
     ·skip;refine OpsL.new zsd (zB (l := (rep 3 [.int .i64 0])) krf) ?_;obtain ⟨HB8, hHB8⟩ : ∃ Q, Q = J.put m (.cells (rep 3 [.int .i64 0]) 0 none false (some 51)) := ⟨_, rfl⟩;obtain ⟨nB8, hnB8⟩ : ∃ q, q = m + 1 := ⟨_, rfl⟩;have xB8 : Ext m J nB8 HB8 := by rw [hnB8, hHB8]; exact zh
      have kB8 : ∀ id o, HB8 id = some o → id < nB8 := by rw [hHB8, hnB8]; exact zF kJ
      have gB8 : HB8 m = some (.cells (rep 3 [.int .i64 0]) 0 none false (some 51)) := by rw [hHB8, zb]
      have EB8 : Ext m J nB8 HB8 := EJ.trans xB8;rw [← hHB8, ← hnB8];clear hHB8;have lB8 : m ≤ m ∧ m < nB8 := by have := EB8.1; omega
      refine OpsL.nil ⟨EB8, ?_⟩;refine zg5 ?_;refine OpsL.new zsd (zB (l := (rep 3 [.int .i64 0])) krf) ?_;obtain ⟨HB9, hHB9⟩ : ∃ Q, Q = HB8.put nB8 (.cells (rep 3 [.int .i64 0]) 0 none false (some 51)) := ⟨_, rfl⟩;obtain ⟨nB9, hnB9⟩ : ∃ q, q = nB8 + 1 := ⟨_, rfl⟩;have xB9 : Ext nB8 HB8 nB9 HB9 := by rw [hnB9, hHB9]; exact zh
      have kB9 : ∀ id o, HB9 id = some o → id < nB9 := by rw [hHB9, hnB9]; exact zF kB8
      have gB9 : HB9 nB8 = some (.cells (rep 3 [.int .i64 0]) 0 none false (some 51)) := by rw [hHB9, zb]
      have EB9 : Ext m J nB9 HB9 := EB8.trans xB9;rw [← hHB9, ← hnB9];clear hHB9;have gB92 := (xB9.2 m zom).trans gB8;have lB9 : m ≤ nB8 ∧ nB8 < nB9 := by have := EB9.1; omega
      refine OpsL.nil ⟨EB9, ?_⟩;refine zg5 ?_;refine OpsL.upd (zw (k := 3) (u := .agg (Go.Am.e3 p).toArray) evd evd zxr rfl (o := .cells (Go.Am.e3 p) 0 none false (some 51)) (zC (vs := Go.Am.e3 p) gB9 rfl rfl)) ?_;obtain ⟨HD10, hHD10⟩ : ∃ Q, Q = HB9.put nB8 (.cells (Go.Am.e3 p) 0 none false (some 51)) := ⟨_, rfl⟩;have kD10 : ∀ id o, HD10 id = some o → id < nB9 := by rw [hHD10]; exact zU kB9 gB9
      have gD10 : HD10 nB8 = some (.cells (Go.Am.e3 p) 0 none false (some 51)) := by rw [hHD10, zb]
      have ED10 : Ext m J nB9 HD10 := ⟨EB9.1, fun j hj => by rw [hHD10, za zom]; exact EB9.2 j hj⟩;have gD102 := (show HD10 m = HB9 m by rw [hHD10, za zom]).trans gB92;rw [← hHD10];clear hHD10;refine OpsL.nil ⟨ED10, ?_⟩;refine zg5 ?_;refine OpsL.upd (zw (k := 3) (u := .agg (Go.Am.e3 q).toArray) evd evd zxr rfl (o := .cells (Go.Am.e3 q) 0 none false (some 51)) (zC (vs := Go.Am.e3 q) gD102 rfl rfl)) ?_;obtain ⟨HD11, hHD11⟩ : ∃ Q, Q = HD10.put m (.cells (Go.Am.e3 q) 0 none false (some 51)) := ⟨_, rfl⟩;have kD11 : ∀ id o, HD11 id = some o → id < nB9 := by rw [hHD11]; exact zU kD10 gD102
      have gD11 : HD11 m = some (.cells (Go.Am.e3 q) 0 none false (some 51)) := by rw [hHD11, zb]
      have ED11 : Ext m J nB9 HD11 := ⟨ED10.1, fun j hj => by rw [hHD11, za zom]; exact ED10.2 j hj⟩;have gD111 := (show HD11 nB8 = HD10 nB8 by rw [hHD11, za zom]).trans gD10;rw [← hHD11];clear hHD11;refine OpsL.nil ⟨ED11, ?_⟩;refine z0T ?_;exact ⟨rfl, _, _, _, nB8, m, rfl, ED11, kD11, gD111, gD11, stp, stp, stp, stp, stp⟩
    clear e5 e4 ei cF;rintro e st ⟨rfl, tm9, m', J', P1, P2, rfl, x9, k9, g1, g2, e5, e4, ei, ep, eq⟩
    (change Trip _ _ _ _ _)
    have cp1 : zj J' ⟨P1, 0, none⟩ (.int .i64 p.1) := by exact ze g1 rfl
    have cq1 : zj J' ⟨P2, 0, none⟩ (.int .i64 q.1) := by exact ze g2 rfl
    have cp2 : zj J' ⟨P1, 0 + 1, none⟩ (.int .i64 p.2.1) := by rw [Nat.zero_add]; exact ze g1 rfl
    have cq2 : zj J' ⟨P2, 0 + 1, none⟩ (.int .i64 q.2.1) := by rw [Nat.zero_add]; exact ze g2 rfl
    refine zfW ?_
    repeat fail
    by_cases h1 : p.1 = q.1
    case neg =>
     refine z00 ?_ (c := h1);refine zez ?_;refine zg3 ?_;exact ⟨j + 1, ⟨_, _, _, rfl, xJ.trans x9, k9, AdjL.next hadj hlt (by rw [hp, hq]; exact fun h => h1 (by have h' := congrArg (fun x : R3 => x.1) h; exact h')), stp, stp, stp, zom⟩, zom⟩
    refine zZ ?_ (c := h1);refine zd7 ?_
    repeat fail
    by_cases h2 : p.2.1 = q.2.1
    case neg =>
     refine z00 ?_ (c := h2);refine zen ?_;refine zg3 ?_;exact ⟨j + 1, ⟨_, _, _, rfl, xJ.trans x9, k9, AdjL.next hadj hlt (by rw [hp, hq]; exact fun h => h2 (by have h' := congrArg (fun x : R3 => x.2.1) h; exact h')), stp, stp, stp, zom⟩, zom⟩
    refine zZ ?_ (c := h2);refine zen ?_;refine zcV ?_;exact .inr ⟨rfl, _, _, _, rfl, xJ.trans x9, stp, AdjL.no hlt (by rw [hp, hq]; unfold z47; rw [h1, h2])⟩
 clear e5 e4 xJ kJ;rintro e st (⟨rfl, tm4, J, m, rfl, xJ, kJ, e5, e4, a3⟩ | ⟨rfl, tm4, J, m, rfl, xJ, e4, hno⟩)
 rotate_left
 ·((repeat (refine z0s ?_)); dsimp only)
  exact ⟨.inr rfl, _, zx, by rw [decide_eq_false hno]; simp [*], hx2.trans xJ⟩
 refine z5e ?_;refine zcL ?_;refine ⟨.inr rfl, _, zx, ?_, hx2.trans xJ⟩;rw [decide_eq_true a1, decide_eq_true a2, decide_eq_true a3];simp [zk]
end Go.Proofs.YteplpegfcpmflaaGreat
namespace Go.Proofs.YteplpegfcpmflaaGreat
open Go.RowKit Go.Am
attribute [local irreducible] aop OpsL Trip zI z2w OpsK OpsR
theorem z5H : Am.z0U Tryz.prog 13 := ⟨Tryz.f13, Tryz.func13, by kernel_rfl, by kernel_rfl⟩
def z46 {α : Type} (g : α → R3) (l : List α) (i : Nat) : Nat := (z1h ((l.take i).map g)).length
theorem z6o {α : Type} (g : α → R3) (l : List α) : z46 g l 0 = 0 := rfl
theorem z7X {α : Type} {g : α → R3} {l : List α} (h : 0 < l.length) : z46 g l (0 + 1) = z46 g l 0 + 1 := by
 unfold z46;rw [z49 _ (by simp; omega), List.length_map, List.length_take];simp [z1h];omega
theorem z6p {α : Type} {g : α → R3} {l : List α} {j : Nat} (h : j + 1 < l.length) : z46 g l (j + 1 + 1) = z46 g l (j + 1) + if g l[j] = g l[j + 1] then 0 else 1 := by
 unfold z46;have := z1x (l.map g) (m := j + 1) zom (by rw [List.length_map]; exact h);rw [List.map_take, this, List.map_take];simp only [Nat.add_sub_cancel, List.getElem_map];split
 ·rfl
 ·rw [List.length_append, List.length_singleton]
theorem za4 {α : Type} (g : α → R3) (l : List α) (i : Nat) : z46 g l i ≤ l.length := Nat.le_trans (z4S _) (by rw [List.length_map, List.length_take]; omega)
theorem z7Y {α : Type} (g : α → R3) (l : List α) : z46 g l l.length = (z1h (l.map g)).length := by unfold z46; rw [List.take_length]
theorem zdn (W0 : World) {nx : Nat} {H : Heap} {a : Aut} {lv vi vf vo vc vn : Value} {ss : List (ByteArray × Int)} (hl : SymsAt H lv ss) (hss : ss.length ≤ 1000) (hk : ∀ s ∈ ss, s.2 = 1 ∨ s.2 = 2 ∨ s.2 = 3) (ha : AutIn H a vi vf vo vc vn) (hn : AutLen a) (hG0 : 0 ≤ a.G) (hG1 : a.G ≤ 10000) (hN0 : 0 ≤ a.N) (hN1 : a.N ≤ 200) :
  ACalls Tryz.prog W0 13 [lv, .agg (zy a vi vf vo vc vn).toArray] nx H fun v nx' H' => v = .bool (z7F ss a) ∧ Ext nx H nx' H' := by
 obtain ⟨la, lc, rfl, hl⟩ := hl;refine zl (fn := Tryz.f13) (c := _) Tryz.func13 rfl (fun tm n hn0 htm => ?_);have e0 : tm 0 = .slice (some la) ss.length lc := htm 0;have e1 : tm 1 = .agg (zy a vi vf vo vc vn).toArray := htm 1;clear htm;replace hn0 : n = 211 := hn0;refine Trip.ok fun hok => ?_;replace hok : ∀ id o, H id = some o → id < nx := hok;refine z5L ?_;refine OpsL.new zsd (z0f evr) ?_;refine z8v ?_;refine OpsL.new zsd (zB (l := [.int .i64 0, .int .i64 0, .int .i64 0, .int .i64 0]) krf) ?_;obtain ⟨ia0, ic0, rfl⟩ := ha.init.slice;obtain ⟨fa0, fc0, rfl⟩ := ha.final.slice;obtain ⟨oa0, oc0, rfl⟩ := ha.opens.slice;obtain ⟨ca0, cc0, rfl⟩ := ha.closes.slice;obtain ⟨na0, nc0, rfl⟩ := ha.inners.slice;obtain ⟨G, hG⟩ : ∃ G, G = (H.put nx (.cells (Value.agg (zy a (.slice ia0 a.init.length ic0) (.slice fa0 a.final.length fc0) (.slice oa0 a.opens.length oc0) (.slice ca0 a.closes.length cc0) (.slice na0 a.inners.length nc0)).toArray).cells.toList 0 none false (some 30))).put (nx + 1) (.cells [.int .i64 0, .int .i64 0, .int .i64 0, .int .i64 0] 0 none false (some 62)) := ⟨_, rfl⟩;have x0 : Ext nx H (nx + 1 + 1) G := by rw [hG]; exact zh.trans zh
 have k0 : ∀ id o, G id = some o → id < nx + 1 + 1 := by rw [hG]; exact zF (zF hok)
 have gx : G nx = some (.cells (zy a (.slice ia0 a.init.length ic0) (.slice fa0 a.final.length fc0) (.slice oa0 a.opens.length oc0) (.slice ca0 a.closes.length cc0) (.slice na0 a.inners.length nc0)) 0 none false (some 30)) := by rw [hG, za zom, zb]; rfl
 have gy : G (nx + 1) = some (.cells [.int .i64 0, .int .i64 0, .int .i64 0, .int .i64 0] 0 none false (some 62)) := by rw [hG, zb]
 rw [← hG];clear hG e1;refine z7B ?_;refine Trip.mono (Q := fun e st => e = .exit 0 ∧ ∃ (tm' : Nat → Value) (J : Heap) (k1 k2 k3 : Nat), st = ⟨tm', n, J, nx + 1 + 1⟩ ∧ (∀ j, j ≠ nx + 1 → J j = G j) ∧ J (nx + 1) = some (.cells [.int .i64 0, .int .i64 (k1 : Int), .int .i64 (k2 : Int), .int .i64 (k3 : Int)] 0 none false (some 62)) ∧ z0N ss 1 = k1 ∧ z0N ss 2 = k2 ∧ z0N ss 3 = k3 ∧ tm' 3 = .pointer (some ⟨nx, 0, none⟩) ∧ tm' 5 = .pointer (some ⟨nx + 1, 0, none⟩)) ?_ ?_
 ·refine zD (fun (i : Nat) st => ∃ (tm' : Nat → Value) (J : Heap) (k1 k2 k3 : Nat), st = ⟨tm', n, J, nx + 1 + 1⟩ ∧ (∀ j, j ≠ nx + 1 → J j = G j) ∧ J (nx + 1) = some (.cells [.int .i64 0, .int .i64 (k1 : Int), .int .i64 (k2 : Int), .int .i64 (k3 : Int)] 0 none false (some 62)) ∧ z0N (ss.take i) 1 = k1 ∧ z0N (ss.take i) 2 = k2 ∧ z0N (ss.take i) 3 = k3 ∧ tm' 3 = .pointer (some ⟨nx, 0, none⟩) ∧ tm' 5 = .pointer (some ⟨nx + 1, 0, none⟩) ∧ tm' 0 = .slice (some la) ss.length lc ∧ tm' 6 = .int .i64 (i : Int) ∧ i ≤ ss.length) (fun i => ss.length - i) 0 ?_ ?_
  ·exact ⟨_, _, 0, 0, 0, rfl, fun _ _ => rfl, gy, rfl, rfl, rfl, stp, stp, stp, stp, Nat.zero_le _⟩
  ·clear e0 gy;rintro i st ⟨tm', J, k1, k2, k3, rfl, fr, gC, h1, h2, h3, e3, e5, e0, ei, hi⟩;by_cases hlt : i < ss.length
   case neg =>
    have hie : i = ss.length := by omega
    subst hie;rw [List.take_length] at h1 h2 h3;refine z5f ?_;refine zcM ?_;exact ⟨rfl, _, _, _, _, _, rfl, fr, gC, h1, h2, h3, stp, stp⟩
   case pos =>
    have xJ : Ext nx H nx J := ⟨Nat.le_refl _, fun j hj => (fr j zom).trans (x0.2 j hj)⟩;have hls := z1O xJ hok (hl i hlt);have b1 : k1 ≤ 1000 := by rw [← h1]; exact Nat.le_trans (List.length_filter_le _ _) (by rw [List.length_take]; omega)
    have b2 : k2 ≤ 1000 := by rw [← h2]; exact Nat.le_trans (List.length_filter_le _ _) (by rw [List.length_take]; omega)
    have b3 : k3 ≤ 1000 := by rw [← h3]; exact Nat.le_trans (List.length_filter_le _ _) (by rw [List.length_take]; omega)
    have t1 := z21 (k := 1) hlt;have t2 := z21 (k := 2) hlt;have t3 := z21 (k := 3) hlt;have hks := hk _ (List.getElem_mem hlt);generalize ss[i] = s at *;have hls' : zj J ⟨la.block, la.off + (i : Int).toNat * 2 + 1, la.spot⟩ (.int .i64 s.2) := zV (a := ⟨la.block, la.off + (i : Int).toNat * 2, la.spot⟩) (j := 1) (by simpa using hls) rfl;clear hls xJ;refine z5f ?_;refine zcW ?_
    repeat fail
    rcases hks with e | e | e
    ·rw [e] at hls';rw [if_pos e] at t1;rw [if_neg zom, Nat.add_zero] at t2;rw [if_neg zom, Nat.add_zero] at t3;have cK : zj J ⟨nx + 1, 0 + (1 : Int).toNat * 1, none⟩ (.int .i64 (k1 : Int)) := ze gC rfl
     repeat fail
     refine zd (zK (len := 4) evr evr zxr zxr (by decide) (by decide)) ?_
     repeat (refine zd (by first | exact old | exact z6P) ?_)
     refine zd (zK (len := 4) evr evr zxr zxr (by decide) (by decide)) ?_;refine OpsL.storeAt 1 (cs' := [.int .i64 0, .int .i64 ((k1 + 1 : Nat) : Int), .int .i64 (k2 : Int), .int .i64 (k3 : Int)]) evr evr zxr rfl rfl gC rfl (by simp) rfl ?_;refine zg8 ?_;exact ⟨i + 1, ⟨_, _, k1 + 1, k2, k3, rfl, fun j hj => (za hj).trans (fr j hj), zb, by simp only [t1, h1, Nat.add_zero], by simp only [t2, h2, Nat.add_zero], by simp only [t3, h3, Nat.add_zero], stp, stp, stp, stp, zom⟩, zom⟩
    ·rw [e] at hls';rw [if_pos e] at t2;rw [if_neg zom, Nat.add_zero] at t1;rw [if_neg zom, Nat.add_zero] at t3;have cK : zj J ⟨nx + 1, 0 + (2 : Int).toNat * 1, none⟩ (.int .i64 (k2 : Int)) := ze gC rfl
     repeat fail
     refine zd (zK (len := 4) evr evr zxr zxr (by decide) (by decide)) ?_
     repeat (refine zd (by first | exact old | exact z6P) ?_)
     refine zd (zK (len := 4) evr evr zxr zxr (by decide) (by decide)) ?_;refine OpsL.storeAt 2 (cs' := [.int .i64 0, .int .i64 (k1 : Int), .int .i64 ((k2 + 1 : Nat) : Int), .int .i64 (k3 : Int)]) evr evr zxr rfl rfl gC rfl (by simp) rfl ?_;refine zg8 ?_;exact ⟨i + 1, ⟨_, _, k1, k2 + 1, k3, rfl, fun j hj => (za hj).trans (fr j hj), zb, by simp only [t1, h1, Nat.add_zero], by simp only [t2, h2, Nat.add_zero], by simp only [t3, h3, Nat.add_zero], stp, stp, stp, stp, zom⟩, zom⟩
    ·rw [e] at hls';rw [if_pos e] at t3;rw [if_neg zom, Nat.add_zero] at t1;rw [if_neg zom, Nat.add_zero] at t2;have cK : zj J ⟨nx + 1, 0 + (3 : Int).toNat * 1, none⟩ (.int .i64 (k3 : Int)) := ze gC rfl
     repeat fail
     refine zd (zK (len := 4) evr evr zxr zxr (by decide) (by decide)) ?_
     repeat (refine zd (by first | exact old | exact z6P) ?_)
     refine zd (zK (len := 4) evr evr zxr zxr (by decide) (by decide)) ?_;refine OpsL.storeAt 3 (cs' := [.int .i64 0, .int .i64 (k1 : Int), .int .i64 (k2 : Int), .int .i64 ((k3 + 1 : Nat) : Int)]) evr evr zxr rfl rfl gC rfl (by simp) rfl ?_;refine zg8 ?_;exact ⟨i + 1, ⟨_, _, k1, k2, k3 + 1, rfl, fun j hj => (za hj).trans (fr j hj), zb, by simp only [t1, h1, Nat.add_zero], by simp only [t2, h2, Nat.add_zero], by simp only [t3, h3, Nat.add_zero], stp, stp, stp, stp, zom⟩, zom⟩
 clear e0 gy;rintro e st ⟨rfl, tm1, J, k1, k2, k3, rfl, fr, gC, h1, h2, h3, e3, e5⟩;refine z5e ?_;have b1 : k1 ≤ 1000 := by rw [← h1]; exact Nat.le_trans (List.length_filter_le _ _) hss
 have b2 : k2 ≤ 1000 := by rw [← h2]; exact Nat.le_trans (List.length_filter_le _ _) hss
 have b3 : k3 ≤ 1000 := by rw [← h3]; exact Nat.le_trans (List.length_filter_le _ _) hss
 have gJ := (fr nx zom).trans gx;have xJ : Ext nx H (nx + 1 + 1) J := ⟨zom, fun j hj => (fr j zom).trans (x0.2 j hj)⟩;refine Trip.ok fun kJ => ?_;replace kJ : ∀ id o, J id = some o → id < nx + 1 + 1 := kJ;refine zcR ?_;refine zd (zg (k := 7) (vs := (zy a (.slice ia0 a.init.length ic0) (.slice fa0 a.final.length fc0) (.slice oa0 a.opens.length oc0) (.slice ca0 a.closes.length cc0) (.slice na0 a.inners.length nc0))) evd zxr rfl zxr (zG gJ rfl)) ?_;refine z0c (hf := z4C) (hc := (zdc W0 (ha.ext xJ hok) hn).ok) (h := ?_);rintro v1 n1 H1 ⟨⟨l, vi, vf, vo, vc, vn, rfl, hO, x1⟩, kk1⟩;have hB := hO.in;have hlB := z5Y hn;have hsF : z7F ss a = (decide (0 < (zR a).init.length) && decide (((z1h ((zR a).opens.map z2S)).length : Int) = a.N * (z0N ss 1 : Int)) && decide (((z1h ((zR a).closes.map z3F)).length : Int) = a.N * (z0N ss 2 : Int) * (a.G + 1)) && decide (((z1h ((zR a).inners.map z47)).length : Int) = a.N * (z0N ss 3 : Int))) := rfl;rw [hsF, h1, h2, h3];clear hsF hO h1 h2 h3;have q1 := x1.1;have g1a := (x1.2 nx zom).trans gJ;have g1c := (x1.2 (nx + 1) zom).trans gC;generalize zR a = b at *;obtain ⟨ia, ic, rfl⟩ := hB.init.slice;obtain ⟨fa, fc, rfl⟩ := hB.final.slice;obtain ⟨oa, oc, rfl⟩ := hB.opens.slice;obtain ⟨ca, cc, rfl⟩ := hB.closes.slice;obtain ⟨na, nc, rfl⟩ := hB.inners.slice;have l1 := hlB.init;have l3 := hlB.opens;have l4 := hlB.closes;have l5 := hlB.inners;refine z22 (k := 7) (vs := (zy b (.slice ia b.init.length ic) (.slice fa b.final.length fc) (.slice oa b.opens.length oc) (.slice ca b.closes.length cc) (.slice na b.inners.length nc))) (zs := z0g) zsd krf evd zxr rfl rfl rfl kk1 fun G2 x2 k2' g2 => ?_;have hB2 := hB.ext x2 kk1;have hx2 : Ext nx H (n1 + 1) G2 := (xJ.trans x1).trans x2;have c2a : zj G2 ⟨nx, 0, none⟩ (.int .i64 a.N) := ze ((x2.2 nx zom).trans g1a) rfl;have c2g : zj G2 ⟨nx, 0 + 1, none⟩ (.int .i64 a.G) := by rw [Nat.zero_add]; exact ze ((x2.2 nx zom).trans g1a) rfl
 have cc1 : zj G2 ⟨nx + 1, 0 + (1 : Int).toNat * 1, none⟩ (.int .i64 (k1 : Int)) := ze ((x2.2 (nx + 1) zom).trans g1c) rfl;have cc2 : zj G2 ⟨nx + 1, 0 + (2 : Int).toNat * 1, none⟩ (.int .i64 (k2 : Int)) := ze ((x2.2 (nx + 1) zom).trans g1c) rfl;have cc3 : zj G2 ⟨nx + 1, 0 + (3 : Int).toNat * 1, none⟩ (.int .i64 (k3 : Int)) := ze ((x2.2 (nx + 1) zom).trans g1c) rfl;have cI : zj G2 ⟨n1, 0 + 2, none⟩ (.slice ia b.init.length ic) := by rw [Nat.zero_add]; exact ze g2 rfl
 have c4 : zj G2 ⟨n1, 0 + 4, none⟩ (.slice oa b.opens.length oc) := by rw [Nat.zero_add]; exact ze g2 rfl
 have c5 : zj G2 ⟨n1, 0 + 5, none⟩ (.slice ca b.closes.length cc) := by rw [Nat.zero_add]; exact ze g2 rfl
 have c6 : zj G2 ⟨n1, 0 + 6, none⟩ (.slice na b.inners.length nc) := by rw [Nat.zero_add]; exact ze g2 rfl
 clear g2 g1a g1c gC gJ gx hB x2 x1 kk1 fr hl kJ xJ k0 x0 ha;refine z7B ?_;refine Trip.mono (Q := fun e st => e = .exit 2 ∧ ∃ (tm' : Nat → Value), st = ⟨tm', n, G2, n1 + 1⟩ ∧ tm' 3 = .pointer (some ⟨nx, 0, none⟩) ∧ tm' 5 = .pointer (some ⟨nx + 1, 0, none⟩) ∧ tm' 7 = .pointer (some ⟨n1, 0, none⟩) ∧ tm' 9 = .int .i64 0 ∧ tm' 10 = .int .i64 0 ∧ tm' 8 = .int .i64 (z46 z2S b.opens b.opens.length : Int)) ?_ ?_
 ·refine zD (fun (i : Nat) st => ∃ (tm' : Nat → Value), st = ⟨tm', n, G2, n1 + 1⟩ ∧ tm' 3 = .pointer (some ⟨nx, 0, none⟩) ∧ tm' 5 = .pointer (some ⟨nx + 1, 0, none⟩) ∧ tm' 7 = .pointer (some ⟨n1, 0, none⟩) ∧ tm' 9 = .int .i64 0 ∧ tm' 10 = .int .i64 0 ∧ tm' 8 = .int .i64 (z46 z2S b.opens i : Int) ∧ tm' 11 = .int .i64 (i : Int) ∧ i ≤ b.opens.length) (fun i => b.opens.length - i) 0 ?_ ?_
  ·exact ⟨_, rfl, stp, stp, stp, stp, stp, by simp [zk, z6o, *], stp, Nat.zero_le _⟩
  ·clear e3 e5;rintro i st ⟨tm', rfl, e3, e5, e7, ea, eb, ec, ei, hi⟩;have hgl := za4 z2S b.opens i;by_cases hlt : i < b.opens.length
   case neg =>
    have hie : i = b.opens.length := by omega
    subst hie;refine z4v ?_;exact ⟨rfl, _, rfl, stp, stp, stp, stp, stp, stp⟩
   case pos =>
    refine z9J ?_;refine z78 ?_;refine Trip.mono (Q := fun e st => e = .normal ∧ ∃ (tm' : Nat → Value) (y : Bool), st = ⟨tm', n, G2, n1 + 1⟩ ∧ tm' 3 = .pointer (some ⟨nx, 0, none⟩) ∧ tm' 5 = .pointer (some ⟨nx + 1, 0, none⟩) ∧ tm' 7 = .pointer (some ⟨n1, 0, none⟩) ∧ tm' 9 = .int .i64 0 ∧ tm' 10 = .int .i64 0 ∧ tm' 8 = .int .i64 (z46 z2S b.opens i : Int) ∧ tm' 11 = .int .i64 (i : Int) ∧ tm' 71 = .bool y ∧ z46 z2S b.opens (i + 1) = z46 z2S b.opens i + if y then 1 else 0) ?_ ?_
    ·refine OpsR.drawn [] (K := fun _ _ => True) z0V krf krf [0, 1, 2, 3, 4, 5, 6, 7, 8, 9, 10, 11, 12, 13, 14, 15, 16, 17, 18, 19, 20, 21, 22, 23, 24, 25, 26, 27, 28, 29, 30, 31, 32, 33] krf trivial ?_;cases i with
     | zero =>
      refine zes ?_;refine zg1 ?_;refine zZ ?_ (c := rfl);refine OpsL.nil ?_;refine zcH ?_;refine zcH ?_;refine z0T ?_;exact ⟨rfl, _, true, rfl, stp, stp, stp, stp, stp, stp, stp, stp, by rw [z7X hlt]; rfl⟩
     | succ j =>
      have hl0 : j < b.opens.length := by omega
      have hgn := z6p (g := z2S) hlt;obtain ⟨pp, hpp, gp⟩ := zS hB2.opens hl0;subst hpp;obtain ⟨pp', hpp', gq⟩ := zS hB2.opens hlt;cases hpp';generalize b.opens[j] = p at *;generalize b.opens[j + 1] = q at *;have cp0 : zj G2 ⟨pp.block, pp.off + (j : Int).toNat * 4 + 0, pp.spot⟩ (.int .i64 p.1) := zV (j := 0) gp rfl;have cq0 : zj G2 ⟨pp.block, pp.off + ((j + 1 : Nat) : Int).toNat * 4 + 0, pp.spot⟩ (.int .i64 q.1) := zV (j := 0) gq rfl;have cp1 : zj G2 ⟨pp.block, pp.off + (j : Int).toNat * 4 + 1, pp.spot⟩ (.int .i64 p.2.1) := zV (j := 1) gp rfl;have cq1 : zj G2 ⟨pp.block, pp.off + ((j + 1 : Nat) : Int).toNat * 4 + 1, pp.spot⟩ (.int .i64 q.2.1) := zV (j := 1) gq rfl;clear gp gq;refine zfT ?_;refine zd (v := .int .i64 (j : Int)) (by rw [show (.int .i64 (j : Int) : Value) = .int .i64 (((j + 1 : Nat) : Int) - 1) by rw [show ((j + 1 : Nat) : Int) - 1 = (j : Int) by omega]]; exact z7C) ?_;refine z9U ?_;by_cases h0 : p.1 = q.1
      case neg =>
       refine z0z ?_ (c := h0);refine zaU ?_;refine zcH ?_;refine z0T ?_;exact ⟨rfl, _, true, rfl, stp, stp, stp, stp, stp, stp, stp, stp, by rw [hgn, if_neg (fun h => h0 (by have h' := congrArg (fun x : R3 => x.1) h; exact h'))]; rfl⟩
      refine z0A ?_ (c := h0);refine zaU ?_;refine zgT ?_;refine zd (v := .int .i64 (j : Int)) (by rw [show (.int .i64 (j : Int) : Value) = .int .i64 (((j + 1 : Nat) : Int) - 1) by rw [show ((j + 1 : Nat) : Int) - 1 = (j : Int) by omega]]; exact z7C) ?_;refine z9U ?_;by_cases h1 : p.2.1 = q.2.1
      case neg =>
       refine z0z ?_ (c := h1);refine zaU ?_;refine z0T ?_;exact ⟨rfl, _, true, rfl, stp, stp, stp, stp, stp, stp, stp, stp, by rw [hgn, if_neg (fun h => h1 (by have h' := congrArg (fun x : R3 => x.2.1) h; exact h'))]; rfl⟩
      refine z0A ?_ (c := h1);refine zaU ?_;refine z0T ?_;exact ⟨rfl, _, false, rfl, stp, stp, stp, stp, stp, stp, stp, stp, by rw [hgn, if_pos (by unfold z2S; rw [h0, h1])]; rfl⟩
    clear e3 e5 e7 ea eb ec ei;rintro e st ⟨rfl, tm9, y, rfl, e3, e5, e7, ea, eb, ec, ei, er, hgr⟩
    (change Trip _ _ _ _ _)
    cases y with
    | true =>
     repeat fail
     refine z0F ?_;refine zg8 ?_;exact ⟨i + 1, ⟨_, rfl, stp, stp, stp, stp, stp, by rw [hgr]; simp [zk, *], stp, zom⟩, zom⟩
    | false =>
     repeat fail
     refine zg3 ?_;exact ⟨i + 1, ⟨_, rfl, stp, stp, stp, stp, stp, by rw [hgr]; simp [zk, *], stp, zom⟩, zom⟩
 clear e3 e5;rintro e st ⟨rfl, tm2, rfl, e3, e5, e7, ea, eb, ec⟩;refine z5g ?_;refine Trip.mono (Q := fun e st => e = .exit 4 ∧ ∃ (tm' : Nat → Value), st = ⟨tm', n, G2, n1 + 1⟩ ∧ tm' 3 = .pointer (some ⟨nx, 0, none⟩) ∧ tm' 5 = .pointer (some ⟨nx + 1, 0, none⟩) ∧ tm' 7 = .pointer (some ⟨n1, 0, none⟩) ∧ tm' 8 = .int .i64 (z46 z2S b.opens b.opens.length : Int) ∧ tm' 10 = .int .i64 0 ∧ tm' 9 = .int .i64 (z46 z3F b.closes b.closes.length : Int)) ?_ ?_
 ·refine zD (fun (i : Nat) st => ∃ (tm' : Nat → Value), st = ⟨tm', n, G2, n1 + 1⟩ ∧ tm' 3 = .pointer (some ⟨nx, 0, none⟩) ∧ tm' 5 = .pointer (some ⟨nx + 1, 0, none⟩) ∧ tm' 7 = .pointer (some ⟨n1, 0, none⟩) ∧ tm' 8 = .int .i64 (z46 z2S b.opens b.opens.length : Int) ∧ tm' 10 = .int .i64 0 ∧ tm' 9 = .int .i64 (z46 z3F b.closes i : Int) ∧ tm' 12 = .int .i64 (i : Int) ∧ i ≤ b.closes.length) (fun i => b.closes.length - i) 0 ?_ ?_
  ·exact ⟨_, rfl, stp, stp, stp, stp, stp, by simp [zk, z6o, *], stp, Nat.zero_le _⟩
  ·clear e3 e5 e7 ea eb ec;rintro i st ⟨tm', rfl, e3, e5, e7, ea, eb, ec, ei, hi⟩;have hgl := za4 z3F b.closes i;by_cases hlt : i < b.closes.length
   case neg =>
    have hie : i = b.closes.length := by omega
    subst hie;refine z4v ?_;exact ⟨rfl, _, rfl, stp, stp, stp, stp, stp, stp⟩
   case pos =>
    refine z9J ?_;refine z78 ?_;refine Trip.mono (Q := fun e st => e = .normal ∧ ∃ (tm' : Nat → Value) (y : Bool), st = ⟨tm', n, G2, n1 + 1⟩ ∧ tm' 3 = .pointer (some ⟨nx, 0, none⟩) ∧ tm' 5 = .pointer (some ⟨nx + 1, 0, none⟩) ∧ tm' 7 = .pointer (some ⟨n1, 0, none⟩) ∧ tm' 8 = .int .i64 (z46 z2S b.opens b.opens.length : Int) ∧ tm' 10 = .int .i64 0 ∧ tm' 9 = .int .i64 (z46 z3F b.closes i : Int) ∧ tm' 12 = .int .i64 (i : Int) ∧ tm' 130 = .bool y ∧ z46 z3F b.closes (i + 1) = z46 z3F b.closes i + if y then 1 else 0) ?_ ?_
    ·refine OpsR.drawn [] (K := fun _ _ => True) z0V krf krf [0, 1, 2, 3, 4, 5, 6, 7, 8, 9, 10, 11, 12, 13, 14, 15, 16, 17, 18, 19, 20, 21, 22, 23, 24, 25, 26, 27, 28, 29, 30, 31, 32, 33, 34, 35, 36, 37, 38, 39, 40, 41, 42, 43, 44, 45, 46, 47, 48, 49] krf trivial ?_;cases i with
     | zero =>
      refine zes ?_;refine zg1 ?_;refine zZ ?_ (c := rfl);refine OpsL.nil ?_;refine zcH ?_;refine zcH ?_;refine zcH ?_;refine z0T ?_;exact ⟨rfl, _, true, rfl, stp, stp, stp, stp, stp, stp, stp, stp, by rw [z7X hlt]; rfl⟩
     | succ j =>
      have hl0 : j < b.closes.length := by omega
      have hgn := z6p (g := z3F) hlt;obtain ⟨pp, hpp, gp⟩ := zS hB2.closes hl0;subst hpp;obtain ⟨pp', hpp', gq⟩ := zS hB2.closes hlt;cases hpp';generalize b.closes[j] = p at *;generalize b.closes[j + 1] = q at *;have cp0 : zj G2 ⟨pp.block, pp.off + (j : Int).toNat * 4 + 0, pp.spot⟩ (.int .i64 p.1) := zV (j := 0) gp rfl;have cq0 : zj G2 ⟨pp.block, pp.off + ((j + 1 : Nat) : Int).toNat * 4 + 0, pp.spot⟩ (.int .i64 q.1) := zV (j := 0) gq rfl;have cp1 : zj G2 ⟨pp.block, pp.off + (j : Int).toNat * 4 + 1, pp.spot⟩ (.int .i64 p.2.1) := zV (j := 1) gp rfl;have cq1 : zj G2 ⟨pp.block, pp.off + ((j + 1 : Nat) : Int).toNat * 4 + 1, pp.spot⟩ (.int .i64 q.2.1) := zV (j := 1) gq rfl;have cp2 : zj G2 ⟨pp.block, pp.off + (j : Int).toNat * 4 + 2, pp.spot⟩ (.int .i64 p.2.2.1) := zV (j := 2) gp rfl;have cq2 : zj G2 ⟨pp.block, pp.off + ((j + 1 : Nat) : Int).toNat * 4 + 2, pp.spot⟩ (.int .i64 q.2.2.1) := zV (j := 2) gq rfl;clear gp gq;refine zfT ?_;refine zd (v := .int .i64 (j : Int)) (by rw [show (.int .i64 (j : Int) : Value) = .int .i64 (((j + 1 : Nat) : Int) - 1) by rw [show ((j + 1 : Nat) : Int) - 1 = (j : Int) by omega]]; exact z7C) ?_;refine z9U ?_;by_cases h0 : p.1 = q.1
      case neg =>
       refine z0z ?_ (c := h0);refine zaU ?_;refine zcH ?_;refine zcH ?_;refine z0T ?_;exact ⟨rfl, _, true, rfl, stp, stp, stp, stp, stp, stp, stp, stp, by rw [hgn, if_neg (fun h => h0 (by have h' := congrArg (fun x : R3 => x.1) h; exact h'))]; rfl⟩
      refine z0A ?_ (c := h0);refine zaU ?_;refine zgT ?_;refine zd (v := .int .i64 (j : Int)) (by rw [show (.int .i64 (j : Int) : Value) = .int .i64 (((j + 1 : Nat) : Int) - 1) by rw [show ((j + 1 : Nat) : Int) - 1 = (j : Int) by omega]]; exact z7C) ?_;refine z9U ?_;by_cases h1 : p.2.1 = q.2.1
      case neg =>
       refine z0z ?_ (c := h1);refine zaU ?_;refine zcH ?_;refine z0T ?_;exact ⟨rfl, _, true, rfl, stp, stp, stp, stp, stp, stp, stp, stp, by rw [hgn, if_neg (fun h => h1 (by have h' := congrArg (fun x : R3 => x.2.1) h; exact h'))]; rfl⟩
      refine z0A ?_ (c := h1);refine zaU ?_;refine zgT ?_;refine zd (v := .int .i64 (j : Int)) (by rw [show (.int .i64 (j : Int) : Value) = .int .i64 (((j + 1 : Nat) : Int) - 1) by rw [show ((j + 1 : Nat) : Int) - 1 = (j : Int) by omega]]; exact z7C) ?_;refine z9U ?_;by_cases h2 : p.2.2.1 = q.2.2.1
      case neg =>
       refine z0z ?_ (c := h2);refine zaU ?_;refine z0T ?_;exact ⟨rfl, _, true, rfl, stp, stp, stp, stp, stp, stp, stp, stp, by rw [hgn, if_neg (fun h => h2 (by have h' := congrArg (fun x : R3 => x.2.2) h; exact h'))]; rfl⟩
      refine z0A ?_ (c := h2);refine zaU ?_;refine z0T ?_;exact ⟨rfl, _, false, rfl, stp, stp, stp, stp, stp, stp, stp, stp, by rw [hgn, if_pos (by unfold z3F; rw [h0, h1, h2])]; rfl⟩
    clear e3 e5 e7 ea eb ec ei;rintro e st ⟨rfl, tm9, y, rfl, e3, e5, e7, ea, eb, ec, ei, er, hgr⟩
    (change Trip _ _ _ _ _)
    cases y with
    | true =>
     repeat fail
     refine z0F ?_;refine zg8 ?_;exact ⟨i + 1, ⟨_, rfl, stp, stp, stp, stp, stp, by rw [hgr]; simp [zk, *], stp, zom⟩, zom⟩
    | false =>
     repeat fail
     refine zg3 ?_;exact ⟨i + 1, ⟨_, rfl, stp, stp, stp, stp, stp, by rw [hgr]; simp [zk, *], stp, zom⟩, zom⟩
 clear e3 e5 e7 ea eb ec;rintro e st ⟨rfl, tm3, rfl, e3, e5, e7, ea, eb, ec⟩;refine z5g ?_;refine Trip.mono (Q := fun e st => e = .exit 6 ∧ ∃ (tm' : Nat → Value), st = ⟨tm', n, G2, n1 + 1⟩ ∧ tm' 3 = .pointer (some ⟨nx, 0, none⟩) ∧ tm' 5 = .pointer (some ⟨nx + 1, 0, none⟩) ∧ tm' 7 = .pointer (some ⟨n1, 0, none⟩) ∧ tm' 8 = .int .i64 (z46 z2S b.opens b.opens.length : Int) ∧ tm' 9 = .int .i64 (z46 z3F b.closes b.closes.length : Int) ∧ tm' 10 = .int .i64 (z46 z47 b.inners b.inners.length : Int)) ?_ ?_
 ·refine zD (fun (i : Nat) st => ∃ (tm' : Nat → Value), st = ⟨tm', n, G2, n1 + 1⟩ ∧ tm' 3 = .pointer (some ⟨nx, 0, none⟩) ∧ tm' 5 = .pointer (some ⟨nx + 1, 0, none⟩) ∧ tm' 7 = .pointer (some ⟨n1, 0, none⟩) ∧ tm' 8 = .int .i64 (z46 z2S b.opens b.opens.length : Int) ∧ tm' 9 = .int .i64 (z46 z3F b.closes b.closes.length : Int) ∧ tm' 10 = .int .i64 (z46 z47 b.inners i : Int) ∧ tm' 13 = .int .i64 (i : Int) ∧ i ≤ b.inners.length) (fun i => b.inners.length - i) 0 ?_ ?_
  ·exact ⟨_, rfl, stp, stp, stp, stp, stp, by simp [zk, z6o, *], stp, Nat.zero_le _⟩
  ·clear e3 e5 e7 ea eb ec;rintro i st ⟨tm', rfl, e3, e5, e7, ea, eb, ec, ei, hi⟩;have hgl := za4 z47 b.inners i;by_cases hlt : i < b.inners.length
   case neg =>
    have hie : i = b.inners.length := by omega
    subst hie;refine z4v ?_;exact ⟨rfl, _, rfl, stp, stp, stp, stp, stp, stp⟩
   case pos =>
    refine z9J ?_;refine z78 ?_;refine Trip.mono (Q := fun e st => e = .normal ∧ ∃ (tm' : Nat → Value) (y : Bool), st = ⟨tm', n, G2, n1 + 1⟩ ∧ tm' 3 = .pointer (some ⟨nx, 0, none⟩) ∧ tm' 5 = .pointer (some ⟨nx + 1, 0, none⟩) ∧ tm' 7 = .pointer (some ⟨n1, 0, none⟩) ∧ tm' 8 = .int .i64 (z46 z2S b.opens b.opens.length : Int) ∧ tm' 9 = .int .i64 (z46 z3F b.closes b.closes.length : Int) ∧ tm' 10 = .int .i64 (z46 z47 b.inners i : Int) ∧ tm' 13 = .int .i64 (i : Int) ∧ tm' 173 = .bool y ∧ z46 z47 b.inners (i + 1) = z46 z47 b.inners i + if y then 1 else 0) ?_ ?_
    ·refine OpsR.drawn [] (K := fun _ _ => True) z0V krf krf [0, 1, 2, 3, 4, 5, 6, 7, 8, 9, 10, 11, 12, 13, 14, 15, 16, 17, 18, 19, 20, 21, 22, 23, 24, 25, 26, 27, 28, 29, 30, 31, 32, 33] krf trivial ?_;cases i with
     | zero =>
      refine zes ?_;refine zg1 ?_;refine zZ ?_ (c := rfl);refine OpsL.nil ?_;refine zcH ?_;refine zcH ?_;refine z0T ?_;exact ⟨rfl, _, true, rfl, stp, stp, stp, stp, stp, stp, stp, stp, by rw [z7X hlt]; rfl⟩
     | succ j =>
      have hl0 : j < b.inners.length := by omega
      have hgn := z6p (g := z47) hlt;obtain ⟨pp, hpp, gp⟩ := zS hB2.inners hl0;subst hpp;obtain ⟨pp', hpp', gq⟩ := zS hB2.inners hlt;cases hpp';generalize b.inners[j] = p at *;generalize b.inners[j + 1] = q at *;have cp0 : zj G2 ⟨pp.block, pp.off + (j : Int).toNat * 3 + 0, pp.spot⟩ (.int .i64 p.1) := zV (j := 0) gp rfl;have cq0 : zj G2 ⟨pp.block, pp.off + ((j + 1 : Nat) : Int).toNat * 3 + 0, pp.spot⟩ (.int .i64 q.1) := zV (j := 0) gq rfl;have cp1 : zj G2 ⟨pp.block, pp.off + (j : Int).toNat * 3 + 1, pp.spot⟩ (.int .i64 p.2.1) := zV (j := 1) gp rfl;have cq1 : zj G2 ⟨pp.block, pp.off + ((j + 1 : Nat) : Int).toNat * 3 + 1, pp.spot⟩ (.int .i64 q.2.1) := zV (j := 1) gq rfl;clear gp gq;refine zfT ?_;refine zd (v := .int .i64 (j : Int)) (by rw [show (.int .i64 (j : Int) : Value) = .int .i64 (((j + 1 : Nat) : Int) - 1) by rw [show ((j + 1 : Nat) : Int) - 1 = (j : Int) by omega]]; exact z7C) ?_;refine z9U ?_;by_cases h0 : p.1 = q.1
      case neg =>
       refine z0z ?_ (c := h0);refine zaU ?_;refine zcH ?_;refine z0T ?_;exact ⟨rfl, _, true, rfl, stp, stp, stp, stp, stp, stp, stp, stp, by rw [hgn, if_neg (fun h => h0 (by have h' := congrArg (fun x : R3 => x.1) h; exact h'))]; rfl⟩
      refine z0A ?_ (c := h0);refine zaU ?_;refine zgT ?_;refine zd (v := .int .i64 (j : Int)) (by rw [show (.int .i64 (j : Int) : Value) = .int .i64 (((j + 1 : Nat) : Int) - 1) by rw [show ((j + 1 : Nat) : Int) - 1 = (j : Int) by omega]]; exact z7C) ?_;refine z9U ?_;by_cases h1 : p.2.1 = q.2.1
      case neg =>
       refine z0z ?_ (c := h1);refine zaU ?_;refine z0T ?_;exact ⟨rfl, _, true, rfl, stp, stp, stp, stp, stp, stp, stp, stp, by rw [hgn, if_neg (fun h => h1 (by have h' := congrArg (fun x : R3 => x.2.1) h; exact h'))]; rfl⟩
      refine z0A ?_ (c := h1);refine zaU ?_;refine z0T ?_;exact ⟨rfl, _, false, rfl, stp, stp, stp, stp, stp, stp, stp, stp, by rw [hgn, if_pos (by unfold z47; rw [h0, h1])]; rfl⟩
    clear e3 e5 e7 ea eb ec ei;rintro e st ⟨rfl, tm9, y, rfl, e3, e5, e7, ea, eb, ec, ei, er, hgr⟩
    (change Trip _ _ _ _ _)
    cases y with
    | true =>
     repeat fail
     refine z0F ?_;refine zg8 ?_;exact ⟨i + 1, ⟨_, rfl, stp, stp, stp, stp, stp, by rw [hgr]; simp [zk, *], stp, zom⟩, zom⟩
    | false =>
     repeat fail
     refine zg3 ?_;exact ⟨i + 1, ⟨_, rfl, stp, stp, stp, stp, stp, by rw [hgr]; simp [zk, *], stp, zom⟩, zom⟩
 clear e3 e5 e7 ea eb ec;rintro e st ⟨rfl, tm4, rfl, e3, e5, e7, ea, eb, ec⟩;refine z5e ?_;have e8 := ea;have e9 := eb;have e10 := ec;clear ea eb ec
 repeat (first | (refine zd (by first | exact ofa | exact old | exact z2i) ?_) | refine Trip.seq ?_ | refine zm ?_)
 have d1 : 0 ≤ a.N * (k1 : Int) ∧ a.N * (k1 : Int) ≤ 200 * 1000 := ⟨Int.mul_nonneg hN0 zom, Int.mul_le_mul hN1 zom zom zom⟩;have d2 : 0 ≤ a.N * (k2 : Int) ∧ a.N * (k2 : Int) ≤ 200 * 1000 := ⟨Int.mul_nonneg hN0 zom, Int.mul_le_mul hN1 zom zom zom⟩;have d3 : 0 ≤ a.N * (k3 : Int) ∧ a.N * (k3 : Int) ≤ 200 * 1000 := ⟨Int.mul_nonneg hN0 zom, Int.mul_le_mul hN1 zom zom zom⟩;have d4 : 0 ≤ a.N * (k2 : Int) * (a.G + 1) ∧ a.N * (k2 : Int) * (a.G + 1) ≤ 200 * 1000 * 10001 := ⟨Int.mul_nonneg d2.1 zom, Int.mul_le_mul d2.2 zom zom zom⟩;rw [z7Y] at e8;rw [z7Y] at e9;rw [z7Y] at e10;generalize (z1h (b.opens.map z2S)).length = o1 at *;generalize (z1h (b.closes.map z3F)).length = o2 at *;generalize (z1h (b.inners.map z47)).length = o3 at *
 repeat fail
 by_cases hi1 : 0 < b.init.length
 case neg =>
  refine z2e ?_
  repeat (first | (refine zd (by first | exact omv | exact z0E | exact z3i) ?_) | (refine Trip.ret ?_; (dsimp only)) | (refine OpsL.nil ?_; (change Trip _ _ _ _ _)) | refine zQ ?_)
  exact ⟨.inr rfl, _, zx, by rw [decide_eq_false hi1]; simp [zk, *], hx2⟩
 refine z2G ?_;rw [decide_eq_true hi1];refine zd7 ?_
 first | refine z0J zxr (by fail) ?_ | skip
 refine zd (zK (len := 4) evr evr zxr zxr (by decide) (by decide)) ?_
 repeat (first | refine zd (by exact old) ?_ | refine zz ?_)
 first | refine z0J zxr (by fail) ?_ | skip
 refine z1j (v := .int .i64 (a.N * (k1 : Int))) zsd (zgY) ?_;by_cases ho1 : (o1 : Int) = a.N * (k1 : Int)
 case neg =>
  refine zz ?_;refine z00 ?_ (c := ho1);refine zh1 ?_;exact ⟨.inr rfl, _, zx, by rw [decide_eq_false ho1]; simp [zk, *], hx2⟩
 refine zz ?_;refine zZ ?_ (c := ho1);rw [decide_eq_true ho1];refine zfK ?_
 first | refine z0J zxr (by fail) ?_ | skip
 refine zd (zK (len := 4) evr evr zxr zxr (by decide) (by decide)) ?_
 repeat (first | refine zd (by exact old) ?_ | refine zz ?_)
 first | refine z0J zxr (by fail) ?_ | skip
 refine z1j (v := .int .i64 (a.N * (k2 : Int))) zsd (zgY) ?_
 repeat (first | (refine zd (by first | exact ofa | exact old | exact z6P) ?_) | refine zz ?_)
 first | refine z0J zxr (by fail) ?_ | skip
 refine z1j (v := .int .i64 (a.N * (k2 : Int) * (a.G + 1))) zsd (zgY) ?_;by_cases ho2 : (o2 : Int) = a.N * (k2 : Int) * (a.G + 1)
 case neg =>
  refine zz ?_;refine z00 ?_ (c := ho2);refine zh1 ?_;exact ⟨.inr rfl, _, zx, by rw [decide_eq_false ho2]; simp [zk, *], hx2⟩
 refine zz ?_;refine zZ ?_ (c := ho2);rw [decide_eq_true ho2];refine zfK ?_
 first | refine z0J zxr (by fail) ?_ | skip
 refine zd (zK (len := 4) evr evr zxr zxr (by decide) (by decide)) ?_
 repeat (first | refine zd (by exact old) ?_ | refine zz ?_)
 first | refine z0J zxr (by fail) ?_ | skip
 refine z1j (v := .int .i64 (a.N * (k3 : Int))) zsd (zgY) ?_;by_cases ho3 : (o3 : Int) = a.N * (k3 : Int)
 case neg =>
  refine zz ?_;refine z00 ?_ (c := ho3)
  repeat (first | (refine zd (by first | exact z0E | exact z2R) ?_) | (refine Trip.ret ?_; (dsimp only)) | (refine OpsL.nil ?_; (change Trip _ _ _ _ _)))
  exact ⟨.inr rfl, _, zx, by rw [decide_eq_false ho3]; simp [zk, *], hx2⟩
 refine zz ?_;refine zZ ?_ (c := ho3);rw [decide_eq_true ho3]
 repeat (first | (refine zd (by first | exact z0E | exact z2R) ?_) | (refine Trip.ret ?_; (dsimp only)) | (refine OpsL.nil ?_; (change Trip _ _ _ _ _)))
 exact ⟨.inr rfl, _, zx, stp, hx2⟩
end Go.Proofs.YteplpegfcpmflaaGreat
