import Derived.MakeChecks
import Derived.ChangeArms
import Derived.OpenShut
import Derived.FnData
import Derived.Test.YteplpegfcpmflaaGreatQOM13
set_option linter.unusedSimpArgs false
set_option linter.unusedVariables false
set_option maxRecDepth 100000
set_option maxHeartbeats 64000000
namespace Go.Am
def z2s (a b : Aut) : Bool := decide (a.N = b.N ∧ a.G = b.G ∧ a.init = b.init ∧ a.final = b.final ∧ a.opens = b.opens ∧ a.closes = b.closes ∧ a.inners = b.inners)
theorem z4l (a : Aut) : z2s a a = true := by simp [z2s]
theorem z4F {α : Type} {l r : List α} {i : Nat} (h1 : i < l.length) (h2 : i < r.length) (ht : l.take i = r.take i) : l.take (i + 1) = r.take (i + 1) ↔ l[i] = r[i] := by
 rw [List.take_add_one, List.take_add_one, List.getElem?_eq_getElem h1, List.getElem?_eq_getElem h2, ht, Option.toList_some, Option.toList_some, List.append_cancel_left_eq];simp only [List.cons.injEq, and_true]
end Go.Am
namespace Go.Proofs.YteplpegfcpmflaaGreat
open Go.RowKit Go.Am
attribute [local irreducible] aop OpsL Trip zI z2r OpsK OpsR
theorem z6j : Am.z0O Tryz.prog 30 := ⟨Tryz.f30, Tryz.func30, by kernel_rfl, by kernel_rfl⟩
theorem z3t : Am.z0O Tryz.prog 14 := ⟨Tryz.f14, Tryz.func14, by kernel_rfl, by kernel_rfl⟩
theorem z8H (W0 : World) {nx : Nat} {H : Heap} {av bv : Value} {la lb : List Int} (ha : IntsAt H av la) (hb : IntsAt H bv lb) (hm : la.length ≤ 1000000) (hm2 : lb.length ≤ 1000000) :
  ACalls Tryz.prog W0 30 [av, bv] nx H fun v nx' H' => v = .bool (decide (la = lb)) ∧ nx' = nx ∧ H' = H := by
 obtain ⟨aa, ac, rfl⟩ := ha.slice;obtain ⟨ba, bc, rfl⟩ := hb.slice;refine zm (fn := Tryz.f30) (c := _) Tryz.func30 rfl (fun tm n hn0 htm => ?_);have e0 : tm 0 = .slice aa la.length ac := htm 0;have e1 : tm 1 = .slice ba lb.length bc := htm 1;clear htm;replace hn0 : n = 26 := hn0
 repeat (first | (refine zd (by first | exact omv | exact z1D | exact z0y) ?_) | refine Trip.seq ?_ | refine zk ?_ | (refine OpsL.nil ?_; (change Trip _ _ _ _ _)))
 by_cases hlen : la.length = lb.length
 ·refine z1p ?_;refine z8e ?_;refine zdM ?_;refine zu (fun (i : Nat) st => ∃ (tm : Nat → Value), st = ⟨tm, n, H, nx⟩ ∧ tm 0 = .slice aa la.length ac ∧ tm 1 = .slice ba lb.length bc ∧ tm 5 = .int .i64 i ∧ i ≤ la.length ∧ la.take i = lb.take i) (fun i => la.length - i) 0 ?_ ?_
  ·exact ⟨_, rfl, stp, stp, stp, zom, by simp⟩
  ·clear e0 e1;rintro i st ⟨tm, rfl, e0, e1, e5, hi, htk⟩;by_cases hlt : i < la.length
   ·obtain ⟨p, rfl, g1⟩ := z0g ha hlt;obtain ⟨q, rfl, g2⟩ := z0g hb (show i < lb.length by omega);have hlb : i < lb.length := by omega
    have hst := z4F hlt hlb htk;refine z4s ?_;refine z9r ?_;refine Trip.mono (Q := fun e st => e = .normal ∧ ∃ (tm' : Nat → Value), st = ⟨tm', n, H, nx⟩ ∧ tm' 0 = .slice (some p) la.length ac ∧ tm' 1 = .slice (some q) lb.length bc ∧ tm' 5 = .int .i64 i ∧ tm' 25 = .bool (decide (la[i] ≠ lb[i]))) ?_ ?_
    ·refine OpsK.drawn (K := fun _ _ => True) z0q krf krf trivial ?_;refine zeW ?_;refine z9v ?_;refine zeW ?_;refine z9v ?_;refine z2P ?_;refine zd (zhT) ?_;refine z5S ?_;exact ⟨rfl, _, rfl, stp, stp, stp, by simp [zl]⟩
    ·clear e0 e1 e5;rintro e st ⟨rfl, tm', rfl, e0, e1, e5, e25⟩
     (change Trip _ _ _ _ _)
     by_cases hab : la[i] = lb[i]
     ·rw [decide_eq_false (fun h => h hab)] at e25
      repeat fail
      refine zg4 ?_;exact ⟨i + 1, ⟨_, rfl, stp, stp, stp, zom, hst.2 hab⟩, zom⟩
     ·rw [decide_eq_true hab] at e25;have hne : la ≠ lb := fun h => hab (by subst h; rfl)
      repeat fail
      refine zdN ?_;exact ⟨.inr rfl, _, zy, by simp [zl, hne], rfl, rfl⟩
   ·have heq : la = lb := by
     rw [List.take_of_length_le zom, List.take_of_length_le zom] at htk;exact htk
    refine z4s ?_;refine z7a ?_;refine zhQ ?_;exact ⟨.inr rfl, _, zy, by simp [zl, heq], rfl, rfl⟩
 ·have hne : la ≠ lb := fun h => hlen (by rw [h]);refine z1o ?_;refine z9s ?_;refine zdX ?_;exact ⟨.inr rfl, _, zy, by simp [zl, hne], rfl, rfl⟩
theorem zaN (W0 : World) {nx : Nat} {H : Heap} {a b : Aut} {vi vf vo vc vn ui uf uo uc un : Value} (ha : AutIn H a vi vf vo vc vn) (hn : AutLen a) (hb : AutIn H b ui uf uo uc un) (hm : AutLen b) :
  ACalls Tryz.prog W0 14 [.agg (zz a vi vf vo vc vn).toArray, .agg (zz b ui uf uo uc un).toArray] nx H fun v nx' H' => v = .bool (z2s a b) ∧ Ext nx H nx' H' := by
 obtain ⟨ai, ci, rfl⟩ := ha.init.slice;obtain ⟨af, cf, rfl⟩ := ha.final.slice;obtain ⟨ao, co, rfl⟩ := ha.opens.slice;obtain ⟨ac, cc, rfl⟩ := ha.closes.slice;obtain ⟨an, cn, rfl⟩ := ha.inners.slice;obtain ⟨bi, di, rfl⟩ := hb.init.slice;obtain ⟨bf, df, rfl⟩ := hb.final.slice;obtain ⟨bo, dq, rfl⟩ := hb.opens.slice;obtain ⟨bc, dc, rfl⟩ := hb.closes.slice;obtain ⟨bn, dn, rfl⟩ := hb.inners.slice;refine zm (fn := Tryz.f14) (c := _) Tryz.func14 rfl (fun tm n hn0 htm => ?_);have e0 : tm 0 = .agg (zz a (.slice ai a.init.length ci) (.slice af a.final.length cf) (.slice ao a.opens.length co) (.slice ac a.closes.length cc) (.slice an a.inners.length cn)).toArray := htm 0;have e1 : tm 1 = .agg (zz b (.slice bi b.init.length di) (.slice bf b.final.length df) (.slice bo b.opens.length dq) (.slice bc b.closes.length dc) (.slice bn b.inners.length dn)).toArray := htm 1;clear htm;replace hn0 : n = 117 := hn0;refine Trip.ok fun hok => ?_;replace hok : ∀ id o, H id = some o → id < nx := hok;refine z5h ?_;refine OpsL.new zsd (z0a evr) ?_;refine OpsL.new zsd (z0a evr) ?_;obtain ⟨G, hG⟩ : ∃ G, G = (H.put nx (.cells (Value.agg (zz a (.slice ai a.init.length ci) (.slice af a.final.length cf) (.slice ao a.opens.length co) (.slice ac a.closes.length cc) (.slice an a.inners.length cn)).toArray).cells.toList 0 none false (some 30))).put (nx + 1) (.cells (Value.agg (zz b (.slice bi b.init.length di) (.slice bf b.final.length df) (.slice bo b.opens.length dq) (.slice bc b.closes.length dc) (.slice bn b.inners.length dn)).toArray).cells.toList 0 none false (some 30)) := ⟨_, rfl⟩;have hx0 : Ext nx H (nx + 1 + 1) G := by rw [hG]; exact zj.trans zj
 have gx : G nx = some (.cells (zz a (.slice ai a.init.length ci) (.slice af a.final.length cf) (.slice ao a.opens.length co) (.slice ac a.closes.length cc) (.slice an a.inners.length cn)) 0 none false (some 30)) := by rw [hG, za zom, zb]; rfl
 have gy : G (nx + 1) = some (.cells (zz b (.slice bi b.init.length di) (.slice bf b.final.length df) (.slice bo b.opens.length dq) (.slice bc b.closes.length dc) (.slice bn b.inners.length dn)) 0 none false (some 30)) := by rw [hG, zb]; rfl
 replace ha := ha.ext hx0 hok;replace hb := hb.ext hx0 hok;have hni := hn.init;have hnf := hn.final;have hno := hn.opens;have hnc := hn.closes;have hnn := hn.inners;have hmi := hm.init;have hmf := hm.final;have hmo := hm.opens;have hmc := hm.closes;have hmn := hm.inners;rw [← hG];clear hG e0 e1;have ca0 : zh G ⟨nx, 0, none⟩ (.int .i64 a.N) := by exact ze gx rfl
 have cb0 : zh G ⟨nx + 1, 0, none⟩ (.int .i64 b.N) := by exact ze gy rfl
 have ca1 : zh G ⟨nx, 0 + 1, none⟩ (.int .i64 a.G) := by rw [Nat.zero_add]; exact ze gx rfl
 have cb1 : zh G ⟨nx + 1, 0 + 1, none⟩ (.int .i64 b.G) := by rw [Nat.zero_add]; exact ze gy rfl
 have ca2 : zh G ⟨nx, 0 + 2, none⟩ (.slice ai a.init.length ci) := by rw [Nat.zero_add]; exact ze gx rfl
 have cb2 : zh G ⟨nx + 1, 0 + 2, none⟩ (.slice bi b.init.length di) := by rw [Nat.zero_add]; exact ze gy rfl
 have ca3 : zh G ⟨nx, 0 + 3, none⟩ (.slice af a.final.length cf) := by rw [Nat.zero_add]; exact ze gx rfl
 have cb3 : zh G ⟨nx + 1, 0 + 3, none⟩ (.slice bf b.final.length df) := by rw [Nat.zero_add]; exact ze gy rfl
 have ca4 : zh G ⟨nx, 0 + 4, none⟩ (.slice ao a.opens.length co) := by rw [Nat.zero_add]; exact ze gx rfl
 have cb4 : zh G ⟨nx + 1, 0 + 4, none⟩ (.slice bo b.opens.length dq) := by rw [Nat.zero_add]; exact ze gy rfl
 have ca5 : zh G ⟨nx, 0 + 5, none⟩ (.slice ac a.closes.length cc) := by rw [Nat.zero_add]; exact ze gx rfl
 have cb5 : zh G ⟨nx + 1, 0 + 5, none⟩ (.slice bc b.closes.length dc) := by rw [Nat.zero_add]; exact ze gy rfl
 have ca6 : zh G ⟨nx, 0 + 6, none⟩ (.slice an a.inners.length cn) := by rw [Nat.zero_add]; exact ze gx rfl
 have cb6 : zh G ⟨nx + 1, 0 + 6, none⟩ (.slice bn b.inners.length dn) := by rw [Nat.zero_add]; exact ze gy rfl
 clear gx gy
 repeat (first | (refine zd (by first | exact z0y | exact old | exact ofa) ?_) | refine Trip.seq ?_ | refine zk ?_ | (refine OpsL.nil ?_; (change Trip _ _ _ _ _)))
 by_cases h0 : a.N = b.N
 rotate_left
 ·refine z1o ?_ (c := h0);refine zfy ?_;refine zdX ?_;exact ⟨.inr rfl, _, zy, by simp [zl, z2s]; exact fun h => absurd h h0, hx0⟩
 refine z1p ?_ (c := h0)
 repeat (first | (refine zd (by first | exact omv | exact old | exact ofa) ?_) | refine zA ?_)
 by_cases h1 : a.G = b.G
 rotate_left
 ·refine z1o ?_ (c := h1);refine zhH ?_;refine zdX ?_;exact ⟨.inr rfl, _, zy, by simp [zl, z2s]; exact fun _ h => absurd h h1, hx0⟩
 refine z1p ?_ (c := h1)
 repeat (first | (refine zd (by first | exact omv | exact old | exact ofa | exact z2Y) ?_) | refine zA ?_)
 refine OpsL.c2 (hf := z6j) (hc := (z8H W0 ha.init hb.init zom zom)) (h := ?_);rintro v2 n2 H2 ⟨rfl, rfl, h2'⟩;have h2'' := h2'.symm;subst h2'';by_cases h2 : a.init = b.init
 rotate_left
 ·rw [decide_eq_false h2];refine zgF ?_;exact ⟨.inr rfl, _, zy, by simp [zl, z2s]; exact fun _ _ h => absurd h h2, hx0⟩
 rw [decide_eq_true h2]
 repeat (first | (refine zd (by first | exact omv | exact old | exact ofa | exact z2Y | exact z7e) ?_) | refine zA ?_)
 refine OpsL.c2 (hf := z6j) (hc := (z8H W0 ha.final hb.final zom zom)) (h := ?_);rintro v3 n3 H3 ⟨rfl, rfl, h3'⟩;have h3'' := h3'.symm;subst h3'';by_cases h3 : a.final = b.final
 rotate_left
 ·rw [decide_eq_false h3];refine zgF ?_;exact ⟨.inr rfl, _, zy, by simp [zl, z2s]; exact fun _ _ _ h => absurd h h3, hx0⟩
 rw [decide_eq_true h3]
 repeat (first | (refine zd (by first | exact omv | exact z1D | exact old | exact ofa | exact z2Y | exact z7e) ?_) | refine zA ?_)
 by_cases h4 : a.opens.length = b.opens.length
 rotate_left
 ·refine z1o ?_;refine zhH ?_;refine zdX ?_;exact ⟨.inr rfl, _, zy, by simp [zl, z2s]; exact fun _ _ _ _ h => absurd (congrArg List.length h) h4, hx0⟩
 refine z1p ?_
 repeat (first | (refine zd (by first | exact omv | exact z1D | exact old | exact ofa | exact z2Y) ?_) | refine zA ?_)
 by_cases h5 : a.closes.length = b.closes.length
 rotate_left
 ·refine z1o ?_;refine zhH ?_;refine zdX ?_;exact ⟨.inr rfl, _, zy, by simp [zl, z2s]; exact fun _ _ _ _ _ h => absurd (congrArg List.length h) h5, hx0⟩
 refine z1p ?_
 repeat (first | (refine zd (by first | exact omv | exact z1D | exact old | exact ofa | exact z2Y) ?_) | refine zA ?_)
 by_cases h6 : a.inners.length = b.inners.length
 rotate_left
 ·refine z1o ?_;refine zcx ?_;refine zdX ?_;exact ⟨.inr rfl, _, zy, by simp [zl, z2s]; exact fun _ _ _ _ _ _ h => absurd (congrArg List.length h) h6, hx0⟩
 refine z1p ?_;refine zcx ?_;refine z0h ?_;refine zdM ?_;refine Trip.mono (Q := fun e st => (e = .exit 0 ∧ ∃ (tm' : Nat → Value), st = ⟨tm', n, G, nx + 1 + 1⟩ ∧ tm' 2 = .pointer (some ⟨nx, 0, none⟩) ∧ tm' 3 = .pointer (some ⟨nx + 1, 0, none⟩) ∧ a.opens = b.opens) ∨ (e = .ret ∧ ∃ (tm' : Nat → Value), st = ⟨tm', n, G, nx + 1 + 1⟩ ∧ tm' 4 = .bool false ∧ a.opens ≠ b.opens)) ?_ ?_
 ·refine zu (fun (i : Nat) st => ∃ (tm' : Nat → Value), st = ⟨tm', n, G, nx + 1 + 1⟩ ∧ tm' 2 = .pointer (some ⟨nx, 0, none⟩) ∧ tm' 3 = .pointer (some ⟨nx + 1, 0, none⟩) ∧ tm' 5 = .int .i64 i ∧ i ≤ a.opens.length ∧ a.opens.take i = b.opens.take i) (fun i => a.opens.length - i) 0 ?_ ?_
  ·exact ⟨_, rfl, stp, stp, stp, zom, by simp⟩
  ·rintro i st ⟨tm, rfl, e2, e3, ei, hi, htk⟩;by_cases hlt : i < a.opens.length
   ·have hlb : i < b.opens.length := by omega
    obtain ⟨p, rfl, g1⟩ := zX ha.opens hlt;obtain ⟨q, rfl, g2⟩ := zX hb.opens hlb;have hst := z4F hlt hlb htk;refine zdL ?_;refine z9r ?_;refine Trip.mono (Q := fun e st => e = .normal ∧ ∃ (tm' : Nat → Value), st = ⟨tm', n, G, nx + 1 + 1⟩ ∧ tm' 2 = .pointer (some ⟨nx, 0, none⟩) ∧ tm' 3 = .pointer (some ⟨nx + 1, 0, none⟩) ∧ tm' 5 = .int .i64 i ∧ tm' 80 = .bool (!decide (a.opens[i] = b.opens[i]))) ?_ ?_
    ·refine OpsK.drawn (K := fun _ _ => True) z0q krf krf trivial ?_;refine zfi ?_;refine z2P ?_;refine zd (zg (k := 4) (vs := zS a.opens[i]) evr zxr rfl zxr g1) ?_;refine z3B ?_;refine zfi ?_;refine z2P ?_;refine zd (zg (k := 4) (vs := zS b.opens[i]) evr zxr rfl zxr g2) ?_;refine z88 ?_;refine zd (z3Q (r := decide (a.opens[i] = b.opens[i])) evd evd krf (eqO _ _ _ _ rfl)) ?_;refine z5S ?_;exact ⟨rfl, _, rfl, stp, stp, stp, by simp [zl]⟩
    ·clear e2 e3 ei;rintro e st ⟨rfl, tm', rfl, e2, e3, ei, ec⟩
     (change Trip _ _ _ _ _)
     by_cases hab : a.opens[i] = b.opens[i]
     ·rw [decide_eq_true hab] at ec
      repeat fail
      refine zg4 ?_;exact ⟨i + 1, ⟨_, rfl, stp, stp, stp, zom, hst.2 hab⟩, zom⟩
     ·rw [decide_eq_false hab] at ec;have hne : a.opens ≠ b.opens := fun h => hab (by simp only [h])
      repeat fail
      refine zdN ?_;exact .inr ⟨rfl, _, rfl, by simp [zl], hne⟩
   ·have heq : a.opens = b.opens := by
     rw [List.take_of_length_le zom, List.take_of_length_le zom] at htk;exact htk
    refine zdL ?_;refine z5y ?_;exact .inl ⟨rfl, _, rfl, stp, stp, heq⟩
 rintro e st (⟨rfl, tm', rfl, e2, e3, k0⟩ | ⟨rfl, tm', rfl, e4', hne⟩)
 rotate_left
 ·((repeat (refine z0W ?_)); dsimp only)
  refine ⟨.inr rfl, _, zy, ?_, hx0⟩;simp [e4', z2s, hne]
 refine z5x ?_;refine Trip.mono (Q := fun e st => (e = .exit 2 ∧ ∃ (tm' : Nat → Value), st = ⟨tm', n, G, nx + 1 + 1⟩ ∧ tm' 2 = .pointer (some ⟨nx, 0, none⟩) ∧ tm' 3 = .pointer (some ⟨nx + 1, 0, none⟩) ∧ a.closes = b.closes) ∨ (e = .ret ∧ ∃ (tm' : Nat → Value), st = ⟨tm', n, G, nx + 1 + 1⟩ ∧ tm' 4 = .bool false ∧ a.closes ≠ b.closes)) ?_ ?_
 ·refine zu (fun (i : Nat) st => ∃ (tm' : Nat → Value), st = ⟨tm', n, G, nx + 1 + 1⟩ ∧ tm' 2 = .pointer (some ⟨nx, 0, none⟩) ∧ tm' 3 = .pointer (some ⟨nx + 1, 0, none⟩) ∧ tm' 6 = .int .i64 i ∧ i ≤ a.closes.length ∧ a.closes.take i = b.closes.take i) (fun i => a.closes.length - i) 0 ?_ ?_
  ·exact ⟨_, rfl, stp, stp, stp, zom, by simp⟩
  ·clear e2 e3;rintro i st ⟨tm, rfl, e2, e3, ei, hi, htk⟩;by_cases hlt : i < a.closes.length
   ·have hlb : i < b.closes.length := by omega
    obtain ⟨p, rfl, g1⟩ := zX ha.closes hlt;obtain ⟨q, rfl, g2⟩ := zX hb.closes hlb;have hst := z4F hlt hlb htk;refine zdL ?_;refine z9r ?_;refine Trip.mono (Q := fun e st => e = .normal ∧ ∃ (tm' : Nat → Value), st = ⟨tm', n, G, nx + 1 + 1⟩ ∧ tm' 2 = .pointer (some ⟨nx, 0, none⟩) ∧ tm' 3 = .pointer (some ⟨nx + 1, 0, none⟩) ∧ tm' 6 = .int .i64 i ∧ tm' 98 = .bool (!decide (a.closes[i] = b.closes[i]))) ?_ ?_
    ·refine OpsK.drawn (K := fun _ _ => True) z0q krf krf trivial ?_;refine zfi ?_;refine z2P ?_;refine zd (zg (k := 4) (vs := zS a.closes[i]) evr zxr rfl zxr g1) ?_;refine z3B ?_;refine zfi ?_;refine z2P ?_;refine zd (zg (k := 4) (vs := zS b.closes[i]) evr zxr rfl zxr g2) ?_;refine z88 ?_;refine zd (z3Q (r := decide (a.closes[i] = b.closes[i])) evd evd krf (eqC _ _ _ _ rfl)) ?_;refine z5S ?_;exact ⟨rfl, _, rfl, stp, stp, stp, by simp [zl]⟩
    ·clear e2 e3 ei;rintro e st ⟨rfl, tm', rfl, e2, e3, ei, ec⟩
     (change Trip _ _ _ _ _)
     by_cases hab : a.closes[i] = b.closes[i]
     ·rw [decide_eq_true hab] at ec
      repeat fail
      refine zg4 ?_;exact ⟨i + 1, ⟨_, rfl, stp, stp, stp, zom, hst.2 hab⟩, zom⟩
     ·rw [decide_eq_false hab] at ec;have hne : a.closes ≠ b.closes := fun h => hab (by simp only [h])
      repeat fail
      refine zdN ?_;exact .inr ⟨rfl, _, rfl, by simp [zl], hne⟩
   ·have heq : a.closes = b.closes := by
     rw [List.take_of_length_le zom, List.take_of_length_le zom] at htk;exact htk
    refine zdL ?_;refine z5y ?_;exact .inl ⟨rfl, _, rfl, stp, stp, heq⟩
 rintro e st (⟨rfl, tm', rfl, e2, e3, k1⟩ | ⟨rfl, tm', rfl, e4', hne⟩)
 rotate_left
 ·((repeat (refine z0W ?_)); dsimp only)
  refine ⟨.inr rfl, _, zy, ?_, hx0⟩;simp [e4', z2s, hne]
 refine z5x ?_;refine Trip.mono (Q := fun e st => (e = .exit 4 ∧ ∃ (tm' : Nat → Value), st = ⟨tm', n, G, nx + 1 + 1⟩ ∧ tm' 2 = .pointer (some ⟨nx, 0, none⟩) ∧ tm' 3 = .pointer (some ⟨nx + 1, 0, none⟩) ∧ a.inners = b.inners) ∨ (e = .ret ∧ ∃ (tm' : Nat → Value), st = ⟨tm', n, G, nx + 1 + 1⟩ ∧ tm' 4 = .bool false ∧ a.inners ≠ b.inners)) ?_ ?_
 ·refine zu (fun (i : Nat) st => ∃ (tm' : Nat → Value), st = ⟨tm', n, G, nx + 1 + 1⟩ ∧ tm' 2 = .pointer (some ⟨nx, 0, none⟩) ∧ tm' 3 = .pointer (some ⟨nx + 1, 0, none⟩) ∧ tm' 7 = .int .i64 i ∧ i ≤ a.inners.length ∧ a.inners.take i = b.inners.take i) (fun i => a.inners.length - i) 0 ?_ ?_
  ·exact ⟨_, rfl, stp, stp, stp, zom, by simp⟩
  ·clear e2 e3;rintro i st ⟨tm, rfl, e2, e3, ei, hi, htk⟩;by_cases hlt : i < a.inners.length
   ·have hlb : i < b.inners.length := by omega
    obtain ⟨p, rfl, g1⟩ := zX ha.inners hlt;obtain ⟨q, rfl, g2⟩ := zX hb.inners hlb;have hst := z4F hlt hlb htk;refine zdL ?_;refine z9r ?_;refine Trip.mono (Q := fun e st => e = .normal ∧ ∃ (tm' : Nat → Value), st = ⟨tm', n, G, nx + 1 + 1⟩ ∧ tm' 2 = .pointer (some ⟨nx, 0, none⟩) ∧ tm' 3 = .pointer (some ⟨nx + 1, 0, none⟩) ∧ tm' 7 = .int .i64 i ∧ tm' 116 = .bool (!decide (a.inners[i] = b.inners[i]))) ?_ ?_
    ·refine OpsK.drawn (K := fun _ _ => True) z0q krf krf trivial ?_;refine zfi ?_;refine z2P ?_;refine zd (zg (k := 3) (vs := z0Y a.inners[i]) evr zxr rfl zxr g1) ?_;refine z3B ?_;refine zfi ?_;refine z2P ?_;refine zd (zg (k := 3) (vs := z0Y b.inners[i]) evr zxr rfl zxr g2) ?_;refine z88 ?_;refine zd (z3Q (r := decide (a.inners[i] = b.inners[i])) evd evd krf (eqN _ _ _ _ rfl)) ?_;refine z5S ?_;exact ⟨rfl, _, rfl, stp, stp, stp, by simp [zl]⟩
    ·clear e2 e3 ei;rintro e st ⟨rfl, tm', rfl, e2, e3, ei, ec⟩
     (change Trip _ _ _ _ _)
     by_cases hab : a.inners[i] = b.inners[i]
     ·rw [decide_eq_true hab] at ec
      repeat fail
      refine zg4 ?_;exact ⟨i + 1, ⟨_, rfl, stp, stp, stp, zom, hst.2 hab⟩, zom⟩
     ·rw [decide_eq_false hab] at ec;have hne : a.inners ≠ b.inners := fun h => hab (by simp only [h])
      repeat fail
      refine zdN ?_;exact .inr ⟨rfl, _, rfl, by simp [zl], hne⟩
   ·have heq : a.inners = b.inners := by
     rw [List.take_of_length_le zom, List.take_of_length_le zom] at htk;exact htk
    refine zdL ?_;refine z5y ?_;exact .inl ⟨rfl, _, rfl, stp, stp, heq⟩
 rintro e st (⟨rfl, tm', rfl, e2, e3, k2⟩ | ⟨rfl, tm', rfl, e4', hne⟩)
 rotate_left
 ·((repeat (refine z0W ?_)); dsimp only)
  refine ⟨.inr rfl, _, zy, ?_, hx0⟩;simp [e4', z2s, hne]
 refine z4r ?_
 repeat (first | refine zd (by exact z0y) ?_ | refine Trip.seq ?_ | refine zk ?_ | (refine Trip.ret ?_; (dsimp only)) | (refine OpsL.nil ?_; (change Trip _ _ _ _ _)))
 exact ⟨.inr rfl, _, zy, by simp [zl, z2s, *], hx0⟩
end Go.Proofs.YteplpegfcpmflaaGreat
namespace Go.Proofs.YteplpegfcpmflaaGreat
open Go.RowKit Go.Am
theorem z9U {a : Aut} {x : Int} (h : ReachT a (0, x)) : x ∈ a.init ∨ ∃ m ∈ z0b a, (∀ u ∈ z08 m, ReachT a u) ∧ m.2.2.1 = x := by
 generalize ht : ((0, x) : Thg) = t at h;cases h with
 | bot => cases ht
 | init hs => cases ht; exact .inl hs
 | step hm hn hg =>
  subst ht;refine .inr ⟨_, hm, hn, ?_⟩;simp only [z0t, List.mem_cons, List.not_mem_nil, or_false, Prod.mk.injEq] at hg;rcases hg with hg | hg
  ·exact hg.2.symm
  ·exact absurd hg.1 (by decide)
theorem zbF {a : Aut} {x : Int} (h : ReachT a (1, x)) : x = 0 ∨ ∃ m ∈ z0b a, (∀ u ∈ z08 m, ReachT a u) ∧ m.2.2.2 = x := by
 generalize ht : ((1, x) : Thg) = t at h;cases h with
 | bot => cases ht; exact .inl rfl
 | init hs => cases ht
 | step hm hn hg =>
  subst ht;refine .inr ⟨_, hm, hn, ?_⟩;simp only [z0t, List.mem_cons, List.not_mem_nil, or_false, Prod.mk.injEq] at hg;rcases hg with hg | hg
  ·exact absurd hg.1 (by decide)
  ·exact hg.2.symm
theorem zek : ∀ (l : List Int) (x : Int) (i p : Nat), z8b l x i = some p → x ∈ l ∧ i ≤ p ∧ p < i + l.length := by
 intro l
 induction l with
 | nil => intro x i p h; cases h
 | cons y l ih =>
  intro x i p h;by_cases e : x = y
  ·subst e;simp [z8b] at h;subst h;simp
  ·simp only [z8b, e, if_false] at h;obtain ⟨h1, h2, h3⟩ := ih x (i + 1) p h;exact ⟨by simp [h1], zom, by simp only [List.length_cons]; omega⟩
theorem zfW {L : List Int} {x y : Int} (h : z0T L x = some y) : x ∈ L ∧ 0 ≤ y ∧ y < L.length := by
 unfold z0T at h;cases hp : z8b L x 0 with
 | none => rw [hp] at h; cases h
 | some p =>
  rw [hp] at h;cases h;obtain ⟨h1, _, h3⟩ := zek L x 0 p hp;exact ⟨h1, by show (0 : Int) ≤ (p : Int); omega, by show (p : Int) < _; omega⟩
end Go.Proofs.YteplpegfcpmflaaGreat
namespace Go.Am
open Go.RowKit
section
variable {P : Program}
end
end Go.Am
namespace Go.Proofs.YteplpegfcpmflaaGreat
open Go.Am Go.RowKit
attribute [local irreducible] aop OpsL Trip zI z2r OpsK OpsR
variable {W0 : World} {ops : Array Oper} {type : TypeId} {pos : String} {after : Array Edge} {os : List Oper} {tm : Nat → Value} {n : Nat} {d : Tmp} {QQ : ASt → Prop}
theorem bsO {x : Operand} {r : R4} {H : Heap} {nx : Nat} (hd : d < n) (hx : ASt.ev ⟨tm, n, H, nx⟩ x = some (.agg (e4 r).toArray))
  (hc : ∀ G, Ext nx H (nx + 1) G → RowsAt e4 4 G (.slice (some ⟨nx, 0, none⟩) 1 1) [r] → OpsL Tryz.prog W0 ops os ⟨zl tm (some d) (.slice (some ⟨nx, 0, none⟩) 1 1), n, G, nx + 1⟩ QQ) :
  OpsL Tryz.prog W0 ops (⟨some d, .buildSlice 26 1 #[(0, x)], type, pos, after, none⟩ :: os) ⟨tm, n, H, nx⟩ QQ := by
 refine OpsL.new hd (zq (l := [(0, .agg (e4 r).toArray)]) (r := (.slice (some ⟨nx, 0, none⟩) 1 1, .new (.cells (e4 r) 4 none false (some 43)))) (by simp [z0i, hx]) krf) ?_;refine hc _ zj (.inr ⟨⟨nx, 0, none⟩, 1, rfl, fun j hj => ?_⟩);have : j = 0 := by simpa using hj
 subst this;exact z01 (by show 0 + 4 ≤ 4; decide)
theorem ziW {x y : Operand} {r : R4} {H G : Heap} {base A nx : Nat} {a : Aut} {l : List (Option (Nat × Nat))} {vi vf vo vc vn : Value} (hm : MkIn H base A nx a l vi vf vo vc vn) (hl : a.opens.length ≤ 1000) (x4 : Ext nx H (nx + 1) G) (hone : RowsAt e4 4 G (.slice (some ⟨nx, 0, none⟩) 1 1) [r])
  (hd : d < n) (hx : ASt.ev ⟨tm, n, G, nx + 1⟩ x = some vo) (hy : ASt.ev ⟨tm, n, G, nx + 1⟩ y = some (.slice (some ⟨nx, 0, none⟩) 1 1))
  (hc : ∀ (v' : Value) (nx5 : Nat) (H5 : Heap) (l5 : List (Option (Nat × Nat))), H5 A = some (.cells (zz a vi vf vo vc vn) 0 none false (some 30)) →
   MkIn (H5.put A (.cells (zz (zdP a r) vi vf v' vc vn) 0 none false (some 30))) base A nx5 (zdP a r) l5 vi vf v' vc vn → (∀ i, i < base → i ≠ A → H5 i = H i) → nx ≤ nx5 → v'.cells = #[v'] → v'.oneCell' = true → OpsL Tryz.prog W0 ops os ⟨zl tm (some d) v', n, H5, nx5⟩ QQ) :
  OpsL Tryz.prog W0 ops (⟨some d, .call ⟨.builtin .append, #[x, y], #[26, 26]⟩, type, pos, after, none⟩ :: os) ⟨tm, n, G, nx + 1⟩ QQ := by
 obtain ⟨ob, hj, hown⟩ := hm.opens;have hA := hm.hA;have hB := hm.hb;have hbl : ∀ b t, ob = some (b, t) → base ≤ b ∧ b ≠ A ∧ b < nx := fun b t hb => hm.sep.1 2 b t (by rw [hj, hb]);refine zO (bytes := 32) (z := rep 4 [.int .i64 0]) z0X z5m zom hd (hown.ext x4 (fun b t h => (hbl b t h).2.2)) hone hx hy (fun b t h => by have := (hbl b t h).2.2; omega) zxr zxr zxr zxr zxr rfl (by simp; omega) zom ?_;intro v' nx5 H5 ob5 hA5
 obtain ⟨b5, t5, hob5⟩ : ∃ b t, ob5 = some (b, t) := by
  cases ob5 with
  | none => exfalso; have := hA5.own.2.2; simp at this
  | some x => exact ⟨x.1, x.2, rfl⟩
 subst hob5;have hle5 := hA5.le;have hsame : ∀ i, i < nx → (∀ b t, ob = some (b, t) → i ≠ b) → H5 i = H i := fun i hi hb => by rw [hA5.same i zom hb, x4.2 i hi]
 obtain ⟨k1, k2⟩ := hA5.blk b5 t5 rfl;have hm2 := hm.putO (p := r) (nx1 := nx5) hj hA5.own (by rcases k2 with k2 | k2; exact .inl zom; exact .inr k2) k1 zom hsame;refine hc v' nx5 H5 _ ((hsame A hA (fun b t hb e => (hbl b t hb).2.1 e.symm)).trans hm.cell) hm2 (fun i hi hi2 => hsame i zom (fun b t hb => by have := hbl b t hb; omega)) zom (by rw [hA5.own.1]; rfl) (by rw [hA5.own.1]; rfl)
theorem bsC {x : Operand} {r : R4} {H : Heap} {nx : Nat} (hd : d < n) (hx : ASt.ev ⟨tm, n, H, nx⟩ x = some (.agg (e4 r).toArray))
  (hc : ∀ G, Ext nx H (nx + 1) G → RowsAt e4 4 G (.slice (some ⟨nx, 0, none⟩) 1 1) [r] → OpsL Tryz.prog W0 ops os ⟨zl tm (some d) (.slice (some ⟨nx, 0, none⟩) 1 1), n, G, nx + 1⟩ QQ) :
  OpsL Tryz.prog W0 ops (⟨some d, .buildSlice 27 1 #[(0, x)], type, pos, after, none⟩ :: os) ⟨tm, n, H, nx⟩ QQ := by
 refine OpsL.new hd (zq (l := [(0, .agg (e4 r).toArray)]) (r := (.slice (some ⟨nx, 0, none⟩) 1 1, .new (.cells (e4 r) 4 none false (some 45)))) (by simp [z0i, hx]) krf) ?_;refine hc _ zj (.inr ⟨⟨nx, 0, none⟩, 1, rfl, fun j hj => ?_⟩);have : j = 0 := by simpa using hj
 subst this;exact z01 (by show 0 + 4 ≤ 4; decide)
theorem ziX {x y : Operand} {r : R4} {H G : Heap} {base A nx : Nat} {a : Aut} {l : List (Option (Nat × Nat))} {vi vf vo vc vn : Value} (hm : MkIn H base A nx a l vi vf vo vc vn) (hl : a.closes.length ≤ 1000) (x4 : Ext nx H (nx + 1) G) (hone : RowsAt e4 4 G (.slice (some ⟨nx, 0, none⟩) 1 1) [r])
  (hd : d < n) (hx : ASt.ev ⟨tm, n, G, nx + 1⟩ x = some vc) (hy : ASt.ev ⟨tm, n, G, nx + 1⟩ y = some (.slice (some ⟨nx, 0, none⟩) 1 1))
  (hc : ∀ (v' : Value) (nx5 : Nat) (H5 : Heap) (l5 : List (Option (Nat × Nat))), H5 A = some (.cells (zz a vi vf vo vc vn) 0 none false (some 30)) →
   MkIn (H5.put A (.cells (zz (zdQ a r) vi vf vo v' vn) 0 none false (some 30))) base A nx5 (zdQ a r) l5 vi vf vo v' vn → (∀ i, i < base → i ≠ A → H5 i = H i) → nx ≤ nx5 → v'.cells = #[v'] → v'.oneCell' = true → OpsL Tryz.prog W0 ops os ⟨zl tm (some d) v', n, H5, nx5⟩ QQ) :
  OpsL Tryz.prog W0 ops (⟨some d, .call ⟨.builtin .append, #[x, y], #[27, 27]⟩, type, pos, after, none⟩ :: os) ⟨tm, n, G, nx + 1⟩ QQ := by
 obtain ⟨ob, hj, hown⟩ := hm.closes;have hA := hm.hA;have hB := hm.hb;have hbl : ∀ b t, ob = some (b, t) → base ≤ b ∧ b ≠ A ∧ b < nx := fun b t hb => hm.sep.1 3 b t (by rw [hj, hb]);refine zO (bytes := 32) (z := rep 4 [.int .i64 0]) z0X z5m zom hd (hown.ext x4 (fun b t h => (hbl b t h).2.2)) hone hx hy (fun b t h => by have := (hbl b t h).2.2; omega) zxr zxr zxr zxr zxr rfl (by simp; omega) zom ?_;intro v' nx5 H5 ob5 hA5
 obtain ⟨b5, t5, hob5⟩ : ∃ b t, ob5 = some (b, t) := by
  cases ob5 with
  | none => exfalso; have := hA5.own.2.2; simp at this
  | some x => exact ⟨x.1, x.2, rfl⟩
 subst hob5;have hle5 := hA5.le;have hsame : ∀ i, i < nx → (∀ b t, ob = some (b, t) → i ≠ b) → H5 i = H i := fun i hi hb => by rw [hA5.same i zom hb, x4.2 i hi]
 obtain ⟨k1, k2⟩ := hA5.blk b5 t5 rfl;have hm2 := hm.putC (p := r) (nx1 := nx5) hj hA5.own (by rcases k2 with k2 | k2; exact .inl zom; exact .inr k2) k1 zom hsame;refine hc v' nx5 H5 _ ((hsame A hA (fun b t hb e => (hbl b t hb).2.1 e.symm)).trans hm.cell) hm2 (fun i hi hi2 => hsame i zom (fun b t hb => by have := hbl b t hb; omega)) zom (by rw [hA5.own.1]; rfl) (by rw [hA5.own.1]; rfl)
theorem bsN {x : Operand} {r : R3} {H : Heap} {nx : Nat} (hd : d < n) (hx : ASt.ev ⟨tm, n, H, nx⟩ x = some (.agg (e3 r).toArray))
  (hc : ∀ G, Ext nx H (nx + 1) G → RowsAt e3 3 G (.slice (some ⟨nx, 0, none⟩) 1 1) [r] → OpsL Tryz.prog W0 ops os ⟨zl tm (some d) (.slice (some ⟨nx, 0, none⟩) 1 1), n, G, nx + 1⟩ QQ) :
  OpsL Tryz.prog W0 ops (⟨some d, .buildSlice 28 1 #[(0, x)], type, pos, after, none⟩ :: os) ⟨tm, n, H, nx⟩ QQ := by
 refine OpsL.new hd (zq (l := [(0, .agg (e3 r).toArray)]) (r := (.slice (some ⟨nx, 0, none⟩) 1 1, .new (.cells (e3 r) 3 none false (some 51)))) (by simp [z0i, hx]) krf) ?_;refine hc _ zj (.inr ⟨⟨nx, 0, none⟩, 1, rfl, fun j hj => ?_⟩);have : j = 0 := by simpa using hj
 subst this;exact z01 (by show 0 + 3 ≤ 3; decide)
theorem zj7 {x y : Operand} {r : R3} {H G : Heap} {base A nx : Nat} {a : Aut} {l : List (Option (Nat × Nat))} {vi vf vo vc vn : Value} (hm : MkIn H base A nx a l vi vf vo vc vn) (hl : a.inners.length ≤ 1000) (x4 : Ext nx H (nx + 1) G) (hone : RowsAt e3 3 G (.slice (some ⟨nx, 0, none⟩) 1 1) [r])
  (hd : d < n) (hx : ASt.ev ⟨tm, n, G, nx + 1⟩ x = some vn) (hy : ASt.ev ⟨tm, n, G, nx + 1⟩ y = some (.slice (some ⟨nx, 0, none⟩) 1 1))
  (hc : ∀ (v' : Value) (nx5 : Nat) (H5 : Heap) (l5 : List (Option (Nat × Nat))), H5 A = some (.cells (zz a vi vf vo vc vn) 0 none false (some 30)) →
   MkIn (H5.put A (.cells (zz (zdY a r) vi vf vo vc v') 0 none false (some 30))) base A nx5 (zdY a r) l5 vi vf vo vc v' → (∀ i, i < base → i ≠ A → H5 i = H i) → nx ≤ nx5 → v'.cells = #[v'] → v'.oneCell' = true → OpsL Tryz.prog W0 ops os ⟨zl tm (some d) v', n, H5, nx5⟩ QQ) :
  OpsL Tryz.prog W0 ops (⟨some d, .call ⟨.builtin .append, #[x, y], #[28, 28]⟩, type, pos, after, none⟩ :: os) ⟨tm, n, G, nx + 1⟩ QQ := by
 obtain ⟨ob, hj, hown⟩ := hm.inners;have hA := hm.hA;have hB := hm.hb;have hbl : ∀ b t, ob = some (b, t) → base ≤ b ∧ b ≠ A ∧ b < nx := fun b t hb => hm.sep.1 4 b t (by rw [hj, hb]);refine zO (bytes := 24) (z := rep 3 [.int .i64 0]) z48 zcF zom hd (hown.ext x4 (fun b t h => (hbl b t h).2.2)) hone hx hy (fun b t h => by have := (hbl b t h).2.2; omega) zxr zxr zxr zxr zxr rfl (by simp; omega) zom ?_;intro v' nx5 H5 ob5 hA5
 obtain ⟨b5, t5, hob5⟩ : ∃ b t, ob5 = some (b, t) := by
  cases ob5 with
  | none => exfalso; have := hA5.own.2.2; simp at this
  | some x => exact ⟨x.1, x.2, rfl⟩
 subst hob5;have hle5 := hA5.le;have hsame : ∀ i, i < nx → (∀ b t, ob = some (b, t) → i ≠ b) → H5 i = H i := fun i hi hb => by rw [hA5.same i zom hb, x4.2 i hi]
 obtain ⟨k1, k2⟩ := hA5.blk b5 t5 rfl;have hm2 := hm.putN (p := r) (nx1 := nx5) hj hA5.own (by rcases k2 with k2 | k2; exact .inl zom; exact .inr k2) k1 zom hsame;refine hc v' nx5 H5 _ ((hsame A hA (fun b t hb e => (hbl b t hb).2.1 e.symm)).trans hm.cell) hm2 (fun i hi hi2 => hsame i zom (fun b t hb => by have := hbl b t hb; omega)) zom (by rw [hA5.own.1]; rfl) (by rw [hA5.own.1]; rfl)
end Go.Proofs.YteplpegfcpmflaaGreat
namespace Go.Am
open Go.RowKit
section
variable {P : Program} {H : Heap} {nx : Nat} {ev : Operand → Option Value} {dst : Option Tmp} {type : TypeId} {pos : String} {after : Array Edge} {guard : Option (Nat × Bool)}
theorem z2l {t u : TypeId} {x y : Operand} {a b : Int} (hx : ev x = some (.int .i64 a)) (hy : ev y = some (.int .i64 b)) (h0 : 0 ≤ a) (hb : 0 < b) :
  aop P H nx ev ⟨dst, .binOp .rem t x y u, type, pos, after, guard⟩ = some (.int .i64 (a % b), .none) := by
 have e : a.tmod b = a % b := Int.tmod_eq_emod_of_nonneg h0;have hb0 : ¬ b = 0 := by omega
 simp [aop, hx, hy, z6x, z0U, hb0, e]
theorem z2m {t u : TypeId} {x y : Operand} {a b : Int} (hx : ev x = some (.int .i64 a)) (hy : ev y = some (.int .i64 b)) (h0 : 0 ≤ a) (hb : 0 < b) (hm : a ≤ 4611686018427387904) :
  aop P H nx ev ⟨dst, .binOp .quo t x y u, type, pos, after, guard⟩ = some (.int .i64 (a / b), .none) := by
 have e : a.tdiv b = a / b := Int.tdiv_eq_ediv_of_nonneg h0;have hb0 : ¬ b = 0 := by omega
 have h1 := Int.ediv_nonneg h0 (show 0 ≤ b by omega);have h2 := Int.ediv_le_self b h0;have w : IntKind.i64.wrap (a / b) = a / b := by rw [zaW]; omega
 simp [aop, hx, hy, z6x, z0U, hb0, e, w]
theorem zeI {t u : TypeId} {x y : Operand} {a : Int} (hx : ev x = some (.int .i64 a)) (hy : ev y = some (.int .i64 7)) (h0 : -9223372036854775808 ≤ a) (h1 : a ≤ 9223372036854775807) :
  aop P H nx ev ⟨dst, .binOp .quo t x y u, type, pos, after, guard⟩ = some (.int .i64 (a.tdiv 7), .none) := by
 have w : IntKind.i64.wrap (a.tdiv 7) = a.tdiv 7 := by
  have e : -9223372036854775808 ≤ a.tdiv 7 ∧ a.tdiv 7 ≤ 9223372036854775807 := by
   rcases Int.le_total 0 a with h | h
   ·rw [Int.tdiv_eq_ediv_of_nonneg h]; omega
   ·obtain ⟨b, rfl⟩ : ∃ b : Int, a = -b := ⟨-a, zom⟩;rw [Int.neg_tdiv, Int.tdiv_eq_ediv_of_nonneg (by omega : 0 ≤ b)]; omega
  rw [zaW];omega
 simp [aop, hx, hy, z6x, z0U, w]
end
end Go.Am
namespace Go.Proofs.YteplpegfcpmflaaGreat
open Go.Am Go.RowKit
attribute [local irreducible] aop OpsL Trip zI z2r OpsK OpsR
theorem z1T : Tryz.prog.follows .mixedOrders = true := by kernel_rfl
theorem z5a : Am.z0O Tryz.prog 24 := ⟨Tryz.f24, Tryz.func24, by kernel_rfl, by kernel_rfl⟩
theorem z72 : Am.z0O Tryz.prog 8 := ⟨Tryz.f8, Tryz.func8, by kernel_rfl, by kernel_rfl⟩
theorem z7p (W0 : World) {nx : Nat} {H : Heap} (a m : Int) (h0 : 0 < m) (h1 : m ≤ 4611686018427387904) : ACalls Tryz.prog W0 23 [.int .i64 a, .int .i64 m] nx H fun v nx' H' => v = .int .i64 (a % m) ∧ nx' = nx ∧ H' = H :=
 (z9Q W0 a m _ h0 h1 rfl).2 nx H
theorem zfF (W0 : World) {nx : Nat} {H : Heap} {lv : Value} {ss : List (ByteArray × Int)} (k x : Int) (hl : SymsAt H lv ss) (hss : ss.length ≤ 1000) (h0 : 0 ≤ x) :
  ACalls Tryz.prog W0 24 [lv, .int .i64 k, .int .i64 x] nx H fun v nx' H' => v = .int .i64 (z43 ss k x) ∧ Ext nx H nx' H' := by
 obtain ⟨la, lc, rfl, hl⟩ := hl;refine zm (fn := Tryz.f24) (c := _) Tryz.func24 rfl (fun tm n hn0 htm => ?_);have e0 : tm 0 = .slice (some la) ss.length lc := htm 0;have e1 : tm 1 = .int .i64 k := htm 1;have e2 : tm 2 = .int .i64 x := htm 2;clear htm;replace hn0 : n = 36 := hn0;refine Trip.ok fun hok => ?_;replace hok : ∀ id o, H id = some o → id < nx := hok;refine zg9 ?_
 refine zu (fun (i : Nat) s => ∃ (tm : Nat → Value) (nx' : Nat) (H' : Heap) (ob : Option (Nat × Nat)) (v : Value), s = ⟨tm, n, H', nx'⟩ ∧ Ext nx H nx' H' ∧ OwnInts H' ob 3 v (z1O ss k i) ∧ (∀ b t, ob = some (b, t) → nx ≤ b ∧ b < nx') ∧
   tm 0 = .slice (some la) ss.length lc ∧ tm 1 = .int .i64 k ∧ tm 2 = .int .i64 x ∧ tm 7 = v ∧ tm 8 = .int .i64 i ∧ i ≤ ss.length) (fun i => ss.length - i) 0 ?_ ?_
 ·exact ⟨_, _, _, none, _, rfl, Ext.refl, ⟨rfl, rfl, rfl⟩, fun _ _ h => (by cases h), e0, e1, e2, rfl, rfl, zom⟩
 ·clear e0 e1 e2;rintro i s ⟨tm, nx', H', ob, v, rfl, hext, hown, hob, e0, e1, e2, e7, e8, hi⟩;have hkl := zbL ss k i
  repeat (first | (refine zd (by first | exact omv | exact zaH | exact z1D | exact z2Z | exact ofa) ?_) | refine Trip.seq ?_ | refine zk ?_ | refine Trip.block ?_ | refine z1u (fun _ => ?_) (fun _ => ?_) | (refine Trip.skip ?_; (change Trip _ _ _ _ _)) | (refine OpsL.nil ?_; (change Trip _ _ _ _ _)))
  ·have hlt : i < ss.length := by omega
   have hc1 := z2W (hl i hlt);dsimp only at hc1
   have hc2 : zh H' ⟨la.block, la.off + (i : Int).toNat * 2 + 1, la.spot⟩ (.int .i64 ss[i].2) := by
    have := zN hext hok hc1;simpa using this
   have hsucc := z9X ss k hlt
   repeat (refine zd (by first | exact omv | exact old) ?_)
   by_cases hk : ss[i].2 = k
   ·refine z0d ?_ (c := hk);refine z9o ?_;refine zbs ?_;refine z1C zsd zsd evr (by decide) (by (simp only [zl, ↓reduceIte, reduceIte, Option.some.injEq, Nat.reduceEqDiff, *])) hown (fun b t hb => (hob b t hb).2) zxr zxr zxr zxr zom ?_;rintro v' ob' H'' hown' ⟨b, rfl, hb⟩ hsame;refine zg7 ?_;rw [if_pos hk] at hsucc;refine ⟨i + 1, ⟨_, _, _, some (b, nx' + 1), v', rfl, ?_, by rw [hsucc]; exact hown', ?_, stp, stp, stp, stp, stp, zom⟩, zom⟩
    ·exact ⟨by have := hext.1; omega, fun j hj => by rw [hsame j (by have := hext.1; omega) (fun b t hb => by have := (hob b t hb).1; omega), hext.2 j hj]⟩
    ·intro b' t' hb';cases hb';rcases hb with rfl | ⟨t, hb⟩
     ·exact ⟨by have := hext.1; omega, zom⟩
     ·have := hob b t hb; exact ⟨zom, zom⟩
   ·refine z0e ?_ (c := hk);refine z9s ?_;refine zg4 ?_;rw [if_neg hk] at hsucc;exact ⟨i + 1, ⟨_, _, _, ob, v, rfl, hext, by rw [hsucc]; exact hown, hob, stp, stp, stp, stp, stp, zom⟩, zom⟩
  ·have hi2 : i = ss.length := by omega
   subst hi2;have hat := hown.at;obtain ⟨ka, kc, rfl⟩ := hat.slice
   repeat (first | (refine zd (by first | exact omv | exact z1D) ?_) | refine Trip.seq ?_ | refine zk ?_ | (refine Trip.exit ?_; ((repeat (refine zY ?_)); change Trip _ _ _ _ _)))
   by_cases hz : (z1O ss k ss.length).length = 0
   ·refine z0d ?_;refine z9s ?_;refine zdX ?_;refine ⟨.inr rfl, _, zy, ?_, hext⟩;unfold z43;rw [List.eq_nil_of_length_eq_zero hz];rfl
   ·refine z0e ?_;refine z8e ?_
    repeat (first | (refine zd (by first | exact omv | exact z1D) ?_) | refine Trip.seq ?_ | refine zk ?_ | (refine Trip.skip ?_; (change Trip _ _ _ _ _)))
    have m1 := Int.emod_nonneg x (show ((z1O ss k ss.length).length : Int) ≠ 0 by omega);have m2 := Int.emod_lt_of_pos x (show (0 : Int) < (z1O ss k ss.length).length by omega);refine zd (z2l evd evr h0 zom) ?_;obtain ⟨j, hj⟩ : ∃ j : Nat, x % ((z1O ss k ss.length).length : Int) = j := ⟨(x % ((z1O ss k ss.length).length : Int)).toNat, zom⟩;have hjl : j < (z1O ss k ss.length).length := by omega
    obtain ⟨q, rfl, hc⟩ := z0g hat hjl
    have hp : z43 ss k x = (z1O ss k ss.length)[j] := by
     unfold z43;rw [hj, Int.toNat_natCast, List.getElem?_eq_getElem hjl]
    rw [hj]
    repeat (first | (refine zd (by first | exact z0y | exact z2Z | exact old) ?_) | (refine Trip.ret ?_; (dsimp only)) | (refine OpsL.nil ?_; (change Trip _ _ _ _ _)))
    exact ⟨.inr rfl, _, zy, by rw [hp]; simp [zl], hext⟩
def z0N : List Value := [.int .i64 0, .int .i64 0, .slice none 0 0, .slice none 0 0, .slice none 0 0, .slice none 0 0, .slice none 0 0]
theorem zh0 {A : Prop} (h : A := by
 refine zih ?_;obtain ⟨ob, hj, hown⟩ := hmk.init;obtain ⟨ia, ic, rfl⟩ := hown.at.slice
 repeat (refine zd (by exact z1D) ?_)
 by_cases hz0 : a.init.length = 0
 ·refine z0d ?_;refine z9o ?_
  repeat (refine zk ?_)
  have hnil : a.init = [] := List.eq_nil_of_length_eq_zero hz0;have hmake : z5T ss size most ns = z5F a 0 := by unfold z5T zbu; rw [hfin, if_pos hnil]
  rw [hmake]
  have hone : ((zz (z5F a 0) (.slice (some ⟨nx', 0, none⟩) 1 1) vf vo vc vn).all (·.oneCell')) = true := by
   obtain ⟨b1, _, w1⟩ := hmk.final;obtain ⟨b2, _, w2⟩ := hmk.opens;obtain ⟨b3, _, w3⟩ := hmk.closes;obtain ⟨b4, _, w4⟩ := hmk.inners;obtain ⟨_, _, z1⟩ := w1.at.slice;obtain ⟨_, _, z2⟩ := (w2.at z0X).slice;obtain ⟨_, _, z3⟩ := (w3.at z0X).slice;obtain ⟨_, _, z4⟩ := (w4.at z48).slice;rw [z1, z2, z3, z4];rfl
  refine OpsL.new zsd (zq (l := [(0, .int .i64 0)]) (r := (.slice (some ⟨nx', 0, none⟩) 1 1, .new (.cells [.int .i64 0] 1 none false (some 3)))) (by rfl) krf) ?_;have hA' : (H'.put nx' (.cells [.int .i64 0] 1 none false (some 3))) (nx + 1) = _ := (za (show nx + 1 ≠ nx' by omega)).trans hmk.cell;have hm2 := hmk.putI (H1 := H'.put nx' (.cells [.int .i64 0] 1 none false (some 3))) (v' := .slice (some ⟨nx', 0, none⟩) 1 1) (p := 0) (nx1 := nx' + 1) (b1 := nx') (t1 := 0) hj (.inr ⟨nx', 0, rfl, by rw [hnil]; rfl, by simp, by rw [zb, hnil]; rfl⟩) (.inl (Nat.le_refl _)) zom zom (fun i hi _ => za zom);have hz2 : (H'.put nx' (.cells [.int .i64 0] 1 none false (some 3))) nx = some (.cells z0N 0 none false (some 30)) := (za (show nx ≠ nx' by omega)).trans hz;have hx2 : Ext nx H (nx' + 1) (H'.put nx' (.cells [.int .i64 0] 1 none false (some 3))) := ⟨by have := hext.1; omega, fun j hj => by rw [za (by have := hext.1; omega), hext.2 j hj]⟩;generalize (H'.put nx' (.cells [.int .i64 0] 1 none false (some 3))) = H5 at *;refine z9y ?_;refine OpsL.storeAt 2 (cs' := zz (z5F a 0) (.slice (some ⟨nx', 0, none⟩) 1 1) vf vo vc vn) evr evr zxr rfl rfl hA' rfl (by simp [zz]) rfl ?_;have hz3 : (H5.put (nx + 1) (.cells (zz (z5F a 0) (.slice (some ⟨nx', 0, none⟩) 1 1) vf vo vc vn) 0 none false (some 30))) nx = some (.cells z0N 0 none false (some 30)) := (za (show nx ≠ nx + 1 by omega)).trans hz2;have hx3 : Ext nx H (nx' + 1) (H5.put (nx + 1) (.cells (zz (z5F a 0) (.slice (some ⟨nx', 0, none⟩) 1 1) vf vo vc vn) 0 none false (some 30))) := ⟨hx2.1, fun j hj => by rw [za (show j ≠ nx + 1 by omega), hx2.2 j hj]⟩;have hc3 : (H5.put (nx + 1) (.cells (zz (z5F a 0) (.slice (some ⟨nx', 0, none⟩) 1 1) vf vo vc vn) 0 none false (some 30))) (nx + 1) = some (.cells (zz (z5F a 0) (.slice (some ⟨nx', 0, none⟩) 1 1) vf vo vc vn) 0 none false (some 30)) := zb;change OpsL _ _ _ _ (ASt.mk _ _ (H5.put (nx + 1) (.cells (zz (z5F a 0) (.slice (some ⟨nx', 0, none⟩) 1 1) vf vo vc vn) 0 none false (some 30))) _) _;generalize (H5.put (nx + 1) (.cells (zz (z5F a 0) (.slice (some ⟨nx', 0, none⟩) 1 1) vf vo vc vn) 0 none false (some 30))) = H6 at *;refine zfk ?_;refine zd (zg (k := 7) evd zxr rfl zxr (zH hc3 rfl)) ?_
  refine OpsL.upd (zw (k := 7) evr evr zxr rfl (o := .cells (zz (z5F a 0) (.slice (some ⟨nx', 0, none⟩) 1 1) vf vo vc vn) 0 none false (some 30)) (by
   unfold z5j;simp only [hz3];rw [if_pos ⟨trivial, by simp [Value.cells, zz, z0N], trivial, by simpa [Value.cells] using hone⟩];simp [Value.cells, zz, z0N])) ?_
  refine zeY ?_;refine ⟨.inr rfl, _, z2h (a := ⟨nx, 0, none⟩) (by simp [zl, e8]) (v := .agg (zz (z5F a 0) (.slice (some ⟨nx', 0, none⟩) 1 1) vf vo vc vn).toArray) (z1g (k := 7) zxr rfl zxr (zH zb rfl)), nx + 1, _, _, _, _, _, _, rfl, (hm2.other (z := nx) zom zom).low (Nat.le_succ _), ⟨hx3.1, fun j hj => by rw [za (show j ≠ nx by omega), hx3.2 j hj]⟩⟩
 ·have hmake : z5T ss size most ns = a := by unfold z5T zbu; rw [hfin, if_neg (fun e => hz0 (by rw [e]; rfl))]
  rw [hmake];refine z0e ?_;refine z8e ?_
  repeat (first | refine Trip.seq ?_ | refine zk ?_ | (refine Trip.skip ?_; (change Trip _ _ _ _ _)))
  refine zd (zg (k := 7) evd zxr rfl zxr (zH hmk.cell rfl)) ?_
  refine OpsL.upd (zw (k := 7) evr evr zxr rfl (o := .cells (zz a (.slice ia a.init.length ic) vf vo vc vn) 0 none false (some 30)) (by
   have hone : ((zz a (.slice ia a.init.length ic) vf vo vc vn).all (·.oneCell')) = true := by
    obtain ⟨b1, _, w1⟩ := hmk.final;obtain ⟨b2, _, w2⟩ := hmk.opens;obtain ⟨b3, _, w3⟩ := hmk.closes;obtain ⟨b4, _, w4⟩ := hmk.inners;obtain ⟨_, _, z1⟩ := w1.at.slice;obtain ⟨_, _, z2⟩ := (w2.at z0X).slice;obtain ⟨_, _, z3⟩ := (w3.at z0X).slice;obtain ⟨_, _, z4⟩ := (w4.at z48).slice;rw [z1, z2, z3, z4];rfl
   unfold z5j;simp only [hz];rw [if_pos ⟨trivial, by simp [Value.cells, zz, z0N], trivial, by simpa [Value.cells] using hone⟩];simp [Value.cells, zz, z0N])) ?_
  refine zeY ?_;refine ⟨.inr rfl, _, z2h (a := ⟨nx, 0, none⟩) (by simp [zl, e8]) (v := .agg (zz a (.slice ia a.init.length ic) vf vo vc vn).toArray) (z1g (k := 7) zxr rfl zxr (zH zb rfl)), nx + 1, _, _, _, _, _, _, rfl, (hmk.other (z := nx) zom zom).low (Nat.le_succ _), ⟨hext.1, fun j hj => by rw [za (show j ≠ nx by omega), hext.2 j hj]⟩⟩) : A := h
theorem zh1 {A : Prop} (h : A := by
 refine z11 ?_;refine zaD ?_;refine zd (z2m evr evr zom zom zom) ?_;refine zd (z2l evr evr zom zom) ?_
 repeat fail
 refine z2T (hf := z5a) (hc := (zfF W0 1 _ (hl0.ext hext hok) hss zom)) (h := ?_);rintro v nx3 H3 ⟨rfl, x3⟩;have hmk3 := hmk.ext x3;have hA3 := hmk3.hA;have d1 : zh H3 ⟨nx + 1, 1, none⟩ (.int .i64 a.G) := ze hmk3.cell rfl;have d2 : zh H3 ⟨nx + 1, 4, none⟩ vo := ze hmk3.cell rfl;have hx3 := hext.trans x3;have hz3 : H3 nx = _ := (x3.2 nx zom).trans hz;generalize hpk : z43 ss 1 (y / 800 % 7) = z at *;refine zi5 ?_
 repeat fail
 by_cases hk : 0 ≤ z
 ·refine z4M ?_ (c := hk);rw [if_pos hk] at hst;refine z9o ?_
  repeat fail
  have b1 := Int.emod_nonneg (y / 8000) (show a.G ≠ 0 by omega);have b2 := Int.emod_lt_of_pos (y / 8000) (show 0 < a.G by omega);have b3 := Int.emod_nonneg (y / 8000) (show a.G + 1 ≠ 0 by omega);have b4 := Int.emod_lt_of_pos (y / 8000) (show 0 < a.G + 1 by omega);refine zG [1, 12, 13, 15] (K := fun _ H1 => zh H1 ⟨nx + 1, 1, none⟩ (.int .i64 a.G)) z1T krf krf [0, 2, 3, 4, 5, 6, 7, 8, 9, 10, 11, 1, 12, 13, 14, 15] krf d1 ?_;refine zg1 ?_;refine z5z ?_;refine z5z ?_;refine zg5 ?_;refine zd (z2m evr evr zom zom zom) ?_;refine z3B ?_;refine zg1 ?_;refine zx (v := .int .i64 a.G) rfl krf zsd d1 (fun H2 nx2 hK => zp evr zxr rfl hK) ?_;refine zg5 ?_;refine zd (z2l evr evr zom zom) ?_;refine z3B ?_;refine zfC ?_;refine zd (zC (v := .agg (e4 (p, z, qq, 1 + y / 8000 % a.G)).toArray) (l := [(0, .int .i64 p), (1, .int .i64 z), (2, .int .i64 qq), (3, .int .i64 (1 + y / 8000 % a.G))]) zeq krf) ?_;refine z3B ?_;refine z07 krf (zt rfl rfl ?_) (zt rfl rfl ?_)
  ·skip;refine zd (zp evr zxr rfl d2) ?_;refine OpsL.nil ⟨d1, ?_⟩;refine zg6 ?_;refine bsO zsd evr fun G3 x4 hone => ?_;refine OpsL.nil ⟨ze ((x4.2 (nx + 1) hA3).trans hmk3.cell) rfl, ?_⟩;refine zg6 ?_;refine ziW hmk3 zom x4 hone zsd evd evd fun v' nx5 H5 l5 hcA hm2 hsame hle5 w1 w2 => ?_;refine OpsL.nil ⟨ze hcA rfl, ?_⟩;refine zbl ?_;refine OpsL.storeAt 4 (cs' := zz (zdP a (p, z, qq, 1 + y / 8000 % a.G)) vi vf v' vc vn) evr evd zxr w1 w2 hcA rfl (by simp [zz]) rfl ?_;refine OpsL.nil ⟨ze zb rfl, ?_⟩;refine zbm ?_;exact ⟨i + 1, ⟨_, _, _, _, _, _, _, _, _, _, rfl, hst, hm2, ⟨by have := hx3.1; omega, fun j hj => by rw [za (show j ≠ nx + 1 by omega), hsame j zom zom, hx3.2 j hj]⟩, by rw [za (show nx ≠ nx + 1 by omega), hsame nx zom zom]; exact hz3, stp, stp, stp, stp, stp, zom, zom⟩, zom⟩
  ·skip;refine bsO zsd evr fun G3 x4 hone => ?_;refine OpsL.nil ⟨ze ((x4.2 (nx + 1) hA3).trans hmk3.cell) rfl, ?_⟩;refine zg6 ?_;refine zd (zp evr zxr rfl (ze ((x4.2 (nx + 1) hA3).trans hmk3.cell) rfl)) ?_;refine OpsL.nil ⟨ze ((x4.2 (nx + 1) hA3).trans hmk3.cell) rfl, ?_⟩;refine zg6 ?_;refine ziW hmk3 zom x4 hone zsd evd evd fun v' nx5 H5 l5 hcA hm2 hsame hle5 w1 w2 => ?_;refine OpsL.nil ⟨ze hcA rfl, ?_⟩;refine zbl ?_;refine OpsL.storeAt 4 (cs' := zz (zdP a (p, z, qq, 1 + y / 8000 % a.G)) vi vf v' vc vn) evr evd zxr w1 w2 hcA rfl (by simp [zz]) rfl ?_;refine OpsL.nil ⟨ze zb rfl, ?_⟩;refine zbm ?_;exact ⟨i + 1, ⟨_, _, _, _, _, _, _, _, _, _, rfl, hst, hm2, ⟨by have := hx3.1; omega, fun j hj => by rw [za (show j ≠ nx + 1 by omega), hsame j zom zom, hx3.2 j hj]⟩, by rw [za (show nx ≠ nx + 1 by omega), hsame nx zom zom]; exact hz3, stp, stp, stp, stp, stp, zom, zom⟩, zom⟩
 ·refine z3K ?_ (c := hk);rw [if_neg hk] at hst;refine z9s ?_;refine zg4 ?_;exact ⟨i + 1, ⟨_, _, _, _, _, _, _, _, _, _, rfl, hst, hmk3, hx3, hz3, stp, stp, stp, stp, stp, zom, zom⟩, zom⟩) : A := h
theorem zh2 {A : Prop} (h : A := by
 refine z11 ?_;refine zaD ?_;refine zd (z2m evr evr zom zom zom) ?_;refine zd (z2l evr evr zom zom) ?_
 repeat fail
 refine z2T (hf := z5a) (hc := (zfF W0 2 _ (hl0.ext hext hok) hss zom)) (h := ?_);rintro v nx3 H3 ⟨rfl, x3⟩;have hmk3 := hmk.ext x3;have hA3 := hmk3.hA;have d1 : zh H3 ⟨nx + 1, 1, none⟩ (.int .i64 a.G) := ze hmk3.cell rfl;have d2 : zh H3 ⟨nx + 1, 5, none⟩ vc := ze hmk3.cell rfl;have hx3 := hext.trans x3;have hz3 : H3 nx = _ := (x3.2 nx zom).trans hz;generalize hpk : z43 ss 2 (y / 800 % 7) = z at *;refine zi5 ?_
 repeat fail
 by_cases hk : 0 ≤ z
 ·refine z4M ?_ (c := hk);rw [if_pos hk] at hst;refine z9o ?_
  repeat fail
  have b1 := Int.emod_nonneg (y / 8000) (show a.G ≠ 0 by omega);have b2 := Int.emod_lt_of_pos (y / 8000) (show 0 < a.G by omega);have b3 := Int.emod_nonneg (y / 8000) (show a.G + 1 ≠ 0 by omega);have b4 := Int.emod_lt_of_pos (y / 8000) (show 0 < a.G + 1 by omega);refine zG [1, 12, 13, 15] (K := fun _ H1 => zh H1 ⟨nx + 1, 1, none⟩ (.int .i64 a.G)) z1T krf krf [0, 2, 3, 4, 5, 6, 7, 8, 9, 10, 11, 1, 12, 13, 14, 15] krf d1 ?_;refine zg1 ?_;refine z5z ?_;refine zg0 ?_;refine zd (z2m evr evr zom zom zom) ?_;refine z3B ?_;refine zg1 ?_;refine zx (v := .int .i64 a.G) rfl krf zsd d1 (fun H2 nx2 hK => zp evr zxr rfl hK) ?_;refine zfC ?_;refine zd (z2l evr evr zom zom) ?_;refine z3B ?_;refine zg0 ?_;refine zd (zC (v := .agg (e4 (p, z, y / 8000 % (a.G + 1), qq)).toArray) (l := [(0, .int .i64 p), (1, .int .i64 z), (2, .int .i64 (y / 8000 % (a.G + 1))), (3, .int .i64 qq)]) zeq krf) ?_;refine z3B ?_;refine z07 krf (zt rfl rfl ?_) (zt rfl rfl ?_)
  ·skip;refine zd (zp evr zxr rfl d2) ?_;refine OpsL.nil ⟨d1, ?_⟩;refine zg6 ?_;refine bsC zsd evr fun G3 x4 hone => ?_;refine OpsL.nil ⟨ze ((x4.2 (nx + 1) hA3).trans hmk3.cell) rfl, ?_⟩;refine zg6 ?_;refine ziX hmk3 zom x4 hone zsd evd evd fun v' nx5 H5 l5 hcA hm2 hsame hle5 w1 w2 => ?_;refine OpsL.nil ⟨ze hcA rfl, ?_⟩;refine zbl ?_;refine OpsL.storeAt 5 (cs' := zz (zdQ a (p, z, y / 8000 % (a.G + 1), qq)) vi vf vo v' vn) evr evd zxr w1 w2 hcA rfl (by simp [zz]) rfl ?_;refine OpsL.nil ⟨ze zb rfl, ?_⟩;refine zbm ?_;exact ⟨i + 1, ⟨_, _, _, _, _, _, _, _, _, _, rfl, hst, hm2, ⟨by have := hx3.1; omega, fun j hj => by rw [za (show j ≠ nx + 1 by omega), hsame j zom zom, hx3.2 j hj]⟩, by rw [za (show nx ≠ nx + 1 by omega), hsame nx zom zom]; exact hz3, stp, stp, stp, stp, stp, zom, zom⟩, zom⟩
  ·skip;refine bsC zsd evr fun G3 x4 hone => ?_;refine OpsL.nil ⟨ze ((x4.2 (nx + 1) hA3).trans hmk3.cell) rfl, ?_⟩;refine zg6 ?_;refine zd (zp evr zxr rfl (ze ((x4.2 (nx + 1) hA3).trans hmk3.cell) rfl)) ?_;refine OpsL.nil ⟨ze ((x4.2 (nx + 1) hA3).trans hmk3.cell) rfl, ?_⟩;refine zg6 ?_;refine ziX hmk3 zom x4 hone zsd evd evd fun v' nx5 H5 l5 hcA hm2 hsame hle5 w1 w2 => ?_;refine OpsL.nil ⟨ze hcA rfl, ?_⟩;refine zbl ?_;refine OpsL.storeAt 5 (cs' := zz (zdQ a (p, z, y / 8000 % (a.G + 1), qq)) vi vf vo v' vn) evr evd zxr w1 w2 hcA rfl (by simp [zz]) rfl ?_;refine OpsL.nil ⟨ze zb rfl, ?_⟩;refine zbm ?_;exact ⟨i + 1, ⟨_, _, _, _, _, _, _, _, _, _, rfl, hst, hm2, ⟨by have := hx3.1; omega, fun j hj => by rw [za (show j ≠ nx + 1 by omega), hsame j zom zom, hx3.2 j hj]⟩, by rw [za (show nx ≠ nx + 1 by omega), hsame nx zom zom]; exact hz3, stp, stp, stp, stp, stp, zom, zom⟩, zom⟩
 ·refine z3K ?_ (c := hk);rw [if_neg hk] at hst;refine z9s ?_;refine zg4 ?_;exact ⟨i + 1, ⟨_, _, _, _, _, _, _, _, _, _, rfl, hst, hmk3, hx3, hz3, stp, stp, stp, stp, stp, zom, zom⟩, zom⟩) : A := h
theorem zgP (W0 : World) {nx : Nat} {H : Heap} {lv nv : Value} {ss : List (ByteArray × Int)} {ns : List Int} {size most : Int} (hl : SymsAt H lv ss) (hss : ss.length ≤ 1000) (hn : IntsAt H nv ns) (h1 : 1 ≤ most) (h2 : most ≤ 100) (hs0 : -9223372036854775808 ≤ size) (hs1 : size ≤ 9223372036854775807) :
  ACalls Tryz.prog W0 8 [lv, .int .i64 size, nv, .int .i64 most] nx H fun v nx' H' => ∃ (A : Nat) (l : List (Option (Nat × Nat))) (vi vf vo vc vn : Value), v = .agg (zz (z5T ss size most ns) vi vf vo vc vn).toArray ∧ MkIn H' nx A nx' (z5T ss size most ns) l vi vf vo vc vn ∧ Ext nx H nx' H' := by
 have hl0 := hl;obtain ⟨la, lc, rfl, hl⟩ := hl;obtain ⟨na, nc, rfl⟩ := hn.slice;refine zm (fn := Tryz.f8) (c := _) Tryz.func8 rfl (fun tm n hn0 htm => ?_);have e0 : tm 0 = .slice (some la) ss.length lc := htm 0;have e1 : tm 1 = .int .i64 size := htm 1;have e2 : tm 2 = .slice na ns.length nc := htm 2;have e3 : tm 3 = .int .i64 most := htm 3;clear htm;replace hn0 : n = 142 := hn0;refine Trip.ok fun hok => ?_;replace hok : ∀ id o, H id = some o → id < nx := hok;have r1 := Int.emod_nonneg size (show most ≠ 0 by omega);have r2 := Int.emod_lt_of_pos size (show 0 < most by omega);have r3 := Int.emod_nonneg (size.tdiv 7) (show (2 : Int) ≠ 0 by omega);have r4 := Int.emod_lt_of_pos (size.tdiv 7) (show (0 : Int) < 2 by omega);refine zcj ?_;refine OpsL.new zsd (zD (l := z0N) krf) ?_;refine zaE ?_;refine OpsL.c2 (hf := z2M) (hc := (z7p W0 _ _ zom zom)) (h := ?_);rintro v2 n2 H2 ⟨rfl, rfl, rfl⟩
 repeat (refine zd (by first | exact omv | exact z5G) ?_)
 refine zd (zeI evd evr hs0 hs1) ?_
 repeat fail
 refine OpsL.c2 (hf := z2M) (hc := (z7p W0 _ _ zom zom)) (h := ?_);rintro v2 n2 H2 ⟨rfl, rfl, rfl⟩
 repeat (refine zd (by exact z5G) ?_)
 refine zd (zC (v := .agg (zz (z44 size most) (.slice none 0 0) (.slice none 0 0) (.slice none 0 0) (.slice none 0 0) (.slice none 0 0)).toArray) (l := [(0, .int .i64 (1 + size % most)), (1, .int .i64 (1 + size.tdiv 7 % 2))]) zeq krf) ?_;refine OpsL.new zsd (zD (l := z0N) krf) ?_;refine OpsL.upd (zw (k := 7) evr evr zxr rfl (o := .cells (zz (z44 size most) (.slice none 0 0) (.slice none 0 0) (.slice none 0 0) (.slice none 0 0) (.slice none 0 0)) 0 none false (some 30)) (by simp [z5j, Heap.put, Value.cells, zz, z0N, Value.oneCell'])) ?_;refine zg9 ?_
 refine zu (fun (i : Nat) s => ∃ (tm : Nat → Value) (nx' : Nat) (H' : Heap) (a : Aut) (l : List (Option (Nat × Nat))) (vi vf vo vc vn : Value), s = ⟨tm, n, H', nx'⟩ ∧ z5A ss size most ns i = a ∧ MkIn H' (nx + 1) (nx + 1) nx' a l vi vf vo vc vn ∧ Ext nx H nx' H' ∧ H' nx = some (.cells z0N 0 none false (some 30)) ∧
   tm 0 = .slice (some la) ss.length lc ∧ tm 2 = .slice na ns.length nc ∧ tm 8 = .pointer (some ⟨nx, 0, none⟩) ∧ tm 9 = .pointer (some ⟨nx + 1, 0, none⟩) ∧ tm 10 = .int .i64 i ∧ i ≤ ns.length ∧ i ≤ 24) (fun i => ns.length - i) 0 ?_ ?_
 ·refine ⟨_, _, _, z44 size most, [none, none, none, none, none], _, _, _, _, _, rfl, rfl, ⟨zb, rfl, ⟨none, rfl, .inl ⟨rfl, rfl, rfl⟩⟩, ⟨none, rfl, rfl, rfl, rfl⟩, ⟨none, rfl, rfl, rfl, rfl⟩, ⟨none, rfl, rfl, rfl, rfl⟩, ⟨none, rfl, rfl, rfl, rfl⟩, ⟨fun j b t hj => ?_, fun j k b t b' t' _ hj => ?_⟩, zom, zom⟩, ?_, ?_, stp, stp, stp, stp, stp, zom, zom⟩
  ·exfalso;rcases j with _ | _ | _ | _ | _ | j <;> simp at hj
  ·exfalso;rcases j with _ | _ | _ | _ | _ | j <;> simp at hj
  ·exact ⟨zom, fun i hi => by rw [za (show i ≠ nx + 1 by omega), za (show i ≠ nx + 1 by omega), za (show i ≠ nx by omega)]⟩
  ·rw [za (show nx ≠ nx + 1 by omega), za (show nx ≠ nx + 1 by omega), zb]
 clear e0 e1 e2 e3;rintro i s ⟨tm, nx', H', a, l, vi, vf, vo, vc, vn, rfl, hfa, hmk, hext, hz, e0, e2, e8, e9, e10, hi, hi24⟩;refine Trip.ok fun hok' => ?_;replace hok' : ∀ id o, H' id = some o → id < nx' := hok';have hgood := z5d ss (size := size) h1 ns i hi;rw [hfa] at hgood;have hAn := hmk.hA;have c0 : zh H' ⟨nx + 1, 0, none⟩ (.int .i64 a.N) := ze hmk.cell rfl;have c1 : zh H' ⟨nx + 1, 1, none⟩ (.int .i64 a.G) := ze hmk.cell rfl;have c2 : zh H' ⟨nx + 1, 2, none⟩ vi := ze hmk.cell rfl;have c3 : zh H' ⟨nx + 1, 3, none⟩ vf := ze hmk.cell rfl;have c4 : zh H' ⟨nx + 1, 4, none⟩ vo := ze hmk.cell rfl;have c5 : zh H' ⟨nx + 1, 5, none⟩ vc := ze hmk.cell rfl;have c6 : zh H' ⟨nx + 1, 6, none⟩ vn := ze hmk.cell rfl;have G1 := hgood.N0;have G2 := hgood.N1;have G3 := hgood.G0;have G4 := hgood.G1;have G5 := hgood.len;by_cases hlt : i < ns.length
 ·by_cases hlt24 : i < 24
  ·obtain ⟨q, rfl, hc⟩ := z0g hn hlt;replace hc := zN hext hok hc;refine z4s ?_;refine z0z ?_
   repeat (first | refine zd (by exact omv) ?_ | refine zA ?_)
   refine z0z ?_;refine zfv ?_;refine z11 ?_;refine zgE ?_;refine OpsL.c2 (hf := z2M) (hc := (z7p W0 _ _ zom zom)) (h := ?_);rintro v2 n2 H2 ⟨rfl, h2', h3'⟩;subst h2'; subst h3';have y0 := Int.emod_nonneg ns[i] (show (1099511627776 : Int) ≠ 0 by omega);have y1 := Int.emod_lt_of_pos ns[i] (show (0 : Int) < 1099511627776 by omega);have hsucc := z6Z ss size most ns hlt;rw [hfa] at hsucc;generalize hy : ns[i] % 1099511627776 = y at *;refine zfm ?_;refine Trip.mono (Q := fun e st => e = .normal ∧ ∃ tm' : Nat → Value, st = ⟨tm', n, H2, n2⟩ ∧ tm' 0 = .slice (some la) ss.length lc ∧ tm' 2 = .slice (some q) ns.length nc ∧ tm' 8 = .pointer (some ⟨nx, 0, none⟩) ∧ tm' 9 = .pointer (some ⟨nx + 1, 0, none⟩) ∧ tm' 10 = .int .i64 i ∧ tm' 11 = .int .i64 y ∧ tm' 12 = .int .i64 (y / 8 % a.N) ∧ tm' 13 = .int .i64 (y / 80 % a.N)) ?_ ?_
   ·refine zG [] (K := fun _ _ => True) z1T krf krf [0, 1, 2, 3, 4, 5, 6, 7, 8, 9, 10, 11] krf trivial ?_;refine z5w ?_;refine zg5 ?_;refine zd (z2m evr evr zom zom zom) ?_;refine z3B ?_;refine z9A ?_;refine zg5 ?_;refine zd (z2l evr evr zom zom) ?_;refine z3B ?_;refine zg0 ?_;refine zd (z2m evr evr zom zom zom) ?_;refine z3B ?_;refine z9A ?_;refine zg5 ?_;refine zd (z2l evr evr zom zom) ?_;refine z3B ?_;refine zg5 ?_
    repeat (first | refine zd (by exact z0y) ?_ | (refine OpsL.nil ?_; (skip)))
    refine zbo ?_;exact ⟨rfl, _, rfl, stp, stp, stp, stp, stp, stp, stp, stp⟩
   clear e0 e2 e8 e9 e10;rintro e st ⟨rfl, tm1, rfl, e0, e2, e8, e9, e10, e11, e12, e13⟩;have hst : z5A ss size most ns (i + 1) = zbt ss a ns[i] := hsucc;unfold zbt at hst;simp only [hy] at hst;generalize hp : y / 8 % a.N = p at *;generalize hq : y / 80 % a.N = qq at *;clear hsucc;refine zaD ?_;refine zd (z2l evr evr zom zom) ?_
   repeat (first | refine Trip.seq ?_ | refine zk ?_ | refine Trip.block ?_ | (refine OpsL.nil ?_; (change Trip _ _ _ _ _)))
   by_cases m0 : y % 8 = 0
   ·refine z0d ?_ (c := m0);rw [if_pos m0] at hst;refine zdW ?_;refine zgv ?_;obtain ⟨ob, hj, hown⟩ := hmk.init;have hbl : ∀ b t, ob = some (b, t) → nx + 1 ≤ b ∧ b ≠ nx + 1 ∧ b < n2 := fun b t hb => hmk.sep.1 0 b t (by rw [hj, hb]);refine z9m zsd zsd evr (by decide) (by (simp only [zl, ↓reduceIte, reduceIte, Option.some.injEq, Nat.reduceEqDiff, *])) hown (fun b t hb => (hbl b t hb).2.2) zxr zxr zxr zxr zom ?_;rintro v' ob' H3 hown' ⟨b, rfl, hb⟩ hsame;have hm2 := hmk.putI (p := p) (nx1 := n2 + 1 + 1) hj (.inl hown') (by rcases hb with hb | hb; exact .inl zom; exact .inr hb) (by rcases hb with rfl | ⟨t, hb⟩; omega; have := hbl b t hb; omega) zom hsame;have hcA : H3 (nx + 1) = _ := (hsame (nx + 1) hAn (fun b t hb e => (hbl b t hb).2.1 e.symm)).trans hmk.cell;refine z9y ?_;refine OpsL.storeAt 2 (cs' := zz (z5F a p) v' vf vo vc vn) evr evr zxr (by rw [hown'.1]; rfl) (by rw [hown'.1]; rfl) hcA rfl (by simp [zz]) rfl ?_;have hx5 : Ext nx H (n2 + 1 + 1) (H3.put (nx + 1) (.cells (zz (z5F a p) v' vf vo vc vn) 0 none false (some 30))) := ⟨by have := hext.1; omega, fun j hj => by rw [za (show j ≠ nx + 1 by omega), hsame j zom (fun b t hb => by have := hbl b t hb; omega), hext.2 j hj]⟩;have hz5 : (H3.put (nx + 1) (.cells (zz (z5F a p) v' vf vo vc vn) 0 none false (some 30))) nx = some (.cells z0N 0 none false (some 30)) := by rw [za (show nx ≠ nx + 1 by omega), hsame nx zom (fun b t hb => by have := hbl b t hb; omega)]; exact hz
    refine zg7 ?_;exact ⟨i + 1, ⟨_, _, _, _, _, _, _, _, _, _, rfl, hst, hm2, hx5, hz5, stp, stp, stp, stp, stp, zom, zom⟩, zom⟩
   refine z0e ?_ (c := m0);rw [if_neg m0] at hst;refine z8d ?_;refine zcj ?_;by_cases m1 : y % 8 = 1
   ·refine z0d ?_ (c := m1);rw [if_pos m1] at hst;refine zdW ?_;refine zgv ?_;obtain ⟨ob, hj, hown⟩ := hmk.final;have hbl : ∀ b t, ob = some (b, t) → nx + 1 ≤ b ∧ b ≠ nx + 1 ∧ b < n2 := fun b t hb => hmk.sep.1 1 b t (by rw [hj, hb]);refine z1C zsd zsd evr (by decide) (by (simp only [zl, ↓reduceIte, reduceIte, Option.some.injEq, Nat.reduceEqDiff, *])) hown (fun b t hb => (hbl b t hb).2.2) zxr zxr zxr zxr zom ?_;rintro v' ob' H3 hown' ⟨b, rfl, hb⟩ hsame;have hm2 := hmk.putF (p := p) (nx1 := n2 + 1 + 1) hj hown' (by rcases hb with hb | hb; exact .inl zom; exact .inr hb) (by rcases hb with rfl | ⟨t, hb⟩; omega; have := hbl b t hb; omega) zom hsame;have hcA : H3 (nx + 1) = _ := (hsame (nx + 1) hAn (fun b t hb e => (hbl b t hb).2.1 e.symm)).trans hmk.cell;refine z9y ?_;refine OpsL.storeAt 3 (cs' := zz (zcs a p) vi v' vo vc vn) evr evr zxr (by rw [hown'.1]; rfl) (by rw [hown'.1]; rfl) hcA rfl (by simp [zz]) rfl ?_;have hx5 : Ext nx H (n2 + 1 + 1) (H3.put (nx + 1) (.cells (zz (zcs a p) vi v' vo vc vn) 0 none false (some 30))) := ⟨by have := hext.1; omega, fun j hj => by rw [za (show j ≠ nx + 1 by omega), hsame j zom (fun b t hb => by have := hbl b t hb; omega), hext.2 j hj]⟩;have hz5 : (H3.put (nx + 1) (.cells (zz (zcs a p) vi v' vo vc vn) 0 none false (some 30))) nx = some (.cells z0N 0 none false (some 30)) := by rw [za (show nx ≠ nx + 1 by omega), hsame nx zom (fun b t hb => by have := hbl b t hb; omega)]; exact hz
    refine zg7 ?_;exact ⟨i + 1, ⟨_, _, _, _, _, _, _, _, _, _, rfl, hst, hm2, hx5, hz5, stp, stp, stp, stp, stp, zom, zom⟩, zom⟩
   refine z0e ?_ (c := m1);rw [if_neg m1] at hst;refine z8d ?_;refine zcj ?_;by_cases mA2 : y % 8 = 2
   ·refine z0d ?_ (c := mA2);rw [if_pos (Or.inl mA2)] at hst;refine zdW ?_;refine z11 ?_
    repeat (refine Trip.skip ?_; (change Trip _ _ _ _ _))
    exact zh1
   refine z0e ?_ (c := mA2);refine z8d ?_
   repeat (refine zk ?_)
   by_cases mA3 : y % 8 = 3
   ·refine z0d ?_ (c := mA3);rw [if_pos (Or.inr mA3)] at hst;refine zdW ?_;exact zh1
   refine z0e ?_ (c := mA3);rw [if_neg zom] at hst;refine z8d ?_;refine zcj ?_;by_cases mA4 : y % 8 = 4
   ·refine z0d ?_ (c := mA4);rw [if_pos (Or.inl mA4)] at hst;refine zdW ?_;refine z11 ?_
    repeat (refine Trip.skip ?_; (change Trip _ _ _ _ _))
    exact zh2
   refine z0e ?_ (c := mA4);refine z8d ?_
   repeat (refine zk ?_)
   by_cases mA5 : y % 8 = 5
   ·refine z0d ?_ (c := mA5);rw [if_pos (Or.inr mA5)] at hst;refine zdW ?_;exact zh2
   refine z0e ?_ (c := mA5);rw [if_neg zom] at hst;refine z8d ?_;refine zaD ?_;refine zd (z2m evr evr zom zom zom) ?_;refine zd (z2l evr evr zom zom) ?_
   repeat fail
   refine z2T (hf := z5a) (hc := (zfF W0 3 _ (hl0.ext hext hok) hss zom)) (h := ?_);rintro v nx3 H3 ⟨rfl, x3⟩;have hmk3 := hmk.ext x3;have hA3 := hmk3.hA;have d1 : zh H3 ⟨nx + 1, 1, none⟩ (.int .i64 a.G) := ze hmk3.cell rfl;have d2 : zh H3 ⟨nx + 1, 6, none⟩ vn := ze hmk3.cell rfl;have hx3 := hext.trans x3;have hz3 : H3 nx = _ := (x3.2 nx zom).trans hz;generalize hpk : z43 ss 3 (y / 800 % 7) = z at *;refine zi5 ?_
   repeat fail
   by_cases hk : 0 ≤ z
   ·refine z4M ?_ (c := hk);rw [if_pos hk] at hst;refine z9o ?_
    repeat (first | (refine zd (by first | exact omv | exact ofa | exact old) ?_) | refine zk ?_)
    have b1 := Int.emod_nonneg (y / 8000) (show a.G ≠ 0 by omega);have b2 := Int.emod_lt_of_pos (y / 8000) (show 0 < a.G by omega);have b3 := Int.emod_nonneg (y / 8000) (show a.G + 1 ≠ 0 by omega);have b4 := Int.emod_lt_of_pos (y / 8000) (show 0 < a.G + 1 by omega);refine zd (zC (v := .agg (e3 (p, z, qq)).toArray) (l := [(0, .int .i64 p), (1, .int .i64 z), (2, .int .i64 qq)]) zeq krf) ?_;refine bsN zsd evr fun G3 x4 hone => ?_;refine zj7 hmk3 zom x4 hone zsd evd evd fun v' nx5 H5 l5 hcA hm2 hsame hle5 w1 w2 => ?_;refine z9y ?_;refine OpsL.storeAt 6 (cs' := zz (zdY a (p, z, qq)) vi vf vo vc v') evr evd zxr w1 w2 hcA rfl (by simp [zz]) rfl ?_;refine zg7 ?_;exact ⟨i + 1, ⟨_, _, _, _, _, _, _, _, _, _, rfl, hst, hm2, ⟨by have := hx3.1; omega, fun j hj => by rw [za (show j ≠ nx + 1 by omega), hsame j zom zom, hx3.2 j hj]⟩, by rw [za (show nx ≠ nx + 1 by omega), hsame nx zom zom]; exact hz3, stp, stp, stp, stp, stp, zom, zom⟩, zom⟩
   ·refine z3K ?_ (c := hk);rw [if_neg hk] at hst;refine z9s ?_;refine zg4 ?_;exact ⟨i + 1, ⟨_, _, _, _, _, _, _, _, _, _, rfl, hst, hmk3, hx3, hz3, stp, stp, stp, stp, stp, zom, zom⟩, zom⟩
  ·have hfin : z5A ss size most ns 24 = a := by rw [← hfa, show i = 24 by omega]
   refine z4s ?_;refine z0z ?_
   repeat (first | refine zd (by exact omv) ?_ | refine zA ?_)
   refine z0H ?_;refine zfv ?_;exact zh0
 ·have hfin : z5A ss size most ns 24 = a := by rw [z6Y ss size most ns (show ns.length ≤ 24 by omega), ← hfa, show i = ns.length by omega]
  refine z4s ?_;refine z0H ?_
  repeat (first | (refine zd (by first | exact omv | exact z2Y) ?_) | (refine OpsL.nil ?_; (change Trip _ _ _ _ _)) | refine zW ?_)
  exact zh0
end Go.Proofs.YteplpegfcpmflaaGreat
