import Derived.Test.YteplpegfcpmflaaGreatQTM14
set_option linter.unusedSimpArgs false
set_option linter.unusedVariables false
set_option maxRecDepth 100000
set_option maxHeartbeats 64000000
namespace Go.Am
open Go.RowKit
def z6u (r : R3) : List Int := [r.1, r.2.2]
def z7k (r : R4) : List Int := [r.1, r.2.2.1]
def zbd (r : R4) : List Int := [r.1, r.2.2.2]
def z4U (a : Aut) : Bool := (((a.init ++ a.final) ++ a.inners.flatMap z6u ++ a.opens.flatMap z7k) ++ a.closes.flatMap zbd).all (stF a.N)
theorem z2W {H : Heap} {a : Addr} {k j : Nat} {vs : List Value} {v : Value} (h : z0L H a k = some vs) (hj : vs[j]? = some v) : zb H ⟨a.block, a.off + j, a.spot⟩ v := by
 unfold zb z0L at *;split at h
 ·rename_i c e t r q ho
  simp only [ho];split at h
  ·rename_i hc
   simp only [Option.some.injEq] at h;obtain ⟨hjl, hje⟩ := List.getElem?_eq_some_iff.1 hj;subst h;have hjk : j < k := by simp at hjl; omega
   rw [if_pos ⟨hc.1, by omega⟩];rw [List.getElem_take, List.getElem_drop] at hje;rw [List.take_one, List.head?_drop, List.getElem?_eq_getElem (by omega), hje];rfl
  ·cases h
 ·cases h
theorem z63 {α : Type} {f : α → List Int} {l : List α} {i : Nat} (h : i < l.length) : (l.take (i + 1)).flatMap f = (l.take i).flatMap f ++ f l[i] := by
 rw [List.take_succ_eq_append_getElem h, List.flatMap_append];simp
theorem z1n {α : Type} {f : α → List Int} (h : ∀ x, (f x).length = 2) (l : List α) : (l.flatMap f).length = 2 * l.length := by
 induction l with
 | nil => rfl
 | cons x l ih => rw [List.flatMap_cons, List.length_append, h, ih, List.length_cons]; omega
end Go.Am
namespace Go.Proofs.YteplpegfcpmflaaGreat
open Go.Am Go.RowKit
attribute [local irreducible] aop OpsL Trip zC z36 OpsK OpsR
theorem z99 : Am.z0F Tryz.prog 54 := ⟨Tryz.f54, Tryz.func54, by kernel_rfl, by kernel_rfl⟩
theorem zfM (W0 : World) {nx : Nat} {H : Heap} {a : Aut} {vi vf vo vc vn : Value} (ha : AutIn H a vi vf vo vc vn) (hn : AutLen a) :
  ACalls Tryz.prog W0 54 [.agg (zA a vi vf vo vc vn).toArray] nx H fun v nx' H' => v = .bool (z4U a) ∧ Ext nx H nx' H' := by
 obtain ⟨oa, oc, rfl⟩ := ha.opens.slice;obtain ⟨ca, cc, rfl⟩ := ha.closes.slice;obtain ⟨na, nc, rfl⟩ := ha.inners.slice;have q0 := hn.init;have q1 := hn.final;have q2 := hn.opens;have q3 := hn.closes;have q4 := hn.inners;refine ze (fn := Tryz.f54) (c := _) Tryz.func54 rfl (fun tm n hn0 htm => ?_);have e0 : tm 0 = .agg (zA a vi vf (.slice oa a.opens.length oc) (.slice ca a.closes.length cc) (.slice na a.inners.length nc)).toArray := htm 0;clear htm;replace hn0 : n = 101 := hn0;refine Trip.ok fun hok => ?_;replace hok : ∀ id o, H id = some o → id < nx := hok;refine z5o ?_;refine OpsL.new (by subst_vars; decide) (zW evr) ?_;obtain ⟨F, hF⟩ : ∃ F, F = H.put nx (.cells (Value.agg (zA a vi vf (.slice oa a.opens.length oc) (.slice ca a.closes.length cc) (.slice na a.inners.length nc)).toArray).cells.toList 0 none false (some 30)) := ⟨_, rfl⟩;have hx0 : Ext nx H (nx + 1) F := by rw [hF]; exact zg
 have hokF : ∀ id o, F id = some o → id < nx + 1 := by rw [hF]; exact zB hok
 have hFn : F nx = some (.cells (zA a vi vf (.slice oa a.opens.length oc) (.slice ca a.closes.length cc) (.slice na a.inners.length nc)) 0 none false (some 30)) := by rw [hF, z6]; rfl
 replace ha := ha.ext hx0 hok;have g0 : zb F ⟨nx, 0, none⟩ (.int .i64 a.N) := z8 hFn rfl;have g2 : zb F ⟨nx, 2, none⟩ vi := z8 hFn rfl;have g3 : zb F ⟨nx, 3, none⟩ vf := z8 hFn rfl;have g4 : zb F ⟨nx, 4, none⟩ (.slice oa a.opens.length oc) := z8 hFn rfl;have g5 : zb F ⟨nx, 5, none⟩ (.slice ca a.closes.length cc) := z8 hFn rfl;have g6 : zb F ⟨nx, 6, none⟩ (.slice na a.inners.length nc) := z8 hFn rfl;rw [← hF];clear hF e0;refine zfZ ?_;refine Trip.mono (Q := fun e st => e = .normal ∧ ∃ (tm' : Nat → Value) (nx' : Nat) (H' : Heap) (ob : Option (Nat × Nat)) (v : Value), st = ⟨tm', n, H', nx'⟩ ∧ Ext (nx + 1) F nx' H' ∧ RowE z59 1 3 H' ob v (a.init ++ a.final) ∧ (∀ b t, ob = some (b, t) → nx + 1 ≤ b ∧ b < nx') ∧ tm' 1 = .pointer (some ⟨nx, 0, none⟩) ∧ tm' 3 = v) ?_ ?_
 ·refine OpsR.drawn [0, 3, 6] (K := fun nx1 H1 => Ext (nx + 1) F nx1 H1) z0N krf krf [1, 2, 4, 5, 0, 3, 6, 7] krf Ext.refl ?_
  refine zg3 ?_;refine zD (v := vi) rfl krf (by subst_vars; decide) Ext.refl (fun H2 nx2 hK => zq evr (by exact rfl) rfl (zm hK hokF g2)) ?_;refine zg3 ?_;refine zD (v := vf) rfl krf (by subst_vars; decide) Ext.refl (fun H2 nx2 hK => zq evr (by exact rfl) rfl (zm hK hokF g3)) ?_;refine z0K ?_;refine OpsL.new (by subst_vars; decide) (zl (l := []) (r := (.slice (some ⟨nx + 1, 0, none⟩) 0 0, .new (.cells [] 1 none false (some 3)))) (by simp only [zt]) krf) ?_;have y0 : Ext (nx + 1) F (nx + 1 + 1) (F.put (nx + 1) (.cells [] 1 none false (some 3))) := zg;have p0 := zB (o := (.cells [] 1 none false (some 3))) hokF;have hE : RowE z59 1 3 (F.put (nx + 1) (.cells [] 1 none false (some 3))) none (.slice (some ⟨nx + 1, 0, none⟩) 0 0) ([] : List Int) := .inr ⟨rfl, rfl, nx + 1, 1, false, _, rfl, z6⟩;generalize (F.put (nx + 1) (.cells [] 1 none false (some 3))) = G at *;refine OpsL.nil ⟨y0, ?_⟩;refine z0K ?_;refine z1b (bytes := 8) (z := [.int .i64 0]) z2g z3h (by omega) (by subst_vars; decide) hE (RowsAt.ext y0 hokF (z2m ha.init)) evd evd (fun b t h => by cases h) (by exact rfl) (by exact rfl) (by exact rfl) (by exact rfl) (by exact rfl) rfl (by simp; omega) (by omega) ?_;intro u1 m1 G1 o1 hA1;have y1 : Ext (nx + 1) F m1 G1 := y0.trans ⟨hA1.le, fun i hi => hA1.same i hi (fun b t h => by cases h)⟩
  have h1' : ∀ b t, o1 = some (b, t) → nx + 1 ≤ b ∧ b < m1 := fun b t h => by
   obtain ⟨i1, i2⟩ := hA1.blk b t h;rcases i2 with rfl | ⟨t', h'⟩
   ·exact ⟨by omega, i1⟩
   ·cases h'
  refine OpsL.nil ⟨y1, ?_⟩;refine z0K ?_;refine z1b (bytes := 8) (z := [.int .i64 0]) z2g z3h (by omega) (by subst_vars; decide) hA1.own (RowsAt.ext y1 hokF (z2m ha.final)) evd evd (fun b t h => (h1' b t h).2) (by exact rfl) (by exact rfl) (by exact rfl) (by exact rfl) (by exact rfl) rfl (by simp; omega) (by omega) ?_;intro u2 m2 G2 o2 hA2;have y2 : Ext (nx + 1) F m2 G2 := ⟨by have := y1.1; have := hA2.le; omega, fun i hi => by rw [hA2.same i (by have := y1.1; omega) (fun b t h => by have := h1' b t h; omega), y1.2 i hi]⟩;refine OpsL.nil ⟨y2, ?_⟩;refine zcf ?_;refine ⟨rfl, _, m2, G2, o2, u2, rfl, y2, by simpa using hA2.own, fun b t h => ?_, stp, stp⟩;obtain ⟨i1, i2⟩ := hA2.blk b t h;have := y1.1;rcases i2 with rfl | ⟨t', h'⟩
  ·exact ⟨by omega, i1⟩
  ·have := h1' _ _ h'; exact ⟨by omega, i1⟩
 ·rintro e st ⟨rfl, tm2, nx2, G2, ob, v, rfl, x2, hv, hob, e1, e3⟩
  refine z6y ?_;refine zu (fun (i : Nat) s => ∃ (tm : Nat → Value) (nx' : Nat) (H' : Heap) (ob : Option (Nat × Nat)) (v : Value), s = ⟨tm, n, H', nx'⟩ ∧ Ext (nx + 1) F nx' H' ∧ RowE z59 1 3 H' ob v ((a.init ++ a.final) ++ (a.inners.take i).flatMap z6u) ∧ (∀ b t, ob = some (b, t) → nx + 1 ≤ b ∧ b < nx') ∧ tm 1 = .pointer (some ⟨nx, 0, none⟩) ∧ tm 3 = v ∧ tm 4 = .int .i64 i ∧ i ≤ a.inners.length) (fun i => a.inners.length - i) 0 ?_ ?_
  ·exact ⟨_, _, _, ob, v, rfl, x2, by simpa using hv, hob, stp, stp, stp, by omega⟩
  clear e1 e3 x2 hv hob;rintro i s ⟨tm, nx', H', ob, v, rfl, hext, hv, hob, e1, e3, e4, hi⟩;have gl := zm hext hokF g6;refine Trip.ok fun hokH => ?_;replace hokH : ∀ id o, H' id = some o → id < nx' := hokH
  repeat (first | (refine z7 (by first | exact omv | exact z6B | exact z1s | exact ofa | exact old) ?_) | refine Trip.seq ?_ | refine zd ?_ | refine Trip.block ?_ | refine z0t (fun _ => ?_) (fun _ => ?_) | (refine Trip.skip ?_; (change Trip _ _ _ _ _)) | (refine OpsL.nil ?_; (change Trip _ _ _ _ _)))
  ·have hlt : i < a.inners.length := by omega
   obtain ⟨q, hq, hc⟩ := z01 ha.inners hlt;have hc0 : zb F ⟨q.block, q.off + (i : Int).toNat * 3, q.spot⟩ (.int .i64 a.inners[i].1) := z2W (j := 0) hc rfl;have hcT : zb F ⟨q.block, q.off + (i : Int).toNat * 3 + 2, q.spot⟩ (.int .i64 a.inners[i].2.2) := z2W (j := 2) hc rfl;have gq := g6;rw [hq] at gq
   have hblen : ((a.init ++ a.final) ++ (a.inners.take i).flatMap z6u).length ≤ 100000 := by
    have z1 := z1n (f := z6u) (fun _ => rfl) a.inners;have z2 := z1n (f := z7k) (fun _ => rfl) a.opens;have z3 := z1n (f := z6u) (fun _ => rfl) (a.inners.take i);simp only [List.length_append] at *;rw [z3, List.length_take];omega
   repeat fail
   refine Trip.mono (Q := fun e st => e = .normal ∧ ∃ (tm' : Nat → Value) (nx5 : Nat) (H5 : Heap) (ob5 : Option (Nat × Nat)) (v5 : Value), st = ⟨tm', n, H5, nx5⟩ ∧ Ext (nx + 1) F nx5 H5 ∧ RowE z59 1 3 H5 ob5 v5 ((a.init ++ a.final) ++ (a.inners.take (i + 1)).flatMap z6u) ∧ (∀ b t, ob5 = some (b, t) → nx + 1 ≤ b ∧ b < nx5) ∧ tm' 1 = .pointer (some ⟨nx, 0, none⟩) ∧ tm' 3 = v5 ∧ tm' 4 = .int .i64 i) ?_ ?_
   ·refine z3q [13, 14, 15] (K := fun nx1 H1 => Ext (nx + 1) F nx1 H1) z0N krf krf [0, 1, 2, 3, 4, 5, 6, 7, 8, 9, 10, 11, 12, 13, 14, 15] krf hext ?_
    refine z5I ?_;refine zg3 ?_;refine zD (v := .slice (some q) a.inners.length nc) rfl krf (by subst_vars; decide) hext (fun H2 nx2 hK => zq evr (by exact rfl) rfl (zm hK hokF gq)) ?_;refine zbg ?_;refine zD (v := .int .i64 a.inners[i].1) rfl krf (by subst_vars; decide) hext (fun H2 nx2 hK => zq evr (by exact rfl) rfl (zm hK hokF hc0)) ?_;refine zg3 ?_;refine zD (v := .slice (some q) a.inners.length nc) rfl krf (by subst_vars; decide) hext (fun H2 nx2 hK => zq evr (by exact rfl) rfl (zm hK hokF gq)) ?_;refine zbg ?_;refine zD (v := .int .i64 a.inners[i].2.2) rfl krf (by subst_vars; decide) hext (fun H2 nx2 hK => zq evr (by exact rfl) rfl (zm hK hokF hcT)) ?_;refine z0K ?_;refine OpsL.new (by subst_vars; decide) (zl (l := [(0, .int .i64 a.inners[i].1), (1, .int .i64 a.inners[i].2.2)]) (r := (.slice (some ⟨nx', 0, none⟩) 2 2, .new (.cells [.int .i64 a.inners[i].1, .int .i64 a.inners[i].2.2] 1 none false (some 3)))) (by simp only [zt, ASt.ev, z9, ↓reduceIte, reduceIte, Option.some.injEq, Nat.reduceEqDiff, *]) krf) ?_;have y0 : Ext nx' H' (nx' + 1) (H'.put nx' (.cells [.int .i64 a.inners[i].1, .int .i64 a.inners[i].2.2] 1 none false (some 3))) := zg
    have htwo : RowsAt z59 1 (H'.put nx' (.cells [.int .i64 a.inners[i].1, .int .i64 a.inners[i].2.2] 1 none false (some 3))) (.slice (some ⟨nx', 0, none⟩) 2 2) (z6u a.inners[i]) := by
     refine .inr ⟨⟨nx', 0, none⟩, 2, rfl, fun j hj => ?_⟩;have hj2 : j < 2 := hj;rcases (by omega : j = 0 ∨ j = 1) with rfl | rfl
     ·exact z0j (by show 0 + 0 * 1 + 1 ≤ 2; decide)
     ·exact z0j (by show 0 + 1 * 1 + 1 ≤ 2; decide)
    have hv0 := hv.same y0 hokH (fun b t h => (hob b t h).2);generalize (H'.put nx' (.cells [.int .i64 a.inners[i].1, .int .i64 a.inners[i].2.2] 1 none false (some 3))) = G at *;refine OpsL.nil ⟨hext.trans y0, ?_⟩;refine z0K ?_;refine z1b (bytes := 8) (z := [.int .i64 0]) z2g z3h (by omega) (by subst_vars; decide) hv0 htwo evd evd (fun b t h => by have := (hob b t h).2; omega) (by exact rfl) (by exact rfl) (by exact rfl) (by exact rfl) (by exact rfl) rfl (by show _ + 2 ≤ _; omega) (by omega) ?_;intro u5 nx5 H5 o5 hA5;have hle5 := hA5.le;have hn5 := hext.1;have x5 : Ext (nx + 1) F nx5 H5 := ⟨by omega, fun j hj => by rw [hA5.same j (by omega) (fun b t h => by have := (hob b t h).1; omega), y0.2 j (by omega), hext.2 j hj]⟩
    have hob5 : ∀ b t, o5 = some (b, t) → nx + 1 ≤ b ∧ b < nx5 := fun b t h => by
     obtain ⟨i1, i2⟩ := hA5.blk b t h;rcases i2 with rfl | ⟨t', h'⟩
     ·exact ⟨by omega, i1⟩
     ·have := hob _ _ h'; exact ⟨by omega, i1⟩
    refine OpsL.nil ⟨x5, ?_⟩;refine zfn ?_;refine ⟨x5, ?_⟩;refine OpsR.nil ?_;exact ⟨rfl, _, nx5, H5, o5, u5, rfl, x5, by rw [z63 hlt, ← List.append_assoc]; exact hA5.own, hob5, stp, stp, stp⟩
   ·clear e1 e3 e4 hv hob hext gl
    rintro e st ⟨rfl, tm5, nx5, H5, ob5, v5, rfl, x5, hv5, hob5, e1, e3, e4⟩;refine zhF ?_;exact ⟨i + 1, ⟨_, _, _, ob5, v5, rfl, x5, hv5, hob5, stp, stp, stp, by omega⟩, by omega⟩
  have hi2 : i = a.inners.length := by omega
  subst hi2;rw [List.take_length] at hv;have x2 := hext;clear hi gl e4 hext;refine zgf ?_;refine zu (fun (i : Nat) s => ∃ (tm : Nat → Value) (nx' : Nat) (H' : Heap) (ob : Option (Nat × Nat)) (v : Value), s = ⟨tm, n, H', nx'⟩ ∧ Ext (nx + 1) F nx' H' ∧ RowE z59 1 3 H' ob v ((a.init ++ a.final ++ a.inners.flatMap z6u) ++ (a.opens.take i).flatMap z7k) ∧ (∀ b t, ob = some (b, t) → nx + 1 ≤ b ∧ b < nx') ∧ tm 1 = .pointer (some ⟨nx, 0, none⟩) ∧ tm 3 = v ∧ tm 5 = .int .i64 i ∧ i ≤ a.opens.length) (fun i => a.opens.length - i) 0 ?_ ?_
  ·exact ⟨_, _, _, ob, v, rfl, x2, by simpa using hv, hob, stp, stp, stp, by omega⟩
  clear e1 e3 x2 hv hob;rintro i s ⟨tm, nx', H', ob, v, rfl, hext, hv, hob, e1, e3, e4, hi⟩;have gl := zm hext hokF g4;refine Trip.ok fun hokH => ?_;replace hokH : ∀ id o, H' id = some o → id < nx' := hokH
  repeat (first | (refine z7 (by first | exact omv | exact z6B | exact z1s | exact ofa | exact old) ?_) | refine Trip.seq ?_ | refine zd ?_ | refine Trip.block ?_ | refine z0t (fun _ => ?_) (fun _ => ?_) | (refine Trip.skip ?_; (change Trip _ _ _ _ _)) | (refine OpsL.nil ?_; (change Trip _ _ _ _ _)))
  ·have hlt : i < a.opens.length := by omega
   obtain ⟨q, hq, hc⟩ := z01 ha.opens hlt;have hc0 : zb F ⟨q.block, q.off + (i : Int).toNat * 4, q.spot⟩ (.int .i64 a.opens[i].1) := z2W (j := 0) hc rfl;have hcT : zb F ⟨q.block, q.off + (i : Int).toNat * 4 + 2, q.spot⟩ (.int .i64 a.opens[i].2.2.1) := z2W (j := 2) hc rfl;have gq := g4;rw [hq] at gq
   have hblen : ((a.init ++ a.final ++ a.inners.flatMap z6u) ++ (a.opens.take i).flatMap z7k).length ≤ 100000 := by
    have z1 := z1n (f := z6u) (fun _ => rfl) a.inners;have z2 := z1n (f := z7k) (fun _ => rfl) a.opens;have z3 := z1n (f := z7k) (fun _ => rfl) (a.opens.take i);simp only [List.length_append] at *;rw [z3, List.length_take];omega
   repeat fail
   refine Trip.mono (Q := fun e st => e = .normal ∧ ∃ (tm' : Nat → Value) (nx5 : Nat) (H5 : Heap) (ob5 : Option (Nat × Nat)) (v5 : Value), st = ⟨tm', n, H5, nx5⟩ ∧ Ext (nx + 1) F nx5 H5 ∧ RowE z59 1 3 H5 ob5 v5 ((a.init ++ a.final ++ a.inners.flatMap z6u) ++ (a.opens.take (i + 1)).flatMap z7k) ∧ (∀ b t, ob5 = some (b, t) → nx + 1 ≤ b ∧ b < nx5) ∧ tm' 1 = .pointer (some ⟨nx, 0, none⟩) ∧ tm' 3 = v5 ∧ tm' 5 = .int .i64 i) ?_ ?_
   ·refine z3q [13, 14, 15] (K := fun nx1 H1 => Ext (nx + 1) F nx1 H1) z0N krf krf [0, 1, 2, 3, 4, 5, 6, 7, 8, 9, 10, 11, 12, 13, 14, 15] krf hext ?_
    refine z5I ?_;refine zg3 ?_;refine zD (v := .slice (some q) a.opens.length oc) rfl krf (by subst_vars; decide) hext (fun H2 nx2 hK => zq evr (by exact rfl) rfl (zm hK hokF gq)) ?_;refine zbg ?_;refine zD (v := .int .i64 a.opens[i].1) rfl krf (by subst_vars; decide) hext (fun H2 nx2 hK => zq evr (by exact rfl) rfl (zm hK hokF hc0)) ?_;refine zg3 ?_;refine zD (v := .slice (some q) a.opens.length oc) rfl krf (by subst_vars; decide) hext (fun H2 nx2 hK => zq evr (by exact rfl) rfl (zm hK hokF gq)) ?_;refine zbg ?_;refine zD (v := .int .i64 a.opens[i].2.2.1) rfl krf (by subst_vars; decide) hext (fun H2 nx2 hK => zq evr (by exact rfl) rfl (zm hK hokF hcT)) ?_;refine z0K ?_;refine OpsL.new (by subst_vars; decide) (zl (l := [(0, .int .i64 a.opens[i].1), (1, .int .i64 a.opens[i].2.2.1)]) (r := (.slice (some ⟨nx', 0, none⟩) 2 2, .new (.cells [.int .i64 a.opens[i].1, .int .i64 a.opens[i].2.2.1] 1 none false (some 3)))) (by simp only [zt, ASt.ev, z9, ↓reduceIte, reduceIte, Option.some.injEq, Nat.reduceEqDiff, *]) krf) ?_;have y0 : Ext nx' H' (nx' + 1) (H'.put nx' (.cells [.int .i64 a.opens[i].1, .int .i64 a.opens[i].2.2.1] 1 none false (some 3))) := zg
    have htwo : RowsAt z59 1 (H'.put nx' (.cells [.int .i64 a.opens[i].1, .int .i64 a.opens[i].2.2.1] 1 none false (some 3))) (.slice (some ⟨nx', 0, none⟩) 2 2) (z7k a.opens[i]) := by
     refine .inr ⟨⟨nx', 0, none⟩, 2, rfl, fun j hj => ?_⟩;have hj2 : j < 2 := hj;rcases (by omega : j = 0 ∨ j = 1) with rfl | rfl
     ·exact z0j (by show 0 + 0 * 1 + 1 ≤ 2; decide)
     ·exact z0j (by show 0 + 1 * 1 + 1 ≤ 2; decide)
    have hv0 := hv.same y0 hokH (fun b t h => (hob b t h).2);generalize (H'.put nx' (.cells [.int .i64 a.opens[i].1, .int .i64 a.opens[i].2.2.1] 1 none false (some 3))) = G at *;refine OpsL.nil ⟨hext.trans y0, ?_⟩;refine z0K ?_;refine z1b (bytes := 8) (z := [.int .i64 0]) z2g z3h (by omega) (by subst_vars; decide) hv0 htwo evd evd (fun b t h => by have := (hob b t h).2; omega) (by exact rfl) (by exact rfl) (by exact rfl) (by exact rfl) (by exact rfl) rfl (by show _ + 2 ≤ _; omega) (by omega) ?_;intro u5 nx5 H5 o5 hA5;have hle5 := hA5.le;have hn5 := hext.1;have x5 : Ext (nx + 1) F nx5 H5 := ⟨by omega, fun j hj => by rw [hA5.same j (by omega) (fun b t h => by have := (hob b t h).1; omega), y0.2 j (by omega), hext.2 j hj]⟩
    have hob5 : ∀ b t, o5 = some (b, t) → nx + 1 ≤ b ∧ b < nx5 := fun b t h => by
     obtain ⟨i1, i2⟩ := hA5.blk b t h;rcases i2 with rfl | ⟨t', h'⟩
     ·exact ⟨by omega, i1⟩
     ·have := hob _ _ h'; exact ⟨by omega, i1⟩
    refine OpsL.nil ⟨x5, ?_⟩;refine zfn ?_;refine ⟨x5, ?_⟩;refine OpsR.nil ?_;exact ⟨rfl, _, nx5, H5, o5, u5, rfl, x5, by rw [z63 hlt, ← List.append_assoc]; exact hA5.own, hob5, stp, stp, stp⟩
   ·clear e1 e3 e4 hv hob hext gl
    rintro e st ⟨rfl, tm5, nx5, H5, ob5, v5, rfl, x5, hv5, hob5, e1, e3, e4⟩;refine zhF ?_;exact ⟨i + 1, ⟨_, _, _, ob5, v5, rfl, x5, hv5, hob5, stp, stp, stp, by omega⟩, by omega⟩
  have hi2 : i = a.opens.length := by omega
  subst hi2;rw [List.take_length] at hv;have x2 := hext;clear hi gl e4 hext;refine zgf ?_;refine zu (fun (i : Nat) s => ∃ (tm : Nat → Value) (nx' : Nat) (H' : Heap) (ob : Option (Nat × Nat)) (v : Value), s = ⟨tm, n, H', nx'⟩ ∧ Ext (nx + 1) F nx' H' ∧ RowE z59 1 3 H' ob v ((a.init ++ a.final ++ a.inners.flatMap z6u ++ a.opens.flatMap z7k) ++ (a.closes.take i).flatMap zbd) ∧ (∀ b t, ob = some (b, t) → nx + 1 ≤ b ∧ b < nx') ∧ tm 1 = .pointer (some ⟨nx, 0, none⟩) ∧ tm 3 = v ∧ tm 6 = .int .i64 i ∧ i ≤ a.closes.length) (fun i => a.closes.length - i) 0 ?_ ?_
  ·exact ⟨_, _, _, ob, v, rfl, x2, by simpa using hv, hob, stp, stp, stp, by omega⟩
  clear e1 e3 x2 hv hob;rintro i s ⟨tm, nx', H', ob, v, rfl, hext, hv, hob, e1, e3, e4, hi⟩;have gl := zm hext hokF g5;refine Trip.ok fun hokH => ?_;replace hokH : ∀ id o, H' id = some o → id < nx' := hokH
  repeat (first | (refine z7 (by first | exact omv | exact z6B | exact z1s | exact ofa | exact old) ?_) | refine Trip.seq ?_ | refine zd ?_ | refine Trip.block ?_ | refine z0t (fun _ => ?_) (fun _ => ?_) | (refine Trip.skip ?_; (change Trip _ _ _ _ _)) | (refine OpsL.nil ?_; (change Trip _ _ _ _ _)))
  ·have hlt : i < a.closes.length := by omega
   obtain ⟨q, hq, hc⟩ := z01 ha.closes hlt;have hc0 : zb F ⟨q.block, q.off + (i : Int).toNat * 4, q.spot⟩ (.int .i64 a.closes[i].1) := z2W (j := 0) hc rfl;have hcT : zb F ⟨q.block, q.off + (i : Int).toNat * 4 + 3, q.spot⟩ (.int .i64 a.closes[i].2.2.2) := z2W (j := 3) hc rfl;have gq := g5;rw [hq] at gq
   have hblen : ((a.init ++ a.final ++ a.inners.flatMap z6u ++ a.opens.flatMap z7k) ++ (a.closes.take i).flatMap zbd).length ≤ 100000 := by
    have z1 := z1n (f := z6u) (fun _ => rfl) a.inners;have z2 := z1n (f := z7k) (fun _ => rfl) a.opens;have z3 := z1n (f := zbd) (fun _ => rfl) (a.closes.take i);simp only [List.length_append] at *;rw [z3, List.length_take];omega
   repeat fail
   refine Trip.mono (Q := fun e st => e = .normal ∧ ∃ (tm' : Nat → Value) (nx5 : Nat) (H5 : Heap) (ob5 : Option (Nat × Nat)) (v5 : Value), st = ⟨tm', n, H5, nx5⟩ ∧ Ext (nx + 1) F nx5 H5 ∧ RowE z59 1 3 H5 ob5 v5 ((a.init ++ a.final ++ a.inners.flatMap z6u ++ a.opens.flatMap z7k) ++ (a.closes.take (i + 1)).flatMap zbd) ∧ (∀ b t, ob5 = some (b, t) → nx + 1 ≤ b ∧ b < nx5) ∧ tm' 1 = .pointer (some ⟨nx, 0, none⟩) ∧ tm' 3 = v5 ∧ tm' 6 = .int .i64 i) ?_ ?_
   ·refine z3q [13, 14, 15] (K := fun nx1 H1 => Ext (nx + 1) F nx1 H1) z0N krf krf [0, 1, 2, 3, 4, 5, 6, 7, 8, 9, 10, 11, 12, 13, 14, 15] krf hext ?_
    refine z5I ?_;refine zg3 ?_;refine zD (v := .slice (some q) a.closes.length cc) rfl krf (by subst_vars; decide) hext (fun H2 nx2 hK => zq evr (by exact rfl) rfl (zm hK hokF gq)) ?_;refine zbg ?_;refine zD (v := .int .i64 a.closes[i].1) rfl krf (by subst_vars; decide) hext (fun H2 nx2 hK => zq evr (by exact rfl) rfl (zm hK hokF hc0)) ?_;refine zg3 ?_;refine zD (v := .slice (some q) a.closes.length cc) rfl krf (by subst_vars; decide) hext (fun H2 nx2 hK => zq evr (by exact rfl) rfl (zm hK hokF gq)) ?_;refine zbg ?_;refine zD (v := .int .i64 a.closes[i].2.2.2) rfl krf (by subst_vars; decide) hext (fun H2 nx2 hK => zq evr (by exact rfl) rfl (zm hK hokF hcT)) ?_;refine z0K ?_;refine OpsL.new (by subst_vars; decide) (zl (l := [(0, .int .i64 a.closes[i].1), (1, .int .i64 a.closes[i].2.2.2)]) (r := (.slice (some ⟨nx', 0, none⟩) 2 2, .new (.cells [.int .i64 a.closes[i].1, .int .i64 a.closes[i].2.2.2] 1 none false (some 3)))) (by simp only [zt, ASt.ev, z9, ↓reduceIte, reduceIte, Option.some.injEq, Nat.reduceEqDiff, *]) krf) ?_;have y0 : Ext nx' H' (nx' + 1) (H'.put nx' (.cells [.int .i64 a.closes[i].1, .int .i64 a.closes[i].2.2.2] 1 none false (some 3))) := zg
    have htwo : RowsAt z59 1 (H'.put nx' (.cells [.int .i64 a.closes[i].1, .int .i64 a.closes[i].2.2.2] 1 none false (some 3))) (.slice (some ⟨nx', 0, none⟩) 2 2) (zbd a.closes[i]) := by
     refine .inr ⟨⟨nx', 0, none⟩, 2, rfl, fun j hj => ?_⟩;have hj2 : j < 2 := hj;rcases (by omega : j = 0 ∨ j = 1) with rfl | rfl
     ·exact z0j (by show 0 + 0 * 1 + 1 ≤ 2; decide)
     ·exact z0j (by show 0 + 1 * 1 + 1 ≤ 2; decide)
    have hv0 := hv.same y0 hokH (fun b t h => (hob b t h).2);generalize (H'.put nx' (.cells [.int .i64 a.closes[i].1, .int .i64 a.closes[i].2.2.2] 1 none false (some 3))) = G at *;refine OpsL.nil ⟨hext.trans y0, ?_⟩;refine z0K ?_;refine z1b (bytes := 8) (z := [.int .i64 0]) z2g z3h (by omega) (by subst_vars; decide) hv0 htwo evd evd (fun b t h => by have := (hob b t h).2; omega) (by exact rfl) (by exact rfl) (by exact rfl) (by exact rfl) (by exact rfl) rfl (by show _ + 2 ≤ _; omega) (by omega) ?_;intro u5 nx5 H5 o5 hA5;have hle5 := hA5.le;have hn5 := hext.1;have x5 : Ext (nx + 1) F nx5 H5 := ⟨by omega, fun j hj => by rw [hA5.same j (by omega) (fun b t h => by have := (hob b t h).1; omega), y0.2 j (by omega), hext.2 j hj]⟩
    have hob5 : ∀ b t, o5 = some (b, t) → nx + 1 ≤ b ∧ b < nx5 := fun b t h => by
     obtain ⟨i1, i2⟩ := hA5.blk b t h;rcases i2 with rfl | ⟨t', h'⟩
     ·exact ⟨by omega, i1⟩
     ·have := hob _ _ h'; exact ⟨by omega, i1⟩
    refine OpsL.nil ⟨x5, ?_⟩;refine zfn ?_;refine ⟨x5, ?_⟩;refine OpsR.nil ?_;exact ⟨rfl, _, nx5, H5, o5, u5, rfl, x5, by rw [z63 hlt, ← List.append_assoc]; exact hA5.own, hob5, stp, stp, stp⟩
   ·clear e1 e3 e4 hv hob hext gl
    rintro e st ⟨rfl, tm5, nx5, H5, ob5, v5, rfl, x5, hv5, hob5, e1, e3, e4⟩;refine zhF ?_;exact ⟨i + 1, ⟨_, _, _, ob5, v5, rfl, x5, hv5, hob5, stp, stp, stp, by omega⟩, by omega⟩
  have hi2 : i = a.closes.length := by omega
  subst hi2;rw [List.take_length] at hv;have x2 := hext;clear hi gl e4 hext;have hvi := z0S (hv.at z2g);have hins : z4U a = (a.init ++ a.final ++ a.inners.flatMap z6u ++ a.opens.flatMap z7k ++ a.closes.flatMap zbd).all (stF a.N) := rfl
  have hlen : (a.init ++ a.final ++ a.inners.flatMap z6u ++ a.opens.flatMap z7k ++ a.closes.flatMap zbd).length ≤ 100000 := by
   have z1 := z1n (f := z6u) (fun _ => rfl) a.inners;have z2 := z1n (f := z7k) (fun _ => rfl) a.opens;have z3 := z1n (f := zbd) (fun _ => rfl) a.closes;simp only [List.length_append] at *;omega
  rw [hins];clear hins hv;generalize (a.init ++ a.final ++ a.inners.flatMap z6u ++ a.opens.flatMap z7k ++ a.closes.flatMap zbd) = L at *;obtain ⟨va, vk, rfl⟩ := hvi.slice;have gN := zm x2 hokF g0;refine zgf ?_;refine zu (fun (i : Nat) s => ∃ (tm : Nat → Value), s = ⟨tm, n, H', nx'⟩ ∧ tm 1 = .pointer (some ⟨nx, 0, none⟩) ∧ tm 3 = .slice va L.length vk ∧ tm 7 = .int .i64 i ∧ i ≤ L.length ∧ (L.take i).all (stF a.N) = true) (fun i => L.length - i) 0 ?_ ?_
  ·exact ⟨_, rfl, stp, stp, stp, by omega, rfl⟩
  clear e1 e3;rintro i s ⟨tm, rfl, e1, e3, e7, hi, hall⟩
  repeat (first | (refine z7 (by first | exact omv | exact z6B | exact z1s) ?_) | refine Trip.seq ?_ | refine zd ?_ | refine Trip.block ?_ | refine z0t (fun _ => ?_) (fun _ => ?_) | (refine Trip.skip ?_; (change Trip _ _ _ _ _)) | (refine OpsL.nil ?_; (change Trip _ _ _ _ _)))
  ·have hlt : i < L.length := by omega
   obtain ⟨q, rfl, hc⟩ := z0k hvi hlt
   have hst : stF a.N L[i] = (!(decide (L[i] < 0)) && decide (L[i] < a.N)) := by
    unfold stF;rw [Bool.eq_iff_iff];simp
   repeat fail
   refine Trip.mono (Q := fun e st => e = .normal ∧ ∃ tm' : Nat → Value, st = ⟨tm', n, H', nx'⟩ ∧ tm' 1 = .pointer (some ⟨nx, 0, none⟩) ∧ tm' 3 = .slice (some q) L.length vk ∧ tm' 7 = .int .i64 i ∧ tm' 100 = .bool (!stF a.N L[i])) ?_ ?_
   ·refine OpsR.drawn [] (K := fun _ _ => True) z0N krf krf [0, 1, 2, 3, 4, 5, 6, 7, 8, 9, 10, 11, 12, 13] krf trivial ?_
    refine z9y ?_;refine zbb ?_;refine zg1 ?_;refine zaz ?_;refine zg1 ?_;by_cases h0 : L[i] < 0
    ·refine z0c ?_ (c := h0)
     refine z4f ?_;refine zg4 ?_;refine zge ?_;refine zg1 ?_;refine zge ?_;refine zg1 ?_;refine zge ?_;refine zg1 ?_;refine zfc ?_;refine z5p ?_;refine OpsR.nil ?_;exact ⟨rfl, _, rfl, stp, stp, stp, by simp [z9, hst, h0]⟩
    ·refine z17 ?_ (c := h0)
     refine z4f ?_;refine zg4 ?_;refine zfe ?_;refine zg1 ?_;refine zfe ?_;refine zg1 ?_
     repeat (first | refine z7 (by exact z4s) ?_ | (refine OpsL.nil ?_; (dsimp only)) | refine zj ?_)
     refine zg1 ?_
     repeat (first | refine z7 (by exact old) ?_ | (refine OpsL.nil ?_; (skip)) | refine zj ?_)
     refine zg1 ?_;refine zgu ?_;refine zj ?_;by_cases h1 : a.N ≤ L[i]
     ·refine z2X ?_ (c := h1)
      refine z4f ?_;refine zg1 ?_;refine zdH ?_;refine OpsR.nil ?_;have h2 : ¬ L[i] < a.N := by omega
      exact ⟨rfl, _, rfl, stp, stp, stp, by simp [z9, hst, h0, h2]⟩
     ·refine z2x ?_ (c := h1)
      refine z4f ?_;refine zg1 ?_;refine zdH ?_;refine OpsR.nil ?_;have h2 : L[i] < a.N := by omega
      exact ⟨rfl, _, rfl, stp, stp, stp, by simp [z9, hst, h0, h2]⟩
   ·clear e1 e3 e7
    rintro e st ⟨rfl, tm', rfl, e1, e3, e7, e100⟩;cases hs : stF a.N L[i]
    ·rw [hs] at e100
     (change Trip _ _ _ _ _)
     repeat fail
     refine zg5 ?_;exact ⟨.inr rfl, _, zh, by simp [z9, z1v hlt hs], hx0.trans x2⟩
    ·rw [hs] at e100
     (change Trip _ _ _ _ _)
     repeat fail
     refine zg2 ?_;exact ⟨i + 1, ⟨_, rfl, stp, stp, stp, by omega, z2h hlt hall hs⟩, by omega⟩
  ·repeat (first | refine z7 (by exact z0x) ?_ | refine Trip.seq ?_ | refine zd ?_ | (refine Trip.exit ?_; ((repeat (refine zM ?_)); change Trip _ _ _ _ _)) | (refine Trip.ret ?_; (dsimp only)) | (refine OpsL.nil ?_; (change Trip _ _ _ _ _)))
   have hi2 : i = L.length := by omega
   subst hi2;rw [List.take_length] at hall;exact ⟨.inr rfl, _, zh, by simp [z9, hall], hx0.trans x2⟩
end Go.Proofs.YteplpegfcpmflaaGreat
namespace Go.Am
open Go.RowKit
theorem z8L {a : Aut} (h : z4U a = true) : (∀ x ∈ a.init, 0 ≤ x ∧ x < a.N) ∧ (∀ x ∈ a.final, 0 ≤ x ∧ x < a.N) ∧ (∀ r ∈ a.opens, (0 ≤ r.1 ∧ r.1 < a.N) ∧ 0 ≤ r.2.2.1 ∧ r.2.2.1 < a.N) ∧ (∀ r ∈ a.closes, (0 ≤ r.1 ∧ r.1 < a.N) ∧ 0 ≤ r.2.2.2 ∧ r.2.2.2 < a.N) ∧ ∀ r ∈ a.inners, (0 ≤ r.1 ∧ r.1 < a.N) ∧ 0 ≤ r.2.2 ∧ r.2.2 < a.N := by
 have key : ∀ x, stF a.N x = true → 0 ≤ x ∧ x < a.N := fun x hx => by simpa [stF] using hx
 have h' := List.all_eq_true.1 h;simp only [List.mem_append, List.mem_flatMap] at h';refine ⟨fun x hx => key x (h' x ?_), fun x hx => key x (h' x ?_), fun r hr => ⟨key _ (h' _ ?_), key _ (h' _ ?_)⟩, fun r hr => ⟨key _ (h' _ ?_), key _ (h' _ ?_)⟩, fun r hr => ⟨key _ (h' _ ?_), key _ (h' _ ?_)⟩⟩
 ·exact .inl (.inl (.inl (.inl hx)))
 ·exact .inl (.inl (.inl (.inr hx)))
 ·exact .inl (.inr ⟨r, hr, by simp [z7k]⟩)
 ·exact .inl (.inr ⟨r, hr, by simp [z7k]⟩)
 ·exact .inr ⟨r, hr, by simp [zbd]⟩
 ·exact .inr ⟨r, hr, by simp [zbd]⟩
 ·exact .inl (.inl (.inr ⟨r, hr, by simp [z6u]⟩))
 ·exact .inl (.inl (.inr ⟨r, hr, by simp [z6u]⟩))
theorem z2N {α : Type} {P : α → Prop} {l : List α} {i : Nat} (h : i < l.length) : (∃ x ∈ l.take (i + 1), P x) ↔ (∃ x ∈ l.take i, P x) ∨ P l[i] := by
 rw [List.take_succ_eq_append_getElem h];simp only [List.mem_append, List.mem_singleton];constructor
 ·rintro ⟨x, hx | rfl, hp⟩
  ·exact .inl ⟨x, hx, hp⟩
  ·exact .inr hp
 ·rintro (⟨x, hx, hp⟩ | hp)
  ·exact ⟨x, .inl hx, hp⟩
  ·exact ⟨_, .inr rfl, hp⟩
def lvV (b M : Nat) (s : Int) : List Value := [.slice (some ⟨b, 0, none⟩) M M, .int .i64 s]
end Go.Am
namespace Go.Proofs.YteplpegfcpmflaaGreat
open Go.RowKit Go.Am
attribute [local irreducible] aop OpsL Trip zC z36 OpsK OpsR
abbrev z0D (H : Heap) (b N : Nat) (R : Int → Int → Prop) : Prop := LRow H 4 b N R
theorem zan : Am.z0F Tryz.prog 55 := ⟨Tryz.f55, Tryz.func55, by kernel_rfl, by kernel_rfl⟩
def z13 : List Value := [.slice none 0 0, .int .i64 0]
theorem zhm (W0 : World) {nx : Nat} {H : Heap} {a : Aut} {vi vf vo vc vn : Value} {N M rb rn : Nat} {below now : LvT} (sym : Int) (ha : AutIn H a vi vf vo vc vn) (hn : AutLen a) (hin : z4U a = true) (hN : a.N = (N : Int)) (hN2 : N ≤ 200) (hM : N * N = M) (hb : z0D H rb N below.row) (hw : z0D H rn N now.row) :
  ACalls Tryz.prog W0 55 [.agg (zA a vi vf vo vc vn).toArray, .agg (lvV rb M below.by_).toArray, .agg (lvV rn M now.by_).toArray, .int .i64 sym] nx H fun v nx' H' => ∃ b, v = .agg (lvV b M below.by_).toArray ∧ nx ≤ b ∧ b < nx' ∧ z0D H' b N (zbm a below now sym).row ∧ Ext nx H nx' H' := by
 obtain ⟨oa, oc, rfl⟩ := ha.opens.slice;obtain ⟨ca, cc, rfl⟩ := ha.closes.slice;obtain ⟨-, -, io, ic, -⟩ := z8L hin;rw [hN] at io ic;have hMi : (N : Int) * (N : Int) = (M : Int) := by rw [← hM]; simp
 have hM2 : M ≤ 40000 := by rw [← hM]; exact Nat.mul_le_mul hN2 hN2
 refine ze (fn := Tryz.f55) (c := _) Tryz.func55 rfl (fun tm n hn0 htm => ?_);have e0 : tm 0 = .agg (zA a vi vf (.slice oa a.opens.length oc) (.slice ca a.closes.length cc) vn).toArray := htm 0;have e1 : tm 1 = .agg (lvV rb M below.by_).toArray := htm 1;have e2 : tm 2 = .agg (lvV rn M now.by_).toArray := htm 2;have e3 : tm 3 = .int .i64 sym := htm 3;clear htm;replace hn0 : n = 104 := hn0;refine Trip.ok fun hok => ?_;replace hok : ∀ id o, H id = some o → id < nx := hok;have hrb : rb < nx := by obtain ⟨cs, q, _⟩ := hb; exact hok _ _ q
 have hrn : rn < nx := by obtain ⟨cs, q, _⟩ := hw; exact hok _ _ q
 refine z5o ?_;refine OpsL.new (by subst_vars; decide) (zW evr) ?_;refine OpsL.new (by subst_vars; decide) (zW evr) ?_;refine OpsL.new (by subst_vars; decide) (zW evr) ?_;refine OpsL.new (by subst_vars; decide) (zw (l := z13) krf) ?_;obtain ⟨G, hG⟩ : ∃ G, G = (((H.put nx (.cells (Value.agg (zA a vi vf (.slice oa a.opens.length oc) (.slice ca a.closes.length cc) vn).toArray).cells.toList 0 none false (some 30))).put (nx + 1) (.cells (Value.agg (lvV rb M below.by_).toArray).cells.toList 0 none false (some 90))).put (nx + 1 + 1) (.cells (Value.agg (lvV rn M now.by_).toArray).cells.toList 0 none false (some 90))).put (nx + 1 + 1 + 1) (.cells z13 0 none false (some 90)) := ⟨_, rfl⟩;obtain ⟨n0, hn00⟩ : ∃ q, q = nx + 1 + 1 + 1 + 1 := ⟨_, rfl⟩;have hx0 : Ext nx H n0 G := by rw [hG, hn00]; exact ((zg.trans zg).trans zg).trans zg
 have ok0 : ∀ id o, G id = some o → id < n0 := by rw [hG, hn00]; exact zB (zB (zB (zB hok)))
 have g0 : G nx = some (.cells (zA a vi vf (.slice oa a.opens.length oc) (.slice ca a.closes.length cc) vn) 0 none false (some 30)) := by rw [hG, z5 (by omega), z5 (by omega), z5 (by omega), z6]; rfl
 have g1 : G (nx + 1) = some (.cells (lvV rb M below.by_) 0 none false (some 90)) := by rw [hG, z5 (by omega), z5 (by omega), z6]; rfl
 have g2 : G (nx + 1 + 1) = some (.cells (lvV rn M now.by_) 0 none false (some 90)) := by rw [hG, z5 (by omega), z6]; rfl
 have g3 : G (nx + 1 + 1 + 1) = some (.cells z13 0 none false (some 90)) := by rw [hG, z6]
 rw [← hG, ← hn00];clear hG e0 e1 e2;have c0 : zb G ⟨nx, 0, none⟩ (.int .i64 (N : Int)) := by rw [← hN]; exact z8 g0 rfl
 refine zhx ?_;refine Trip.mono (Q := fun e st => e = .normal ∧ ∃ (tm' : Nat → Value) (X B n1 : Nat) (H1 : Heap), st = ⟨tm', n, H1, n1⟩ ∧ Ext n0 G n1 H1 ∧ (∀ id o, H1 id = some o → id < n1) ∧ n0 ≤ X ∧ X < n1 ∧ n0 ≤ B ∧ B < n1 ∧ X ≠ B ∧ H1 X = some (.cells (lvV B M below.by_) 0 none false (some 90)) ∧ z0D H1 B N (fun _ _ => False) ∧ tm' 3 = .int .i64 sym ∧ tm' 4 = .pointer (some ⟨nx, 0, none⟩) ∧ tm' 5 = .pointer (some ⟨nx + 1, 0, none⟩) ∧ tm' 6 = .pointer (some ⟨nx + 1 + 1, 0, none⟩) ∧ tm' 8 = .pointer (some ⟨nx + 1 + 1 + 1, 0, none⟩) ∧ tm' 9 = .int .i64 (N : Int) ∧ tm' 10 = .pointer (some ⟨X, 0, none⟩)) ?_ ?_
 ·refine OpsR.drawn [3, 6, 7, 8] (K := fun nx1 H1 => Ext n0 G nx1 H1) z0N krf krf [0, 1, 2, 4, 5, 3, 7, 6, 8] krf Ext.refl ?_
  refine z5I ?_;refine zg4 ?_;refine z7 (v := .int .i64 (M : Int)) (by rw [← hMi]; exact z7u evd evd (by rw [hMi]; omega)) ?_;refine OpsL.nil ?_;refine zg3 ?_;refine zD (v := .int .i64 below.by_) rfl krf (by subst_vars; decide) Ext.refl (fun HH nn hK => zq evr (by exact rfl) rfl (by rw [Nat.zero_add]; exact z8 ((hK.2 (nx + 1) (by omega)).trans g1) rfl)) ?_;refine z15 krf ?_ ?_
  ·refine zJ rfl rfl ?_
   refine OpsL.new (v := .slice (some ⟨n0, 0, none⟩) M M) (o := (.cells (rep M [.bool false]) 1 none false (some 4))) (by subst_vars; decide) (z1I evd evd (z0R (el := 4) (by exact rfl) (by exact rfl) (by exact rfl) (by exact rfl) (by omega))) ?_;obtain ⟨HL1, hHL1⟩ : ∃ Q, Q = G.put n0 (.cells (rep M [.bool false]) 1 none false (some 4)) := ⟨_, rfl⟩;obtain ⟨nL1, hnL1⟩ : ∃ q, q = n0 + 1 := ⟨_, rfl⟩;have xL1 : Ext n0 G nL1 HL1 := by rw [hnL1, hHL1]; exact zg
   have kL1 : ∀ id o, HL1 id = some o → id < nL1 := by rw [hHL1, hnL1]; exact zB ok0
   have fL1 : Ext n0 G nL1 HL1 := (Ext.refl : Ext n0 G n0 G).trans xL1;have lL1 := xL1.1;have rL1 : z0D HL1 n0 N (fun _ _ => False) := by rw [hHL1]; exact LRow.new hM.symm
   rw [← hHL1, ← hnL1];clear hHL1;refine OpsL.nil ⟨fL1, ?_⟩;refine z15 krf ?_ ?_
   ·refine zJ rfl rfl ?_
    refine OpsL.new (by subst_vars; decide) (zw (l := z13) krf) ?_;obtain ⟨HL2, hHL2⟩ : ∃ Q, Q = HL1.put nL1 (.cells z13 0 none false (some 90)) := ⟨_, rfl⟩;obtain ⟨nL2, hnL2⟩ : ∃ q, q = nL1 + 1 := ⟨_, rfl⟩;have xL2 : Ext nL1 HL1 nL2 HL2 := by rw [hnL2, hHL2]; exact zg
    have kL2 : ∀ id o, HL2 id = some o → id < nL2 := by rw [hHL2, hnL2]; exact zB kL1
    have fL2 : Ext n0 G nL2 HL2 := fL1.trans xL2;have lL2 := xL2.1;have gL2 : HL2 nL1 = some (.cells z13 0 none false (some 90)) := by rw [hHL2, z6]
    have rL2 := rL1.same (xL2.2 n0 (by omega));rw [← hHL2, ← hnL2];clear hHL2;refine OpsL.nil ⟨fL2, ?_⟩;refine z0K ?_;refine z7 (zy (v := .agg (lvV n0 M below.by_).toArray) (l := [(0, .slice (some ⟨n0, 0, none⟩) M M), (1, .int .i64 below.by_)]) (by simp only [zt, ASt.ev, z9, ↓reduceIte, reduceIte, Option.some.injEq, Nat.reduceEqDiff, zY, zk, *]) krf) ?_;refine OpsL.nil ⟨fL2, ?_⟩;refine z0K ?_;refine OpsL.upd (zp (k := 2) (u := .agg (lvV n0 M below.by_).toArray) evd evd (by exact rfl) rfl (o := .cells (lvV n0 M below.by_) 0 none false (some 90)) (zz (vs := lvV n0 M below.by_) gL2 rfl rfl)) ?_;have eS : Ext n0 G nL2 (HL2.put nL1 (.cells (lvV n0 M below.by_) 0 none false (some 90))) := ⟨by omega, fun j hj => by rw [z5 (by omega)]; exact fL2.2 j hj⟩;refine OpsL.nil ⟨eS, ?_⟩;refine OpsR.nil ?_;exact ⟨rfl, _, nL1, n0, _, _, rfl, eS, zL kL2 gL2, by omega, by omega, by omega, by omega, by omega, z6, rL2.same (z5 (by first | omega | (dsimp only; omega))), stp, stp, stp, stp, stp, stp, stp⟩
   ·refine zJ rfl rfl ?_
    refine z7 (zy (v := .agg (lvV n0 M below.by_).toArray) (l := [(0, .slice (some ⟨n0, 0, none⟩) M M), (1, .int .i64 below.by_)]) (by simp only [zt, ASt.ev, z9, ↓reduceIte, reduceIte, Option.some.injEq, Nat.reduceEqDiff, zY, zk, *]) krf) ?_;refine OpsL.nil ⟨fL1, ?_⟩;refine z0K ?_;refine OpsL.new (by subst_vars; decide) (zw (l := z13) krf) ?_;obtain ⟨HL3, hHL3⟩ : ∃ Q, Q = HL1.put nL1 (.cells z13 0 none false (some 90)) := ⟨_, rfl⟩;obtain ⟨nL3, hnL3⟩ : ∃ q, q = nL1 + 1 := ⟨_, rfl⟩;have xL3 : Ext nL1 HL1 nL3 HL3 := by rw [hnL3, hHL3]; exact zg
    have kL3 : ∀ id o, HL3 id = some o → id < nL3 := by rw [hHL3, hnL3]; exact zB kL1
    have fL3 : Ext n0 G nL3 HL3 := fL1.trans xL3;have lL3 := xL3.1;have gL3 : HL3 nL1 = some (.cells z13 0 none false (some 90)) := by rw [hHL3, z6]
    have rL3 := rL1.same (xL3.2 n0 (by omega));rw [← hHL3, ← hnL3];clear hHL3;refine OpsL.nil ⟨fL3, ?_⟩;refine z0K ?_;refine OpsL.upd (zp (k := 2) (u := .agg (lvV n0 M below.by_).toArray) evd evd (by exact rfl) rfl (o := .cells (lvV n0 M below.by_) 0 none false (some 90)) (zz (vs := lvV n0 M below.by_) gL3 rfl rfl)) ?_;have eS : Ext n0 G nL3 (HL3.put nL1 (.cells (lvV n0 M below.by_) 0 none false (some 90))) := ⟨by omega, fun j hj => by rw [z5 (by omega)]; exact fL3.2 j hj⟩;refine OpsL.nil ⟨eS, ?_⟩;refine OpsR.nil ?_;exact ⟨rfl, _, nL1, n0, _, _, rfl, eS, zL kL3 gL3, by omega, by omega, by omega, by omega, by omega, z6, rL3.same (z5 (by first | omega | (dsimp only; omega))), stp, stp, stp, stp, stp, stp, stp⟩
  ·refine zJ rfl rfl ?_
   refine OpsL.new (by subst_vars; decide) (zw (l := z13) krf) ?_;obtain ⟨HL4, hHL4⟩ : ∃ Q, Q = G.put n0 (.cells z13 0 none false (some 90)) := ⟨_, rfl⟩;obtain ⟨nL4, hnL4⟩ : ∃ q, q = n0 + 1 := ⟨_, rfl⟩;have xL4 : Ext n0 G nL4 HL4 := by rw [hnL4, hHL4]; exact zg
   have kL4 : ∀ id o, HL4 id = some o → id < nL4 := by rw [hHL4, hnL4]; exact zB ok0
   have fL4 : Ext n0 G nL4 HL4 := (Ext.refl : Ext n0 G n0 G).trans xL4;have lL4 := xL4.1;have gL4 : HL4 n0 = some (.cells z13 0 none false (some 90)) := by rw [hHL4, z6]
   rw [← hHL4, ← hnL4];clear hHL4;refine OpsL.nil ⟨fL4, ?_⟩;refine z0K ?_;refine OpsL.new (v := .slice (some ⟨nL4, 0, none⟩) M M) (o := (.cells (rep M [.bool false]) 1 none false (some 4))) (by subst_vars; decide) (z1I evd evd (z0R (el := 4) (by exact rfl) (by exact rfl) (by exact rfl) (by exact rfl) (by omega))) ?_;obtain ⟨HL5, hHL5⟩ : ∃ Q, Q = HL4.put nL4 (.cells (rep M [.bool false]) 1 none false (some 4)) := ⟨_, rfl⟩;obtain ⟨nL5, hnL5⟩ : ∃ q, q = nL4 + 1 := ⟨_, rfl⟩;have xL5 : Ext nL4 HL4 nL5 HL5 := by rw [hnL5, hHL5]; exact zg
   have kL5 : ∀ id o, HL5 id = some o → id < nL5 := by rw [hHL5, hnL5]; exact zB kL4
   have fL5 : Ext n0 G nL5 HL5 := fL4.trans xL5;have lL5 := xL5.1;have rL5 : z0D HL5 nL4 N (fun _ _ => False) := by rw [hHL5]; exact LRow.new hM.symm
   have gL5 := (xL5.2 n0 (by omega)).trans gL4;rw [← hHL5, ← hnL5];clear hHL5;refine OpsL.nil ⟨fL5, ?_⟩;refine z0K ?_;refine z7 (zy (v := .agg (lvV nL4 M below.by_).toArray) (l := [(0, .slice (some ⟨nL4, 0, none⟩) M M), (1, .int .i64 below.by_)]) (by simp only [zt, ASt.ev, z9, ↓reduceIte, reduceIte, Option.some.injEq, Nat.reduceEqDiff, zY, zk, *]) krf) ?_;refine OpsL.nil ⟨fL5, ?_⟩;refine z0K ?_;refine OpsL.upd (zp (k := 2) (u := .agg (lvV nL4 M below.by_).toArray) evd evd (by exact rfl) rfl (o := .cells (lvV nL4 M below.by_) 0 none false (some 90)) (zz (vs := lvV nL4 M below.by_) gL5 rfl rfl)) ?_;have eS : Ext n0 G nL5 (HL5.put n0 (.cells (lvV nL4 M below.by_) 0 none false (some 90))) := ⟨by omega, fun j hj => by rw [z5 (by omega)]; exact fL5.2 j hj⟩;refine OpsL.nil ⟨eS, ?_⟩;refine OpsR.nil ?_;exact ⟨rfl, _, n0, nL4, _, _, rfl, eS, zL kL5 gL5, by omega, by omega, by omega, by omega, by omega, z6, rL5.same (z5 (by first | omega | (dsimp only; omega))), stp, stp, stp, stp, stp, stp, stp⟩
 rintro e st ⟨rfl, tm1, X, B, n1, H1, rfl, x1, ok1, hX0, hX1, hB0, hB1, hXB, gX, hr1, e3, e4, e5, e6, e8, e9, e10⟩;have g01 := (x1.2 nx (by omega)).trans g0;have g11 := (x1.2 (nx + 1) (by omega)).trans g1;have g21 := (x1.2 (nx + 1 + 1) (by omega)).trans g2;have g31 := (x1.2 (nx + 1 + 1 + 1) (by omega)).trans g3;have hxH := hx0.trans x1;have hle1 := x1.1;clear g0 g1 g2 g3 ok0 hx0 c0 x1;have q4 := hn.opens;have q5 := hn.closes;refine z6y ?_;refine Trip.mono (Q := fun e st => e = .exit 0 ∧ ∃ (tm' : Nat → Value) (m : Nat) (J : Heap), st = ⟨tm', n, J, m⟩ ∧ n1 ≤ m ∧ (∀ j, j < n1 → j ≠ B → J j = H1 j) ∧ z0D J B N (zbm a below now sym).row ∧ tm' 8 = .pointer (some ⟨nx + 1 + 1 + 1, 0, none⟩) ∧ tm' 10 = .pointer (some ⟨X, 0, none⟩)) ?_ ?_
 ·refine zu (fun (i : Nat) st => ∃ (tm' : Nat → Value) (m : Nat) (J : Heap), st = ⟨tm', n, J, m⟩ ∧ n1 ≤ m ∧ (∀ j, j < n1 → j ≠ B → J j = H1 j) ∧ (∀ id o, J id = some o → id < m) ∧ z0D J B N (fun p q => ∃ o ∈ a.opens.take i, o.2.1 = now.by_ ∧ ∃ c ∈ a.closes, c.2.1 = sym ∧ c.2.2.1 = o.2.2.2 ∧ now.row o.2.2.1 c.1 ∧ c.2.2.2 = q ∧ below.row p o.1) ∧ tm' 3 = .int .i64 sym ∧ tm' 4 = .pointer (some ⟨nx, 0, none⟩) ∧ tm' 5 = .pointer (some ⟨nx + 1, 0, none⟩) ∧ tm' 6 = .pointer (some ⟨nx + 1 + 1, 0, none⟩) ∧ tm' 8 = .pointer (some ⟨nx + 1 + 1 + 1, 0, none⟩) ∧ tm' 9 = .int .i64 (N : Int) ∧ tm' 10 = .pointer (some ⟨X, 0, none⟩) ∧ tm' 11 = .int .i64 i ∧ i ≤ a.opens.length) (fun i => a.opens.length - i) 0 ?_ ?_
  ·exact ⟨_, _, _, rfl, Nat.le_refl _, fun _ _ _ => rfl, ok1, hr1.iff fun p q _ _ _ _ => by simp, stp, stp, stp, stp, stp, stp, stp, stp, Nat.zero_le _⟩
  ·rintro i st ⟨tm', m, J, rfl, hm1, fr, okJ, hr, e3, e4, e5, e6, e8, e9, e10, e11, hi⟩
   have gJ := (fr nx (by omega) (by omega)).trans g01;have ca4 : zb J ⟨nx, 4, none⟩ (.slice oa a.opens.length oc) := z8 gJ rfl;by_cases hlt : i < a.opens.length
   ·have hxJ : Ext nx H m J := ⟨by omega, fun j hj => (fr j (by omega) (by omega)).trans (hxH.2 j hj)⟩
    obtain ⟨po, hpo, gr⟩ := z01 (ha.ext hxJ hok).opens hlt;subst hpo;obtain ⟨o, ho⟩ : ∃ o, a.opens[i] = o := ⟨_, rfl⟩;have hom : o ∈ a.opens := by rw [← ho]; exact List.getElem_mem hlt
    obtain ⟨⟨f0, f1⟩, t0, t1⟩ := io o hom;rw [ho] at gr;refine zgv ?_;refine z7 (za (k := 4) (vs := Go.Am.e4 o) evr (by exact rfl) rfl (by exact rfl) gr) ?_;refine OpsL.new (by subst_vars; decide) (zw (l := [.int .i64 0, .int .i64 0, .int .i64 0, .int .i64 0]) krf) ?_;refine OpsL.upd (zp (k := 4) (u := .agg (Go.Am.e4 o).toArray) evd evd (by exact rfl) rfl (o := .cells (Go.Am.e4 o) 0 none false (some 43)) (zz (vs := (Go.Am.e4 o)) z6 rfl rfl)) ?_;obtain ⟨G4, hG4⟩ : ∃ G0, G0 = (J.put m (.cells [.int .i64 0, .int .i64 0, .int .i64 0, .int .i64 0] 0 none false (some 43))).put m (.cells (Go.Am.e4 o) 0 none false (some 43)) := ⟨_, rfl⟩;have xG4 : Ext m J (m + 1) G4 := ⟨Nat.le_succ _, fun j hj => by rw [hG4, z5 (by omega), z5 (by omega)]⟩;have kG4 : ∀ id o, G4 id = some o → id < m + 1 := by rw [hG4]; exact zL (zB okJ) z6
    have bG4 : G4 m = some (.cells (Go.Am.e4 o) 0 none false (some 43)) := by rw [hG4, z6]
    first | rw [← hG4] | skip
    clear hG4;clear gr;have hX4 := (xG4.2 X (by omega)).trans ((fr X (by omega) hXB).trans gX);have h04 := (xG4.2 nx (by omega)).trans gJ;have h14 := (xG4.2 (nx + 1) (by omega)).trans ((fr (nx + 1) (by omega) (by omega)).trans g11);have h24 := (xG4.2 (nx + 1 + 1) (by omega)).trans ((fr (nx + 1 + 1) (by omega) (by omega)).trans g21);have hr4 := hr.same (xG4.2 B (by omega));have hx4 := hxJ.trans xG4;have co1 : zb G4 ⟨m, 1, none⟩ (.int .i64 o.2.1) := z8 bG4 rfl;have cn1 : zb G4 ⟨nx + 1 + 1, 1, none⟩ (.int .i64 now.by_) := z8 h24 rfl;have fr4 : ∀ j, j < n1 → j ≠ B → G4 j = H1 j := fun j h1 h2 => (xG4.2 j (by omega)).trans (fr j h1 h2);clear hr gJ hxJ ca4;refine zhs ?_;by_cases ms : o.2.1 = now.by_
    ·refine z16 ?_ (c := ms)
     refine z5K ?_;refine zfi ?_;refine Trip.mono (Q := fun e st => e = .exit 2 ∧ ∃ (tm' : Nat → Value) (m' : Nat) (J' : Heap), st = ⟨tm', n, J', m'⟩ ∧ m + 1 ≤ m' ∧ (∀ j, j < m + 1 → j ≠ B → J' j = G4 j) ∧ (∀ id o, J' id = some o → id < m') ∧ z0D J' B N (fun p q => (∃ o ∈ a.opens.take i, o.2.1 = now.by_ ∧ ∃ c ∈ a.closes, c.2.1 = sym ∧ c.2.2.1 = o.2.2.2 ∧ now.row o.2.2.1 c.1 ∧ c.2.2.2 = q ∧ below.row p o.1) ∨ ∃ c ∈ a.closes, c.2.1 = sym ∧ c.2.2.1 = o.2.2.2 ∧ now.row o.2.2.1 c.1 ∧ c.2.2.2 = q ∧ below.row p o.1) ∧ tm' 3 = .int .i64 sym ∧ tm' 4 = .pointer (some ⟨nx, 0, none⟩) ∧ tm' 5 = .pointer (some ⟨nx + 1, 0, none⟩) ∧ tm' 6 = .pointer (some ⟨nx + 1 + 1, 0, none⟩) ∧ tm' 8 = .pointer (some ⟨nx + 1 + 1 + 1, 0, none⟩) ∧ tm' 9 = .int .i64 (N : Int) ∧ tm' 10 = .pointer (some ⟨X, 0, none⟩) ∧ tm' 11 = .int .i64 i) ?_ ?_
     ·refine zu (fun (k : Nat) st => ∃ (tm' : Nat → Value) (m' : Nat) (J' : Heap), st = ⟨tm', n, J', m'⟩ ∧ m + 1 ≤ m' ∧ (∀ j, j < m + 1 → j ≠ B → J' j = G4 j) ∧ (∀ id o, J' id = some o → id < m') ∧ z0D J' B N (fun p q => (∃ o ∈ a.opens.take i, o.2.1 = now.by_ ∧ ∃ c ∈ a.closes, c.2.1 = sym ∧ c.2.2.1 = o.2.2.2 ∧ now.row o.2.2.1 c.1 ∧ c.2.2.2 = q ∧ below.row p o.1) ∨ ∃ c ∈ a.closes.take k, c.2.1 = sym ∧ c.2.2.1 = o.2.2.2 ∧ now.row o.2.2.1 c.1 ∧ c.2.2.2 = q ∧ below.row p o.1) ∧ tm' 3 = .int .i64 sym ∧ tm' 4 = .pointer (some ⟨nx, 0, none⟩) ∧ tm' 5 = .pointer (some ⟨nx + 1, 0, none⟩) ∧ tm' 6 = .pointer (some ⟨nx + 1 + 1, 0, none⟩) ∧ tm' 8 = .pointer (some ⟨nx + 1 + 1 + 1, 0, none⟩) ∧ tm' 9 = .int .i64 (N : Int) ∧ tm' 10 = .pointer (some ⟨X, 0, none⟩) ∧ tm' 11 = .int .i64 i ∧ tm' 12 = .pointer (some ⟨m, 0, none⟩) ∧ tm' 13 = .int .i64 k ∧ k ≤ a.closes.length) (fun k => a.closes.length - k) 0 ?_ ?_
      ·exact ⟨_, _, _, rfl, Nat.le_refl _, fun _ _ _ => rfl, kG4, hr4.iff fun p q _ _ _ _ => by simp, stp, stp, stp, stp, stp, stp, stp, stp, stp, stp, Nat.zero_le _⟩
      ·rintro k st ⟨tm', m', J', rfl, hm', fr', okJ', hr', e3, e4, e5, e6, e8, e9, e10, e11, e12, e13, hk⟩
       have hJ0 := (fr' nx (by omega) (by omega)).trans h04;have ca5 : zb J' ⟨nx, 5, none⟩ (.slice ca a.closes.length cc) := z8 hJ0 rfl;by_cases hlk : k < a.closes.length
       ·have hxJ' : Ext nx H m' J' := ⟨by omega, fun j hj => (fr' j (by omega) (by omega)).trans (hx4.2 j hj)⟩
        obtain ⟨pc, hpc, gr⟩ := z01 (ha.ext hxJ' hok).closes hlk;subst hpc;obtain ⟨c, hc⟩ : ∃ c, a.closes[k] = c := ⟨_, rfl⟩;have hcm : c ∈ a.closes := by rw [← hc]; exact List.getElem_mem hlk
        obtain ⟨⟨d0, d1⟩, u0, u1⟩ := ic c hcm;rw [hc] at gr;refine zgv ?_;refine z7 (za (k := 4) (vs := Go.Am.e4 c) evr (by exact rfl) rfl (by exact rfl) gr) ?_;refine OpsL.new (by subst_vars; decide) (zw (l := [.int .i64 0, .int .i64 0, .int .i64 0, .int .i64 0]) krf) ?_;refine OpsL.upd (zp (k := 4) (u := .agg (Go.Am.e4 c).toArray) evd evd (by exact rfl) rfl (o := .cells (Go.Am.e4 c) 0 none false (some 45)) (zz (vs := (Go.Am.e4 c)) z6 rfl rfl)) ?_;obtain ⟨G5, hG5⟩ : ∃ G0, G0 = (J'.put m' (.cells [.int .i64 0, .int .i64 0, .int .i64 0, .int .i64 0] 0 none false (some 45))).put m' (.cells (Go.Am.e4 c) 0 none false (some 45)) := ⟨_, rfl⟩;have xG5 : Ext m' J' (m' + 1) G5 := ⟨Nat.le_succ _, fun j hj => by rw [hG5, z5 (by omega), z5 (by omega)]⟩;have kG5 : ∀ id o, G5 id = some o → id < m' + 1 := by rw [hG5]; exact zL (zB okJ') z6
        have bG5 : G5 m' = some (.cells (Go.Am.e4 c) 0 none false (some 45)) := by rw [hG5, z6]
        first | rw [← hG5] | skip
        clear hG5;clear gr ca5;have hX5 := (xG5.2 X (by omega)).trans ((fr' X (by omega) hXB).trans hX4);have h05 := (xG5.2 nx (by omega)).trans hJ0;have h15 := (xG5.2 (nx + 1) (by omega)).trans ((fr' (nx + 1) (by omega) (by omega)).trans h14);have h25 := (xG5.2 (nx + 1 + 1) (by omega)).trans ((fr' (nx + 1 + 1) (by omega) (by omega)).trans h24);have ho5 := (xG5.2 m (by omega)).trans ((fr' m (by omega) (by omega)).trans bG4);have hr5 := hr'.same (xG5.2 B (by omega));have hx5 := hxJ'.trans xG5;have fr5 : ∀ j, j < m + 1 → j ≠ B → G5 j = G4 j := fun j h1 h2 => (xG5.2 j (by omega)).trans (fr' j h1 h2);have cc0 : zb G5 ⟨m', 0, none⟩ (.int .i64 c.1) := z8 bG5 rfl;have cc1 : zb G5 ⟨m', 1, none⟩ (.int .i64 c.2.1) := z8 bG5 rfl;have cc2 : zb G5 ⟨m', 2, none⟩ (.int .i64 c.2.2.1) := z8 bG5 rfl;have co2 : zb G5 ⟨m, 2, none⟩ (.int .i64 o.2.2.1) := z8 ho5 rfl;have co3 : zb G5 ⟨m, 3, none⟩ (.int .i64 o.2.2.2) := z8 ho5 rfl;have cw0 : zb G5 ⟨nx + 1 + 1, 0, none⟩ (.slice (some ⟨rn, 0, none⟩) M M) := z8 h25 rfl;have hw5 : z0D G5 rn N now.row := hw.same (hx5.2 rn hrn);have hb5 : z0D G5 rb N below.row := hb.same (hx5.2 rb hrb);obtain ⟨x, hxc, hxS⟩ := hw5.get hN2 t0 t1 d0 d1;obtain ⟨i1, i2, i3, -⟩ := z2V hN2 t0 t1 d0 d1;rw [hM] at i3;clear hr' hJ0 hxJ';refine zhw ?_;by_cases mc : c.2.1 = sym
        case neg =>
         refine z1l ?_ (c := mc)
         repeat (first | (refine z7 (by first | exact omv | exact z2q) ?_) | (refine OpsL.nil ?_; (change Trip _ _ _ _ _)) | refine zF ?_)
         refine zhA ?_;exact ⟨k + 1, ⟨_, _, _, rfl, by omega, fr5, kG5, hr5.iff fun p q _ _ _ _ => by rw [z2N hlk, hc]; simp [mc], stp, stp, stp, stp, stp, stp, stp, stp, stp, stp, by omega⟩, by omega⟩
        case pos =>
         refine z16 ?_ (c := mc)
         repeat (first | (refine z7 (by first | exact omv | exact ofa | exact old) ?_) | refine zj ?_)
         by_cases mt : c.2.2.1 = o.2.2.2
         case neg =>
          refine z1l ?_ (c := mt);refine zgc ?_;refine zhA ?_;exact ⟨k + 1, ⟨_, _, _, rfl, by omega, fr5, kG5, hr5.iff fun p q _ _ _ _ => by rw [z2N hlk, hc]; simp [mt], stp, stp, stp, stp, stp, stp, stp, stp, stp, stp, by omega⟩, by omega⟩
         case pos =>
          refine z16 ?_ (c := mt);cases x with
          | false =>
           have hno : ¬ now.row o.2.2.1 c.1 := fun q => by have := hxS.2 q; cases this
           refine zgH ?_;refine zhA ?_;exact ⟨k + 1, ⟨_, _, _, rfl, by omega, fr5, kG5, hr5.iff fun p q _ _ _ _ => by rw [z2N hlk, hc]; simp [hno], stp, stp, stp, stp, stp, stp, stp, stp, stp, stp, by omega⟩, by omega⟩
          | true =>
           have hyes : now.row o.2.2.1 c.1 := hxS.1 rfl;refine zgH ?_;refine zU ?_;refine zfi ?_;refine Trip.mono (Q := fun e st => e = .exit 4 ∧ ∃ (tm' : Nat → Value) (J6 : Heap), st = ⟨tm', n, J6, m' + 1⟩ ∧ (∀ j, j ≠ B → J6 j = G5 j) ∧ (∀ id o, J6 id = some o → id < m' + 1) ∧ z0D J6 B N (fun p q => ((∃ o ∈ a.opens.take i, o.2.1 = now.by_ ∧ ∃ c ∈ a.closes, c.2.1 = sym ∧ c.2.2.1 = o.2.2.2 ∧ now.row o.2.2.1 c.1 ∧ c.2.2.2 = q ∧ below.row p o.1) ∨ ∃ c ∈ a.closes.take k, c.2.1 = sym ∧ c.2.2.1 = o.2.2.2 ∧ now.row o.2.2.1 c.1 ∧ c.2.2.2 = q ∧ below.row p o.1) ∨ (c.2.2.2 = q ∧ below.row p o.1)) ∧ tm' 3 = .int .i64 sym ∧ tm' 4 = .pointer (some ⟨nx, 0, none⟩) ∧ tm' 5 = .pointer (some ⟨nx + 1, 0, none⟩) ∧ tm' 6 = .pointer (some ⟨nx + 1 + 1, 0, none⟩) ∧ tm' 8 = .pointer (some ⟨nx + 1 + 1 + 1, 0, none⟩) ∧ tm' 9 = .int .i64 (N : Int) ∧ tm' 10 = .pointer (some ⟨X, 0, none⟩) ∧ tm' 11 = .int .i64 i ∧ tm' 12 = .pointer (some ⟨m, 0, none⟩) ∧ tm' 13 = .int .i64 k) ?_ ?_
           ·refine zu (fun (P : Nat) st => ∃ (tm' : Nat → Value) (J6 : Heap), st = ⟨tm', n, J6, m' + 1⟩ ∧ (∀ j, j ≠ B → J6 j = G5 j) ∧ (∀ id o, J6 id = some o → id < m' + 1) ∧ z0D J6 B N (fun p q => ((∃ o ∈ a.opens.take i, o.2.1 = now.by_ ∧ ∃ c ∈ a.closes, c.2.1 = sym ∧ c.2.2.1 = o.2.2.2 ∧ now.row o.2.2.1 c.1 ∧ c.2.2.2 = q ∧ below.row p o.1) ∨ ∃ c ∈ a.closes.take k, c.2.1 = sym ∧ c.2.2.1 = o.2.2.2 ∧ now.row o.2.2.1 c.1 ∧ c.2.2.2 = q ∧ below.row p o.1) ∨ (p < P ∧ c.2.2.2 = q ∧ below.row p o.1)) ∧ tm' 3 = .int .i64 sym ∧ tm' 4 = .pointer (some ⟨nx, 0, none⟩) ∧ tm' 5 = .pointer (some ⟨nx + 1, 0, none⟩) ∧ tm' 6 = .pointer (some ⟨nx + 1 + 1, 0, none⟩) ∧ tm' 8 = .pointer (some ⟨nx + 1 + 1 + 1, 0, none⟩) ∧ tm' 9 = .int .i64 (N : Int) ∧ tm' 10 = .pointer (some ⟨X, 0, none⟩) ∧ tm' 11 = .int .i64 i ∧ tm' 12 = .pointer (some ⟨m, 0, none⟩) ∧ tm' 13 = .int .i64 k ∧ tm' 14 = .pointer (some ⟨m', 0, none⟩) ∧ tm' 15 = .int .i64 P ∧ P ≤ N) (fun P => N - P) 0 ?_ ?_
            ·exact ⟨_, _, rfl, fun _ _ => rfl, kG5, hr5.iff fun p q p0 _ _ _ => by have h0 : ¬ p < 0 := (by omega); simp [h0], stp, stp, stp, stp, stp, stp, stp, stp, stp, stp, stp, stp, Nat.zero_le _⟩
            ·rintro P st ⟨tm', J6, rfl, fr6, ok6, hr6, e3, e4, e5, e6, e8, e9, e10, e11, e12, e13, e14, e15, hP⟩
             refine zgd ?_;by_cases hlp : P < N
             ·have cX : zb J6 ⟨X, 0, none⟩ (.slice (some ⟨B, 0, none⟩) M M) := z8 ((fr6 X hXB).trans hX5) rfl
              have cb0 : zb J6 ⟨nx + 1, 0, none⟩ (.slice (some ⟨rb, 0, none⟩) M M) := z8 ((fr6 (nx + 1) (by omega)).trans h15) rfl;have co0 : zb J6 ⟨m, 0, none⟩ (.int .i64 o.1) := z8 ((fr6 m (by omega)).trans ho5) rfl;have cc3 : zb J6 ⟨m', 3, none⟩ (.int .i64 c.2.2.2) := z8 ((fr6 m' (by omega)).trans bG5) rfl;obtain ⟨y, hyc, hyS⟩ := (hb5.same (fr6 rb (by omega))).get (p := (P : Int)) hN2 (by omega) (by omega) f0 f1;obtain ⟨j1, j2, j3, -⟩ := z2V (p := (P : Int)) hN2 (by omega) (by omega) f0 f1;obtain ⟨k1, k2, k3, -⟩ := z2V (p := (P : Int)) hN2 (by omega) (by omega) u0 u1;rw [hM] at j3 k3;refine z0c ?_;refine z7j ?_;refine zhD ?_;cases y with
              | false =>
               have hno : ¬ below.row (P : Int) o.1 := fun q => by have := hyS.2 q; cases this
               refine zg2 ?_
               exact ⟨P + 1, ⟨_, _, rfl, fr6, ok6, hr6.iff fun p q p0 _ _ _ => by
                by_cases hpP : p = P
                ·subst hpP; simp [hno]
                ·have : p < ((P + 1 : Nat) : Int) ↔ p < P := by omega
                 rw [this], stp, stp, stp, stp, stp, stp, stp, stp, stp, stp, stp, stp, by omega⟩, by omega⟩
              | true =>
               have hys : below.row (P : Int) o.1 := hyS.1 rfl;refine zht ?_;refine z3L (b := B) (N := N) (p := (P : Int)) (q := c.2.2.2) evr evr (by exact rfl) hr6 hN2 (by omega) (by omega) u0 u1 fun J7 hr7 fr7 ok7 => ?_;refine zg7 ?_
               exact ⟨P + 1, ⟨_, _, rfl, fun j hj => (fr7 j hj).trans (fr6 j hj), ok7 _ ok6, hr7.iff fun p q p0 _ _ _ => by
                by_cases hpP : p = P
                ·subst hpP
                 have h1 : (P : Int) < ((P + 1 : Nat) : Int) := by omega
                 have h2 : ¬ (P : Int) < P := by omega
                 simp only [h1, h2, hys, true_and, false_and, and_true, or_false, eq_comm (a := q)];exact or_comm
                ·have : p < ((P + 1 : Nat) : Int) ↔ p < P := by omega
                 simp only [this, hpP, false_and, false_or], stp, stp, stp, stp, stp, stp, stp, stp, stp, stp, stp, stp, by omega⟩, by omega⟩
             ·have hPN : P = N := by omega
              subst hPN;refine z5J ?_;exact ⟨rfl, _, _, rfl, fr6, ok6, hr6.iff fun p q _ p1 _ _ => by simp [p1], stp, stp, stp, stp, stp, stp, stp, stp, stp, stp⟩
           rintro e st ⟨rfl, tm6, J6, rfl, fr6, ok6, hr6, e3, e4, e5, e6, e8, e9, e10, e11, e12, e13⟩;refine zgt ?_;exact ⟨k + 1, ⟨_, _, _, rfl, by omega, fun j h1 h2 => (fr6 j h2).trans (fr5 j h1 h2), ok6, hr6.iff fun p q _ _ _ _ => by rw [z2N hlk, hc]; simp [mc, mt, hyes, or_assoc], stp, stp, stp, stp, stp, stp, stp, stp, stp, stp, by omega⟩, by omega⟩
       ·have hke : k = a.closes.length := by omega
        subst hke;refine zdB ?_;refine z5J ?_;rw [List.take_length] at hr';exact ⟨rfl, _, _, _, rfl, hm', fr', okJ', hr', stp, stp, stp, stp, stp, stp, stp, stp⟩
     rintro e st ⟨rfl, tm5, m5, J5, rfl, hm5, fr5, ok5, hr5, e3, e4, e5, e6, e8, e9, e10, e11⟩;refine zgt ?_;exact ⟨i + 1, ⟨_, _, _, rfl, by omega, fun j h1 h2 => (fr5 j (by omega) h2).trans (fr4 j h1 h2), ok5, hr5.iff fun p q _ _ _ _ => by rw [z2N hlt, ho]; simp only [ms, true_and], stp, stp, stp, stp, stp, stp, stp, stp, by omega⟩, by omega⟩
    ·refine z1l ?_ (c := ms)
     refine z7j ?_;refine zhA ?_;exact ⟨i + 1, ⟨_, _, _, rfl, by omega, fr4, kG4, hr4.iff fun p q _ _ _ _ => by rw [z2N hlt, ho]; simp [ms], stp, stp, stp, stp, stp, stp, stp, stp, by omega⟩, by omega⟩
   ·have hie : i = a.opens.length := by omega
    subst hie;refine zdB ?_;refine z5J ?_;rw [List.take_length] at hr;exact ⟨rfl, _, _, _, rfl, hm1, fr, hr, stp, stp⟩
 rintro e st ⟨rfl, tm2, m, J, rfl, hm, fr, hr, e8, e10⟩;refine z6W ?_;have gXJ := (fr X (by omega) hXB).trans gX;have g3J := (fr (nx + 1 + 1 + 1) (by omega) (by omega)).trans g31;refine zdx ?_;refine z7 (za (k := 2) (vs := lvV B M below.by_) evd (by exact rfl) rfl (by exact rfl) (zx gXJ rfl)) ?_;refine OpsL.upd (zp (k := 2) (u := .agg (lvV B M below.by_).toArray) evd evd (by exact rfl) rfl (o := .cells (lvV B M below.by_) 0 none false (some 90)) (zz (vs := lvV B M below.by_) g3J rfl rfl)) ?_;have hrd : z2a Tryz.prog (J.put (nx + 1 + 1 + 1) (.cells (lvV B M below.by_) 0 none false (some 90))) 90 ⟨nx + 1 + 1 + 1, 0, none⟩ = some (.agg (lvV B M below.by_).toArray) := z1f (k := 2) (by exact rfl) (by exact rfl) (by exact rfl) (zx z6 rfl);refine zeB ?_;exact ⟨.inr rfl, _, z2d (a := ⟨nx + 1 + 1 + 1, 0, none⟩) stp hrd, B, rfl, by omega, by omega, hr.same (z5 (by omega)), ⟨by omega, fun j hj => by rw [z5 (by omega), fr j (by omega) (by omega)]; exact hxH.2 j hj⟩⟩
end Go.Proofs.YteplpegfcpmflaaGreat
