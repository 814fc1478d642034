import Derived.Test.YtjgbcpagfghfnaaQYM37
import Derived.Test.YtjgbcpagfghfnaaQYM15
set_option linter.unusedVariables false
set_option linter.unusedSimpArgs false
set_option linter.unnecessarySimpa false
namespace Go.Am
open Go.RowKit
def z1A (x : Int × Int) : List Value := [.int .i64 x.1, .int .i64 x.2]
end Go.Am
namespace Go.Proofs.Ytjgbcpagfghfnaa
open Go.Am Go.RowKit
attribute [local irreducible] aop OpsL Trip zt z1X z1E OpsR OpsQ
theorem z8m : Am.z1G Try.prog 45 := ⟨Try.f45, Try.func45, by kernel_rfl, by kernel_rfl⟩
set_option maxRecDepth 20000 in
set_option maxHeartbeats 16000000 in
theorem zgu (W0 : World) {σ0 σ : CH} {rb : Nat} {m : Mo} {V : MoV} {s : Int × List Int} {i : Int} (h : RdS σ0 σ rb m V s) (hm0 : MoIn σ0.H m V) (ok0 : ∀ id o, σ0.H id = some o → id < σ0.nx) (hmod : ModOk m) (hg : RGood m (fun _ => True) s) (hs2 : s.2.length ≤ 100000) :
  ACalls Try.prog W0 45 [.pointer (some ⟨rb, 0, none⟩), .int .i64 i] σ.nx σ.H fun v nx' H' => zaN σ0 rb m V (z25 m s (2, i)) v nx' H' := by
 refine zg (fn := Try.f45) (c := _) Try.func45 rfl (fun tm n hn0 htm => ?_);have e0 : tm 0 = .pointer (some ⟨rb, 0, none⟩) := htm 0;have e1 : tm 1 = .int .i64 i := htm 1;clear htm;replace hn0 : n = 75 := hn0;obtain ⟨⟨a0, a1⟩, -, ab⟩ := hg.at;obtain ⟨ho, lv, hr, hL⟩ := h;obtain ⟨la, lk, rfl⟩ := OwnC.slice zR hL;obtain ⟨sa, sl⟩ := s;simp only at a0 a1 ab hL hr hs2;obtain ⟨P, rfl⟩ : ∃ P : Nat, sa = (P : Int) := ⟨sa.toNat, by omega⟩;rw [Int.toNat_natCast] at ab;have hP : P < m.of.length := by omega
 have g1 : zf σ.H ⟨rb, 1, none⟩ (.int .i64 m.closings) := hr.cell rfl;have g6 : zf σ.H ⟨rb, 6, none⟩ V.l := hr.cell rfl;have g7 : zf σ.H ⟨rb, 7, none⟩ V.r := hr.cell rfl;have g8 : zf σ.H ⟨rb, 8, none⟩ (.int .i64 P) := hr.cell rfl;have g9 : zf σ.H ⟨rb, 9, none⟩ (.slice la sl.length lk) := hr.cell rfl;have hk := hmod.cl;refine zhr ?_;refine OpsL.c3 (hf := z1s) (hc := (z3w W0 _ _ _)) (h := ?_);rintro v1 nx1 H1 ⟨d, rfl, hd, rfl, rfl⟩
 have hst : z25 m ((P : Int), sl) (2, i) = if 0 ≤ i ∧ i ≤ m.closings - 1 then (if sl = [] then some ((m.low.getD P []).getD i.toNat 0, sl) else some (((m.ret.getD P []).getD i.toNat []).getD (sl.getD (sl.length - 1) 0).toNat 0, sl.take (sl.length - 1))) else none := by
  unfold z25; rw [if_neg (show ¬ (2 : Int) = 1 by omega), if_pos rfl]; rfl
 cases d
 ·have hn : ¬ (0 ≤ i ∧ i ≤ m.closings - 1) := fun q => by have := hd.2 q; cases this
  rw [if_neg hn] at hst;refine z9Q ?_;refine zaE ?_;exact ⟨.inr rfl, _, zn, .inl ⟨hst, by simp [zb], σ, rfl, rfl, ho⟩⟩
 obtain ⟨h0, h1⟩ := hd.1 rfl;rw [if_pos ⟨h0, h1⟩] at hst;clear hd
 have hcase : sl = [] ∨ ∃ pre q, sl = pre ++ [q] := by
  by_cases e : sl = []
  ·exact .inl e
  ·exact .inr ⟨sl.dropLast, sl.getLast e, (List.dropLast_concat_getLast e).symm⟩
 rcases hcase with rfl | ⟨pre, q, rfl⟩
 ·rw [if_pos rfl] at hst;obtain ⟨ia, ic, iv⟩ := hm0.low.slice;have ih := hm0.low;rw [iv] at g6 ih;have hrl := (hmod.low0 P hP (ab.2 rfl)).1;have hil := Nat.lt_of_lt_of_eq hP hmod.ll.symm;obtain ⟨q1, rb1, rk1, rfl, hc1, hrow⟩ := L2At.atI ih (show (0 : Int) ≤ P by omega) (show (P : Int) < m.low.length by omega);rw [Int.toNat_natCast] at hc1 hrow;replace hc1 := zI ho.ext ok0 hc1;obtain ⟨R, hR⟩ : ∃ R, m.low.getD P [] = R := ⟨_, rfl⟩;rw [hR] at hc1 hrow hrl hst;clear hR;obtain ⟨q2, rfl, hc2⟩ := hrow.atI h0 (show i < R.length by omega);replace hc2 := zI ho.ext ok0 hc2;refine z9Q ?_;refine z2r ?_
  repeat (first | (refine zc (by first | exact omv | exact z09 | exact z0q evr | exact ofa | exact old | exact z1g | exact zc9) ?_) | (refine Trip.seq ?_) | (refine zd ?_) | (refine Trip.skip ?_; (change Trip _ _ _ _ _)) | (refine OpsL.nil ?_; (change Trip _ _ _ _ _)))
  refine z0y ?_ (c := show (([] : List Int).length : Int) - 1 < 0 by simp);refine z9O ?_
  repeat (first | (refine Trip.seq ?_))
  refine OpsQ.drawn [17] (K := fun _ _ _ => True) zU krf krf [0, 1, 2, 3, 4, 5, 6, 7, 8, 9, 10, 11, 12, 13, 14, 15, 16, 17] krf (fun _ _ => trivial) ?_;refine zeM ?_;refine zc2 ?_;refine zg8 ?_;refine zbW ?_;refine z67 ?_;refine zP (k := 8) (v := .int .i64 (R.getD i.toNat 0)) (cs' := moV m V ++ [.int .i64 (R.getD i.toNat 0), .slice la ([] : List Int).length lk]) hr (by show 8 < 10; omega) rfl xrf rfl rfl evr evd rfl ?_;intro τ hat xt _;refine OpsL.nil ⟨fun k hk => absurd hk (by simp), ?_⟩;refine OpsQ.nil ?_
  (change Trip _ _ _ _ _)
  refine zc7 ?_;exact ⟨.inr rfl, _, zn, .inr ⟨_, hst, by simp [zb], τ, rfl, rfl, ho.keep xt (by simp), _, hat, hL.keep xt (by simp)⟩⟩
 ·have hne : pre ++ [q] ≠ [] := by simp
  have hz : m.of.getD P 0 ≠ 0 := fun e => hne (ab.1 e);rw [if_neg hne] at hst;have e1l : (pre ++ [q]).length - 1 = pre.length := by simp
  rw [e1l, List.take_left' rfl, z0E] at hst;obtain ⟨⟨t0, t1⟩, -⟩ := hg.top hne;have e2l : ((pre ++ [q] : List Int)).getD ((pre ++ [q]).length - 1) 0 = q := by rw [e1l, z0E]
  simp only at t0 t1;rw [e2l] at t0 t1;obtain ⟨Q, rfl⟩ : ∃ Q : Nat, q = (Q : Int) := ⟨q.toNat, by omega⟩;rw [Int.toNat_natCast] at hst;have hQ : Q < m.of.length := by omega
  obtain ⟨ia, ic, iv⟩ := hm0.ret.slice;have ih := hm0.ret;rw [iv] at g7 ih;obtain ⟨hrl, hrr⟩ := hmod.ret1 P hP hz;have hil := Nat.lt_of_lt_of_eq hP hmod.rl.symm;obtain ⟨q1, rb1, rk1, rfl, hc1, hrow⟩ := L3At.atI ih (show (0 : Int) ≤ P by omega) (show (P : Int) < m.ret.length by omega);rw [Int.toNat_natCast] at hc1 hrow;replace hc1 := zI ho.ext ok0 hc1;obtain ⟨R, hR⟩ : ∃ R, m.ret.getD P [] = R := ⟨_, rfl⟩;rw [hR] at hc1 hrow hrl hrr hst;clear hR;obtain ⟨q2, rb2, rk2, rfl, hc2, hrow2⟩ := L2At.atI hrow h0 (show i < R.length by omega);replace hc2 := zI ho.ext ok0 hc2;have hrr2 := Nat.le_of_eq (hrr i.toNat (by omega)).1.symm;obtain ⟨R2, hR2⟩ : ∃ R2, R.getD i.toNat [] = R2 := ⟨_, rfl⟩;rw [hR2] at hc2 hrow2 hrr2 hst;clear hR2 hrr;obtain ⟨q3, rfl, hc3⟩ := hrow2.atI (show (0 : Int) ≤ Q by omega) (show (Q : Int) < R2.length by omega);rw [Int.toNat_natCast] at hc3;replace hc3 := zI ho.ext ok0 hc3;obtain ⟨b, t, rest, hv, hob⟩ := z8c z6z hL hne;simp only [Value.slice.injEq] at hv;obtain ⟨rfl, -, rfl⟩ := hv;have hlen : (pre ++ [(Q : Int)]).length = pre.length + 1 := by simp
  rw [hlen] at hr g9 hs2;replace hlen : PLift ((pre ++ [(Q : Int)]).length = pre.length + 1) := ⟨hlen⟩
  have hcq : zf σ.H ⟨b, 0 + pre.length * 1, some t⟩ (.int .i64 Q) := by
   rw [Nat.zero_add, Nat.mul_one];refine hob.cell ?_;rw [List.getElem?_append_left (by simp), List.getElem?_map, List.getElem?_append_right (Nat.le_refl _), Nat.sub_self];rfl
  have hlast : (((pre.length + 1 : Nat) : Int) - 1) = (pre.length : Int) := by omega
  refine z9Q ?_;refine z2r ?_
  repeat (first | (refine zc (by first | exact omv | exact z0q evr | exact ofa | exact old | exact z1g) ?_) | (refine Trip.seq ?_) | (refine zd ?_) | (refine Trip.skip ?_; (change Trip _ _ _ _ _)))
  (first | (refine zc (by exact zc9) ?_))
  rw [hlast];clear hlast
  repeat (first | (refine zc (by first | exact z09 | exact omv) ?_) | (refine Trip.seq ?_) | (refine zd ?_) | (refine OpsL.nil ?_; (change Trip _ _ _ _ _)))
  refine z0z ?_ (c := show ¬ ((pre.length : Int) < 0) by omega);refine zep ?_;refine zdo ?_;refine Trip.mono (Q := fun e st => e = .normal ∧ ∃ tm' τ, st = ⟨tm', n, τ.H, τ.nx⟩ ∧ tm' 0 = .pointer (some ⟨rb, 0, none⟩) ∧ tm' 5 = .int .i64 pre.length ∧ OldC σ0 τ ∧ ObC .self τ rb (rdO m V (R2.getD Q 0) (.slice (some ⟨b, 0, some t⟩) (pre.length + 1) (pre.length + 1))) ∧ ObC .next τ b (.cells ((pre ++ [(Q : Int)]).map (.int .i64 ·) ++ rest) 1 (some t) false (some 3))) ?_ ?_
  ·refine OpsQ.drawn [26] (K := fun _ _ _ => True) zU krf krf [0, 1, 2, 3, 4, 5, 6, 7, 8, 9, 10, 11, 12, 13, 14, 15, 16, 17, 18, 19, 20, 21, 22, 23, 24, 25, 26] krf (fun _ _ => trivial) ?_;refine zeM ?_;refine zc2 ?_;refine zg3 ?_;refine zbW ?_;refine z7e ?_;refine z5t ?_;refine zg8 ?_;refine zbW ?_;refine z67 ?_;refine zP (k := 8) (v := .int .i64 (R2.getD Q 0)) (cs' := moV m V ++ [.int .i64 (R2.getD Q 0), .slice (some ⟨b, 0, some t⟩) (pre.length + 1) (pre.length + 1)]) hr (by show 8 < 10; omega) rfl xrf rfl rfl evr evd rfl ?_;intro τ hat xt _;refine OpsL.nil ⟨fun k hk => absurd hk (by simp), ?_⟩;refine OpsQ.nil ?_;exact ⟨rfl, _, τ, rfl, stp, stp, ho.keep xt (by simp), hat, hob.keep xt (by simp)⟩
  clear hr hL ho g1 g6 g7 g8 g9 hcq hc1 hc2 hc3 hrow hrow2 hob e0;rintro e st ⟨rfl, tm, σ, rfl, e0, e5, ho, hr, hob⟩;have g9 : zf σ.H ⟨rb, 9, none⟩ (.slice (some ⟨b, 0, some t⟩) (pre.length + 1) (pre.length + 1)) := hr.cell rfl
  have hslc : z4Z Try.prog σ.H 22 (.slice (some ⟨b, 0, some t⟩) (pre.length + 1) (pre.length + 1)) none (some (.int .i64 (pre.length : Int))) none = some (.slice (some ⟨b, 0, some t⟩) pre.length pre.length) := by
   have := z3N (P := Try.prog) (t := 22) (el := 3) (sz := 1) (a := ⟨b, 0, some t⟩) (len := pre.length + 1) (cap := pre.length + 1) (l := 0) (h := pre.length) (tg := t) (lo := none) (hi := some (.int .i64 (pre.length : Int))) xrf xrf hob.2.2 rfl rfl rfl (.inl ⟨rfl, rfl⟩) (.inr ⟨.i64, rfl⟩) (Nat.zero_le _) (by omega);simpa using this
  (change Trip _ _ _ _ _)
  repeat (first | (refine zc (by first | exact omv | exact z0q evr | exact ofa | exact old) ?_) | (refine Trip.seq ?_) | (refine zd ?_))
  refine zw sdc (z6O (a := none) (b := some (.int .i64 (pre.length : Int))) (c := none) evd rfl (by simp [z3Y, ASt.ev, zb, *]) rfl hslc) ?_;refine zgG ?_;refine zP (k := 9) (v := .slice (some ⟨b, 0, some t⟩) pre.length pre.length) (cs' := moV m V ++ [.int .i64 (R2.getD Q 0), .slice (some ⟨b, 0, some t⟩) pre.length pre.length]) hr (by show 9 < 10; omega) rfl xrf rfl rfl evr evd rfl ?_;intro τ hat xt _;refine z0n ?_
  (change Trip _ _ _ _ _)
  refine zc7 ?_;refine ⟨.inr rfl, _, zn, .inr ⟨_, hst, by simp [zb], τ, rfl, rfl, ho.keep xt (by simp), _, hat, OwnC.cls z6z (rest := .int .i64 Q :: rest) ?_⟩⟩;have := hob.keep xt (by simp);simpa using this
theorem z9u : Am.z1G Try.prog 31 := ⟨Try.f31, Try.func31, by kernel_rfl, by kernel_rfl⟩
set_option maxRecDepth 20000 in
set_option maxHeartbeats 16000000 in
theorem zh4 (W0 : World) {σ0 σ : CH} {rb : Nat} {m : Mo} {V : MoV} {s : Int × List Int} {x : Int × Int} (h : RdS σ0 σ rb m V s) (hm0 : MoIn σ0.H m V) (ok0 : ∀ id o, σ0.H id = some o → id < σ0.nx) (hmod : ModOk m) (hg : RGood m (fun _ => True) s) (hs2 : s.2.length ≤ 100000) :
  ACalls Try.prog W0 31 [.pointer (some ⟨rb, 0, none⟩), .agg (z1A x).toArray] σ.nx σ.H fun v nx' H' => zaN σ0 rb m V (z25 m s x) v nx' H' := by
 refine zg (fn := Try.f31) (c := _) Try.func31 rfl (fun tm n hn0 htm => ?_);have e0 : tm 0 = .pointer (some ⟨rb, 0, none⟩) := htm 0;have e1 : tm 1 = .agg (z1A x).toArray := htm 1;clear htm;replace hn0 : n = 25 := hn0;obtain ⟨x1, x2⟩ := x;refine z2k ?_;refine zo .tmp (z5C (v := .agg (z1A (x1, x2)).toArray) evd) sdc ?_;intro τ hb x;obtain ⟨B, hB⟩ : ∃ B, σ.nx = B := ⟨_, rfl⟩;rw [hB] at hb ⊢;replace h := h.keep x (by simp) (by simp) (by simp);have c0 : zf τ.H ⟨B, 0, none⟩ (.int .i64 x1) := hb.cell rfl;have c1 : zf τ.H ⟨B, 1, none⟩ (.int .i64 x2) := hb.cell rfl;clear hb hB x e1
 repeat (first | (refine zc (by first | exact z09 | exact ofa | exact old) ?_) | (refine Trip.seq ?_) | (refine zd ?_) | (refine Trip.block ?_) | (refine OpsL.nil ?_; (change Trip _ _ _ _ _)))
 by_cases hx : x1 = 1
 ·repeat fail
  refine zw sdc (z39 evr (by rfl) (by omega)) ?_;refine zdn ?_;refine z07 ?_;refine zgE ?_;refine OpsL.c2 (hf := z9y) (hc := (zh7 W0 h hm0 ok0 hmod hg hs2)) (h := ?_);rintro v nx1 H1 hv;refine zgO ?_;refine ⟨.inr rfl, _, zn, ?_⟩;have e : (x1, x2) = ((1 : Int), x2) := by rw [hx]
  rw [e];simpa [zb] using hv
 by_cases hx2 : x1 = 2
 ·have hx := hx2
  repeat fail
  refine zw sdc (z2c evr (by rfl) (by omega)) ?_;refine zdn ?_;refine z2r ?_;refine zdr ?_;refine zw sdc (z39 evr (by rfl) (by omega)) ?_;refine zdn ?_;refine z07 ?_;refine zgE ?_;refine OpsL.c2 (hf := z8m) (hc := (zgu W0 h hm0 ok0 hmod hg hs2)) (h := ?_);rintro v nx1 H1 hv;refine zgO ?_;refine ⟨.inr rfl, _, zn, ?_⟩;have e : (x1, x2) = ((2 : Int), x2) := by rw [hx]
  rw [e];simpa [zb] using hv
 by_cases hx3 : x1 = 3
 ·have hx := hx3
  repeat fail
  refine zw sdc (z2c evr (by rfl) (by omega)) ?_;refine zdn ?_;refine z2r ?_;refine zdr ?_;refine zw sdc (z2c evr (by rfl) (by omega)) ?_;refine zdn ?_;refine z2r ?_;refine zdr ?_;refine zw sdc (z39 evr (by rfl) (by omega)) ?_;refine zdn ?_;refine z07 ?_;refine zgE ?_;refine OpsL.c2 (hf := z8k) (hc := (z7z W0 h hm0 ok0 hmod hg hs2)) (h := ?_);rintro v nx1 H1 hv;refine zgO ?_;refine ⟨.inr rfl, _, zn, ?_⟩;have e : (x1, x2) = ((3 : Int), x2) := by rw [hx]
  rw [e];simpa [zb] using hv
 repeat fail
 refine zw sdc (z2c evr (by rfl) hx) ?_;refine zdn ?_;refine z2r ?_;refine zdr ?_;refine zw sdc (z2c evr (by rfl) hx2) ?_;refine zdn ?_;refine z2r ?_;refine zdr ?_;refine zw sdc (z2c evr (by rfl) hx3) ?_;refine zdn ?_;refine z2r ?_
 repeat (first | (refine zc (by exact z09) ?_) | (refine Trip.seq ?_) | (refine zd ?_) | (refine Trip.skip ?_; ((repeat (refine zH ?_)); change Trip _ _ _ _ _)) | (refine Trip.ret ?_; (dsimp only)) | (refine OpsL.nil ?_; (change Trip _ _ _ _ _)))
 refine ⟨.inr rfl, _, zn, .inl ⟨?_, by simp [zb], τ, rfl, rfl, h.old⟩⟩;unfold z25;rw [if_neg hx, if_neg hx2, if_neg hx3]
end Go.Proofs.Ytjgbcpagfghfnaa
namespace Go.Proofs.Ytjgbcpagfghfnaa
open Go.Am Go.RowKit
theorem zaQ {m : Mo} {s t : Int × List Int} {x : Int × Int} (h : z25 m s x = some t) : t.2.length ≤ s.2.length + 1 := by
 unfold z25 at h;split at h
 ·split at h
  ·cases h; simp
  ·cases h
 ·split at h
  ·split at h
   ·split at h
    ·cases h; simp
    ·cases h; simp; omega
   ·cases h
  ·split at h
   ·split at h
    ·cases h; simp
    ·cases h
   ·cases h
attribute [local irreducible] aop OpsL Trip zt z1X z1E OpsR OpsQ
theorem z2F : Am.z1G Try.prog 17 := ⟨Try.f17, Try.func17, by kernel_rfl, by kernel_rfl⟩
set_option maxRecDepth 20000 in
set_option maxHeartbeats 16000000 in
theorem z6D (W0 : World) {nx : Nat} {H : Heap} {m : Mo} {V : MoV} {wv : Value} {w : List (Int × Int)} (hm : MoIn H m V) (hn : MoLen m) (hmod : ModOk m) (hw : RowsAt z1A 2 H wv w) (hwl : w.length ≤ 50000) :
  ACalls Try.prog W0 17 [.agg (moV m V).toArray, wv] nx H fun v nx' H' => v = .bool (z28 m w) ∧ Ext nx H nx' H' := by
 obtain ⟨vo, ve, vf, vi, vl, vr⟩ := V;obtain ⟨oa, oc, ho⟩ := hm.of.slice;obtain ⟨ea, ec, he⟩ := hm.entry.slice;obtain ⟨fa, fc, hf⟩ := hm.final.slice;obtain ⟨ia, ic, hi⟩ := hm.inn.slice;obtain ⟨la, lc, hl⟩ := hm.low.slice;obtain ⟨ra, rc, hr⟩ := hm.ret.slice;simp only at ho he hf hi hl hr;subst ho he hf hi hl hr;refine zg (fn := Try.f17) (c := _) Try.func17 rfl (fun tm n hn0 htm => ?_);have e0 : tm 0 = .agg (moV m ⟨.slice oa m.of.length oc, .slice ea m.entry.length ec, .slice fa m.final.length fc, .slice ia m.inn.length ic, .slice la m.low.length lc, .slice ra m.ret.length rc⟩).toArray := htm 0;have e1 : tm 1 = wv := htm 1;clear htm;replace hn0 : n = 33 := hn0;refine Trip.ok fun hok => ?_;replace hok : ∀ id o, H id = some o → id < nx := hok;refine z2k ?_;refine zY hm hok ?_ evd sdc;intro G x0 okG hb hG;clear e0;have hwG := hw.ext x0 hok;obtain ⟨wa, wc, rfl⟩ := hwG.slice;have hk := hmod.k.1
 have hrun : z28 m w = match zc8 m w (m.entry.getD 0 0, []) with | none => false | some s => m.final.getD s.1.toNat false := by
  unfold z28; rw [z2u.2 hmod]; rfl
 refine zaF ?_;refine zS hb ?_ evd sdc;refine OpsL.c1 (hf := z35) (hc := (z8M W0 hG hn)) (h := ?_);rintro v1 nx1 H1 ⟨rfl, y1⟩;rw [z2u.2 hmod];refine z9Q ?_;refine zdo ?_;have y1G : OldC ⟨nx + 1, fun _ => .old, G⟩ ⟨nx1, fun i => if i < nx + 1 then .old else .tmp, H1⟩ := ⟨y1.1, fun i hi => ⟨if_pos hi, y1.2 i hi⟩⟩;obtain ⟨σ, hσ1, hσ2, hoσ⟩ : ∃ σ : CH, σ.nx = nx1 ∧ σ.H = H1 ∧ OldC ⟨nx + 1, fun _ => .old, G⟩ σ := ⟨_, rfl, rfl, y1G⟩;subst hσ1 hσ2;clear y1G y1;have hKK : ∀ {τ : CH}, OldC ⟨nx + 1, fun _ => .old, G⟩ τ → ∀ {l : List Nat}, ∀ k ∈ l, z1f τ.H ⟨nx, 0, none⟩ 8 = some (moV m ⟨.slice oa m.of.length oc, .slice ea m.entry.length ec, .slice fa m.final.length fc, .slice ia m.inn.length ic, .slice la m.low.length lc, .slice ra m.ret.length rc⟩) ∧ zf τ.H ⟨nx, 3, none⟩ (.slice ea m.entry.length ec) := fun h _ _ _ => ⟨(hb.ext h.ext okG).all, (hb.ext h.ext okG).c3⟩;have eh := hG.entry;obtain ⟨qe, rfl, hce⟩ := IntsAt.atI eh (show (0 : Int) ≤ 0 by omega) (show (0 : Int) < m.entry.length by omega);simp only [Int.toNat_zero] at hce;obtain ⟨E, hE⟩ : ∃ E, m.entry.getD 0 0 = E := ⟨_, rfl⟩;have hgood := z7A hmod (R := fun _ => True) z4F;rw [hE] at hce hrun hgood;refine Trip.mono (Q := fun e st => e = .normal ∧ ∃ tm' τ rb, st = ⟨tm', n, τ.H, τ.nx⟩ ∧ tm' 1 = .slice wa w.length wc ∧ tm' 2 = .pointer (some ⟨nx, 0, none⟩) ∧ tm' 5 = .pointer (some ⟨rb, 0, none⟩) ∧ RdS ⟨nx + 1, fun _ => .old, G⟩ τ rb m ⟨.slice oa m.of.length oc, .slice (some qe) m.entry.length ec, .slice fa m.final.length fc, .slice ia m.inn.length ic, .slice la m.low.length lc, .slice ra m.ret.length rc⟩ (E, [])) ?_ ?_
 ·have h0 := hKK hoσ (l := [0]) 0 (by simp);replace hce : ∀ {τ : CH}, OldC ⟨nx + 1, fun _ => .old, G⟩ τ → zf τ.H ⟨qe.block, qe.off + 0 * 1, qe.spot⟩ (.int .i64 E) := fun h => zI h.ext okG hce;refine OpsQ.drawn [6, 7] (K := fun _ _ H => (z1f H ⟨nx, 0, none⟩ 8 = some (moV m ⟨.slice oa m.of.length oc, .slice (some qe) m.entry.length ec, .slice fa m.final.length fc, .slice ia m.inn.length ic, .slice la m.low.length lc, .slice ra m.ret.length rc⟩) ∧ zf H ⟨nx, 3, none⟩ (.slice (some qe) m.entry.length ec)) ∧ zf H ⟨qe.block, qe.off + 0 * 1, qe.spot⟩ (.int .i64 E)) zU krf krf [0, 1, 2, 3, 4, 5, 6, 7] krf (fun _ _ => ⟨h0, hce hoσ⟩) ?_;refine z00 7 (v := .agg (moV m ⟨.slice oa m.of.length oc, .slice (some qe) m.entry.length ec, .slice fa m.final.length fc, .slice ia m.inn.length ic, .slice la m.low.length lc, .slice ra m.ret.length rc⟩).toArray) rfl krf sdc ⟨h0, hce hoσ⟩ (fun H2 nx2 hK => zy (k := 8) evd xrf rfl xrf hK.1.1) ?_;refine z5s ?_;refine z00 7 (v := .slice (some qe) m.entry.length ec) rfl krf sdc ⟨h0, hce hoσ⟩ (fun H2 nx2 hK => z0a evr xrf rfl hK.1.2) ?_;refine zg8 ?_;refine zds ?_;refine z00 7 (v := .int .i64 E) rfl krf sdc ⟨h0, hce hoσ⟩ (fun H2 nx2 hK => z0a evr xrf rfl hK.2) ?_;refine zg8 ?_;refine zw sdc (z0C (l := [(0, .agg (moV m ⟨.slice oa m.of.length oc, .slice (some qe) m.entry.length ec, .slice fa m.final.length fc, .slice ia m.inn.length ic, .slice la m.low.length lc, .slice ra m.ret.length rc⟩).toArray), (1, .int .i64 E)]) (v := .agg (moV m ⟨.slice oa m.of.length oc, .slice (some qe) m.entry.length ec, .slice fa m.final.length fc, .slice ia m.inn.length ic, .slice la m.low.length lc, .slice ra m.ret.length rc⟩ ++ [Value.int .i64 E, Value.slice none 0 0]).toArray) (by simp [zQ, ASt.ev, zb]) krf) ?_;refine z0n ?_;clear h0;refine z1K ?_;refine zo .self (zV (l := moV z1O z2j ++ [.int .i64 0, .slice none 0 0]) xrf) sdc ?_;intro σ2 hA x2;obtain ⟨rb, hrb⟩ : ∃ k, σ.nx = k := ⟨_, rfl⟩;rw [hrb] at hA ⊢;have ho2 := hoσ.keep x2 (by simp);refine OpsL.nil ⟨fun k hk => ⟨hKK ho2 k hk, hce ho2⟩, ?_⟩;refine z1K ?_;refine zO (vs := moV m ⟨.slice oa m.of.length oc, .slice (some qe) m.entry.length ec, .slice fa m.final.length fc, .slice ia m.inn.length ic, .slice la m.low.length lc, .slice ra m.ret.length rc⟩ ++ [.int .i64 E, .slice none 0 0]) hA xrf rfl rfl rfl evd evd ?_;intro τ hA3 x3;refine OpsL.nil ⟨fun k hk => absurd hk (by simp), ?_⟩;refine OpsQ.nil ?_;exact ⟨rfl, _, τ, rb, rfl, stp, stp, stp, ho2.keep x3 (by simp), _, hA3, OwnC.nil⟩
 clear hce hoσ hKK e1;rintro e st ⟨rfl, tm, σ, rb, rfl, t1, t2, t5, h⟩
 (change Trip _ _ _ _ _)
 refine zgJ ?_;refine zG (fun (i : Nat) s => ∃ tm σ q, s = ⟨tm, n, σ.H, σ.nx⟩ ∧ tm 2 = .pointer (some ⟨nx, 0, none⟩) ∧ tm 5 = .pointer (some ⟨rb, 0, none⟩) ∧ tm 17 = .slice wa w.length wc ∧ tm 18 = .int .i64 w.length ∧ tm 19 = .int .i64 i ∧ i ≤ w.length ∧ RdS ⟨nx + 1, fun _ => .old, G⟩ σ rb m ⟨.slice oa m.of.length oc, .slice (some qe) m.entry.length ec, .slice fa m.final.length fc, .slice ia m.inn.length ic, .slice la m.low.length lc, .slice ra m.ret.length rc⟩ q ∧ RGood m (fun _ => True) q ∧ q.2.length ≤ i ∧ zc8 m w (E, []) = zc8 m (w.drop i) q) (fun i => w.length - i) 0 ?_ ?_
 ·exact ⟨_, σ, (E, []), rfl, stp, stp, stp, stp, stp, by omega, h, hgood, by simp, rfl⟩
 clear h t1 t2 t5 hgood;rintro i s ⟨tm, σ, q, rfl, t2, t5, t17, t18, t19, hi, h, hg, hql, hrn⟩
 repeat (first | (refine zc (by exact z24) ?_) | (refine Trip.seq ?_) | (refine zd ?_) | (refine Trip.block ?_) | (refine zJ (fun _ => ?_) (fun _ => ?_)) | (refine Trip.skip ?_; (change Trip _ _ _ _ _)) | (refine OpsL.nil ?_; (change Trip _ _ _ _ _)))
 ·have hlt : i < w.length := by omega
  have hdr : w.drop i = w[i] :: w.drop (i + 1) := List.drop_eq_getElem_cons hlt;rw [hdr] at hrn;rcases hwG with ⟨c0, hc0, hc1⟩ | ⟨p, c0, hc0, hc1⟩
  ·rw [hc1] at hlt; simp at hlt
  cases hc0;have hcell := hc1 i hlt;obtain ⟨x, hx⟩ : ∃ x, w[i] = x := ⟨_, rfl⟩;rw [hx] at hrn hcell;replace hcell := z2v h.old.ext okG hcell;have hst : zc8 m (x :: w.drop (i + 1)) q = match z25 m q x with | none => none | some t => zc8 m (w.drop (i + 1)) t := rfl
  rw [hst] at hrn;clear hst hdr hx;refine zbl ?_;refine zw sdc (zy (k := 2) (vs := z1A x) evr xrf rfl xrf hcell) ?_;refine zo .tmp (zV (l := z1A (0, 0)) xrf) sdc ?_;intro σ2 hB x2;obtain ⟨B, hBn⟩ : ∃ B, σ.nx = B := ⟨_, rfl⟩;rw [hBn] at hB ⊢;replace h := h.keep x2 (by simp) (by simp) (by simp);refine zO (vs := z1A x) hB xrf rfl rfl rfl evd evd ?_;intro σ3 hB3 x3;replace h := h.keep x3 (by simp) (by simp) (by simp);have hall : z1f σ3.H ⟨B, 0, none⟩ 2 = some (z1A x) := z0d hB3.2.2 rfl;clear hcell hB hB3 hBn x2 x3;refine z0n ?_
  (change Trip _ _ _ _ _)
  refine zdr ?_;refine zw sdc (zy (k := 2) evd xrf rfl xrf hall) ?_;refine OpsL.c2 (hf := z9u) (hc := (zh4 W0 h hG okG hmod hg (by omega)).ok) (h := ?_);rintro v nx2 H2 ⟨hv, okv⟩;rcases hv with ⟨hnone, rfl, τ, rfl, rfl, hoN⟩ | ⟨t, hsome, rfl, τ, rfl, rfl, h⟩
  ·rw [hnone] at hrn;refine z9Q ?_;refine z9U ?_;have hres : z28 m w = false := by rw [hrun, hrn]
   exact ⟨.inr rfl, _, zn, by rw [hres]; simp [zb], x0.trans hoN.ext⟩
  ·rw [hsome] at hrn;have hg2 := z8V hmod z4F hg hsome;have hlen : t.2.length ≤ q.2.length + 1 := zaQ hsome;refine z9Q ?_;refine z2r ?_;refine zc6 ?_;exact ⟨i + 1, ⟨_, τ, t, rfl, stp, stp, stp, stp, stp, by omega, h, hg2, by omega, hrn⟩, by omega⟩
 ·have hi2 : i = w.length := by omega
  subst hi2;rw [List.drop_length] at hrn;have hres : z28 m w = m.final.getD q.1.toNat false := by rw [hrun, hrn]; rfl
  obtain ⟨⟨a0, a1⟩, -, -⟩ := hg.at;obtain ⟨P, hP⟩ : ∃ P : Nat, q.1 = (P : Int) := ⟨q.1.toNat, by omega⟩;rw [hP, Int.toNat_natCast] at hres;obtain ⟨ho, lv, hrd, -⟩ := h;rw [hP] at hrd a1;have g8 : zf σ.H ⟨rb, 8, none⟩ (.int .i64 P) := hrd.cell rfl;have g4 := (hb.ext ho.ext okG).c4;have fl := Nat.le_of_eq hmod.fl.symm;obtain ⟨qf, rfl, hcf⟩ := BoolsAt.atI hG.final (show (0 : Int) ≤ P by omega) (show (P : Int) < m.final.length by omega);rw [Int.toNat_natCast] at hcf;replace hcf := zI ho.ext okG hcf
  repeat (first | (refine zc (by first | exact ofa | exact old | exact z1j | exact z09) ?_) | (refine Trip.seq ?_) | (refine zd ?_) | (refine Trip.exit ?_; ((repeat (refine zD ?_)); change Trip _ _ _ _ _)) | (refine Trip.ret ?_; (dsimp only)) | (refine OpsL.nil ?_; (change Trip _ _ _ _ _)))
  exact ⟨.inr rfl, _, zn, by rw [hres]; simp [zb], x0.trans ho.ext⟩
end Go.Proofs.Ytjgbcpagfghfnaa
