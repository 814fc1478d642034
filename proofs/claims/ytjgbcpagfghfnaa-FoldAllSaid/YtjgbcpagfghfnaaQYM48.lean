import Derived.Test.YtjgbcpagfghfnaaQYM47
import Derived.Test.YtjgbcpagfghfnaaQYM15
set_option linter.unusedVariables false
set_option linter.unusedSimpArgs false
set_option linter.unnecessarySimpa false
namespace Go.Proofs.Ytjgbcpagfghfnaa
open Go.Am Go.RowKit
attribute [local irreducible] aop OpsL Trip zt z1X z1E OpsR OpsQ
set_option maxRecDepth 20000 in
set_option maxHeartbeats 16000000 in
theorem zgf (W0 : World) {σ0 σ : CH} {m : Mo} {V : MoV} {nx n B i : Nat} {wv uv : Value} {q : Int × List Int} {x1 x2 : Int} {tm : Nat → Value} (hmod : ModOk m) (hn0 : n = 152) (hFA : ∀ {N : Nat} {H' : Heap}, Ext σ0.nx σ0.H N H' → MoBox H' nx m V ∧ MoIn H' m V) (hg : RGood m (fun _ => True) q) (hql : q.2.length ≤ 90000) (t1 : tm 1 = wv) (t2 : tm 2 = .pointer (some ⟨nx, 0, none⟩)) (t5 : tm 5 = .int .i64 q.1) (t6 : tm 6 = uv) (t7 : tm 7 = .int .i64 (i : Nat)) (t8 : tm 8 = .pointer (some ⟨B, 0, none⟩)) (hB : ObC .tmp σ B (.cells (z1A (x1, x2)) 0 none false (some 47))) (ho : OldC σ0 σ) (hu : OwnC z1L 3 .next σ uv q.2)
  {Q : AExit → ASt → Prop} (hQ1 : ∀ (tm' : Nat → Value) (σ' : CH) (uv' : Value) (q' : Int × List Int), z25 m q (x1, x2) = some q' → tm' 1 = wv → tm' 2 = .pointer (some ⟨nx, 0, none⟩) → tm' 5 = .int .i64 q'.1 → tm' 6 = uv' → tm' 7 = .int .i64 (i : Nat) → OldC σ0 σ' → OwnC z1L 3 .next σ' uv' q'.2 → Q .normal ⟨tm', n, σ'.H, σ'.nx⟩) (hQ2 : ∀ tm' : Nat → Value, z25 m q (x1, x2) = none → tm' 4 = .bool false → Q .ret ⟨tm', n, σ.H, σ.nx⟩) :
  Trip Try.prog W0 (z3t [1, 1, 1, 0, 1, 2, 2, 1, 0, 2, 1] (z0B Try.f18)) ⟨tm, n, σ.H, σ.nx⟩ Q := by
 obtain ⟨⟨a0, a1⟩, -, ab⟩ := hg.at;obtain ⟨ua, uc, rfl⟩ := OwnC.slice zR hu;obtain ⟨sa, sl⟩ := q;simp only at a0 a1 ab hu hql t5 t6 hQ1;obtain ⟨P, rfl⟩ : ∃ P : Nat, sa = (P : Int) := ⟨sa.toNat, by omega⟩;rw [Int.toNat_natCast] at ab;have hP : P < m.of.length := by omega
 obtain ⟨hb, hG⟩ := hFA ho.ext;obtain ⟨ea, ec, ev⟩ := hG.entry.slice;have g0 := hb.c0;have g1 := hb.c1;have g3 := hb.c3;rw [ev] at g3;have c0 : zf σ.H ⟨B, 0, none⟩ (.int .i64 x1) := hB.cell rfl;have c1 : zf σ.H ⟨B, 1, none⟩ (.int .i64 x2) := hB.cell rfl;have hk := hmod.k;have hcl := hmod.cl;have hpl := hmod.pl;have hel : m.entry.length ≤ 100000 := by omega
 refine Trip.block ?_;refine Trip.seq ?_;refine zeW (ea := ea) (ec := ec) (m := m) (p := (P : Int)) (ua := ua) (ul := sl.length) (uc := uc) W0 hn0 (by omega) hel t1 t2 t5 t6 t7 t8 c0 c1 g0 g1 g3 ?_;clear t1 t2 t5 t6 t7 t8;intro tm d t1 t2 t5 t6 t7 t8 td hd;dsimp only;cases d
 rotate_left
 ·-- plain
  obtain ⟨rfl, h0, h1⟩ := hd.1 rfl
  have hst : z25 m ((P : Int), sl) (3, x2) = some ((m.inn.getD P []).getD x2.toNat 0, sl) := by
   unfold z25;rw [if_neg (show ¬ (3 : Int) = 1 by omega), if_neg (show ¬ (3 : Int) = 2 by omega), if_pos rfl, if_pos ⟨h0, by show x2 ≤ _; omega⟩];rw [Int.toNat_natCast]
  obtain ⟨ia, ic, iv⟩ := hG.inn.slice;have ih := hG.inn;have g5 := hb.c5;rw [iv] at g5 ih;have hil := Nat.lt_of_lt_of_eq hP hmod.il.symm;have hrl := (hmod.inn P hP).1;obtain ⟨q1, rb1, rk1, rfl, hc1, hrow⟩ := L2At.atI ih (show (0 : Int) ≤ P by omega) (show (P : Int) < m.inn.length by omega);rw [Int.toNat_natCast] at hc1 hrow;obtain ⟨q2, rfl, hc2⟩ := hrow.atI h0 (show x2 < (m.inn.getD P []).length by omega);clear hd hrow ih iv ev hb hG;refine z07 ?_;refine Trip.mono (Q := fun e st => e = .normal ∧ ∃ tm', st = ⟨tm', n, σ.H, σ.nx⟩ ∧ tm' 1 = wv ∧ tm' 2 = .pointer (some ⟨nx, 0, none⟩) ∧ tm' 5 = .int .i64 ((m.inn.getD P []).getD x2.toNat 0) ∧ tm' 6 = .slice ua sl.length uc ∧ tm' 7 = .int .i64 (i : Nat)) ?_ ?_
  ·refine OpsQ.drawn [9] (K := fun _ _ _ => True) zU krf krf [0, 1, 2, 3, 4, 5, 6, 7, 8, 9] krf (fun _ _ => trivial) ?_;refine z7e ?_;refine zeF ?_;refine z5t ?_;refine z1K ?_
   (first | (refine zc (by exact z09) ?_))
   refine OpsL.nil ⟨fun k hk => absurd hk (by simp), ?_⟩;refine OpsQ.nil ?_;exact ⟨rfl, _, rfl, stp, stp, stp, stp, stp⟩
  rintro e st ⟨rfl, tm', rfl, z1, z2, z5, z6, z7⟩;exact zH (hQ1 tm' σ _ _ hst z1 z2 z5 z6 z7 ho hu)
 have hd1 : ¬ (x1 = 3 ∧ 0 ≤ x2 ∧ x2 < m.plains) := fun h => by have := hd.2 h; cases this
 clear hd;refine z2r ?_;refine Trip.seq ?_;refine zeX (ea := ea) (ec := ec) (m := m) (p := (P : Int)) (ua := ua) (ul := sl.length) (uc := uc) W0 hn0 (by omega) hel t1 t2 t5 t6 t7 t8 c0 c1 g0 g1 g3 ?_;clear t1 t2 t5 t6 t7 t8 td;intro tm d t1 t2 t5 t6 t7 t8 td hd;dsimp only;cases d
 rotate_left
 ·-- opens
  obtain ⟨rfl, h0, h1⟩ := hd.1 rfl
  have hst : z25 m ((P : Int), sl) (1, x2) = some (m.entry.getD (x2 + 1).toNat 0, sl ++ [(P : Int)]) := by
   unfold z25;rw [if_pos rfl, if_pos ⟨h0, by show x2 ≤ _; omega⟩]
  have eh := hG.entry;rw [ev] at eh;obtain ⟨q2, rfl, hc2⟩ := eh.atI (show 0 ≤ x2 + 1 by omega) (show x2 + 1 < m.entry.length by omega);have FE : ∀ {τ : CH}, OldC σ0 τ → MoBox τ.H nx m V ∧ MoIn τ.H m V := fun h => hFA h.ext;clear hd eh hb hG g0 g1;refine z07 ?_;refine zbV ?_;refine z0i (σ := σ) (enc := z1L) (z := (P : Int)) (el := 3) rfl evd krf sdc ?_;intro σ2 x2' hl;replace ho := ho.keep x2' (by simp);replace hu := hu.keep x2' (by simp);replace hB := hB.keep x2' (by simp);refine zT (bytes := 8) (z := [.int .i64 0]) zR z0I hu hl xrf xrf xrf xrf xrf rfl (by simp; omega) (by omega) evd evd sdc ?_;intro v3 σ3 hu3 x3;have y3 := ho;replace ho := ho.keep x3 (by simp);replace hB := hB.keep x3 (by simp);have c1' : zf σ3.H ⟨B, 1, none⟩ (.int .i64 x2) := hB.cell rfl;have g3' := (FE ho).1.c3;have he' := (FE ho).2.entry;rw [ev] at g3' he';obtain ⟨q3, e3, hc3⟩ := he'.atI (show 0 ≤ x2 + 1 by omega) (show x2 + 1 < m.entry.length by omega);cases e3;clear c0 c1 g3 hc2 hl hu x3 x2' y3 FE he'
  repeat (first | (refine zc (by exact z09) ?_) | (refine zd ?_) | (refine OpsL.nil ?_; (change Trip _ _ _ _ _)))
  repeat (first | (refine zc (by first | exact ofa | exact old | exact z6e | exact z1j | exact z09) ?_) | (refine OpsL.nil ?_; ((repeat (refine zH ?_)); dsimp only)))
  exact hQ1 _ σ3 v3 _ hst stp stp stp stp stp ho hu3
 have hd2 : ¬ (x1 = 1 ∧ 0 ≤ x2 ∧ x2 < (m.entry.length : Int) - 1) := fun h => by have := hd.2 h; cases this
 clear hd;refine z2r ?_;refine Trip.seq ?_;refine zgg (ea := ea) (ec := ec) (m := m) (p := (P : Int)) (ua := ua) (ul := sl.length) (uc := uc) W0 hn0 (by omega) hel t1 t2 t5 t6 t7 t8 c0 c1 g0 g1 g3 ?_;clear t1 t2 t5 t6 t7 t8 td;intro tm d t1 t2 t5 t6 t7 t8 td hd;dsimp only;cases d
 rotate_left
 ·-- closes, what was pushed
  obtain ⟨rfl, h0, h1, h2⟩ := hd.1 rfl;have hne : sl ≠ [] := fun e => by rw [e] at h2; simp at h2
  obtain ⟨pre, qq, rfl⟩ : ∃ pre q, sl = pre ++ [q] := ⟨sl.dropLast, sl.getLast hne, (List.dropLast_concat_getLast hne).symm⟩;have hz : m.of.getD P 0 ≠ 0 := fun e => hne (ab.1 e)
  have hst : z25 m ((P : Int), pre ++ [qq]) (2, x2) = some (((m.ret.getD P []).getD x2.toNat []).getD ((pre ++ [qq]).getD ((pre ++ [qq]).length - 1) 0).toNat 0, (pre ++ [qq]).take ((pre ++ [qq]).length - 1)) := by
   unfold z25;rw [if_neg (show ¬ (2 : Int) = 1 by omega), if_pos rfl, if_pos ⟨h0, by show x2 ≤ _; omega⟩];show (if pre ++ [qq] = [] then _ else _) = _;rw [if_neg hne, Int.toNat_natCast]
  have e1l : (pre ++ [qq]).length - 1 = pre.length := by simp
  rw [e1l, List.take_left' rfl, z0E] at hst;obtain ⟨⟨t0, t1'⟩, -⟩ := hg.top hne;have e2l : ((pre ++ [qq] : List Int)).getD ((pre ++ [qq]).length - 1) 0 = qq := by rw [e1l, z0E]
  simp only at t0 t1';rw [e2l] at t0 t1';obtain ⟨Q', rfl⟩ : ∃ Q : Nat, qq = (Q : Int) := ⟨qq.toNat, by omega⟩;rw [Int.toNat_natCast] at hst;have hQ : Q' < m.of.length := by omega
  obtain ⟨ia, ic, iv⟩ := hG.ret.slice;have ih := hG.ret;have g7 := hb.c7;rw [iv] at g7 ih;obtain ⟨hrl, hrr⟩ := hmod.ret1 P hP hz;have hil := Nat.lt_of_lt_of_eq hP hmod.rl.symm;obtain ⟨q1, rb1, rk1, rfl, hc1, hrow⟩ := L3At.atI ih (show (0 : Int) ≤ P by omega) (show (P : Int) < m.ret.length by omega);rw [Int.toNat_natCast] at hc1 hrow;obtain ⟨R, hR⟩ : ∃ R, m.ret.getD P [] = R := ⟨_, rfl⟩;rw [hR] at hc1 hrow hrl hrr hst;clear hR;obtain ⟨q2, rb2, rk2, rfl, hc2, hrow2⟩ := L2At.atI hrow h0 (show x2 < R.length by omega);have hrr2 := Nat.le_of_eq (hrr x2.toNat (by omega)).1.symm;obtain ⟨R2, hR2⟩ : ∃ R2, R.getD x2.toNat [] = R2 := ⟨_, rfl⟩;rw [hR2] at hc2 hrow2 hrr2 hst;clear hR2 hrr;obtain ⟨q3, rfl, hc3⟩ := hrow2.atI (show (0 : Int) ≤ Q' by omega) (show (Q' : Int) < R2.length by omega);rw [Int.toNat_natCast] at hc3;obtain ⟨b, t, rest, hv, hob⟩ := z8c z6z hu hne;simp only [Value.slice.injEq] at hv;obtain ⟨rfl, -, rfl⟩ := hv;have hlen : (pre ++ [(Q' : Int)]).length = pre.length + 1 := by simp
  rw [hlen] at t6 hql
  have hcq : zf σ.H ⟨b, 0 + pre.length * 1, some t⟩ (.int .i64 Q') := by
   rw [Nat.zero_add, Nat.mul_one];refine hob.cell ?_;rw [List.getElem?_append_left (by simp), List.getElem?_map, List.getElem?_append_right (Nat.le_refl _), Nat.sub_self];rfl
  have hslc : z4Z Try.prog σ.H 22 (.slice (some ⟨b, 0, some t⟩) (pre.length + 1) (pre.length + 1)) none (some (.int .i64 (pre.length : Int))) none = some (.slice (some ⟨b, 0, some t⟩) pre.length pre.length) := by
   have := z3N (P := Try.prog) (t := 22) (el := 3) (sz := 1) (a := ⟨b, 0, some t⟩) (len := pre.length + 1) (cap := pre.length + 1) (l := 0) (h := pre.length) (tg := t) (lo := none) (hi := some (.int .i64 (pre.length : Int))) xrf xrf hob.2.2 rfl rfl rfl (.inl ⟨rfl, rfl⟩) (.inr ⟨.i64, rfl⟩) (Nat.zero_le _) (by omega);simpa using this
  have hlast : (((pre.length + 1 : Nat) : Int) - 1) = (pre.length : Int) := by omega
  have hu3 : OwnC z1L 3 .next σ (.slice (some ⟨b, 0, some t⟩) pre.length pre.length) pre := OwnC.cls z6z (rest := .int .i64 Q' :: rest) (by simpa using hob);replace hlen : PLift ((pre ++ [(Q' : Int)]).length = pre.length + 1) := ⟨hlen⟩;clear hd hrow hrow2 ih iv ev hb hG hu hob g0 g1 g3 e1l e2l t0 t1' hne;refine z07 ?_;refine zgC ?_
  (first | (refine zc (by exact zc9) ?_))
  rw [hlast];refine zfq ?_
  repeat (first | (refine zc (by exact z1g) ?_))
  (first | (refine zc (by exact zc9) ?_))
  rw [hlast];clear hlast;refine zw sdc (z6O (a := none) (b := some (.int .i64 (pre.length : Int))) (c := none) evd rfl (by simp [z3Y, ASt.ev, zb, *]) rfl hslc) ?_
  (first | (refine zc (by exact z09) ?_))
  refine z0n ?_
  (change Trip _ _ _ _ _)
  refine Trip.mono (Q := fun e st => e = .normal ∧ ∃ tm', st = ⟨tm', n, σ.H, σ.nx⟩ ∧ tm' 1 = wv ∧ tm' 2 = .pointer (some ⟨nx, 0, none⟩) ∧ tm' 5 = .int .i64 (R2.getD Q' 0) ∧ tm' 6 = .slice (some ⟨b, 0, some t⟩) pre.length pre.length ∧ tm' 7 = .int .i64 (i : Nat)) ?_ ?_
  ·refine OpsQ.drawn [12] (K := fun _ _ _ => True) zU krf krf [0, 1, 2, 3, 4, 5, 6, 7, 8, 9, 10, 11, 12] krf (fun _ _ => trivial) ?_;refine z7e ?_;refine zeF ?_;refine z5t ?_;refine zc2 ?_;refine z1K ?_
   (first | (refine zc (by exact z09) ?_))
   refine OpsL.nil ⟨fun k hk => absurd hk (by simp), ?_⟩;refine OpsQ.nil ?_;exact ⟨rfl, _, rfl, stp, stp, stp, stp, stp⟩
  rintro e st ⟨rfl, tm', rfl, z1, z2, z5, z6, z7⟩;exact zH (hQ1 tm' σ _ _ hst z1 z2 z5 z6 z7 ho hu3)
 have hd3 : ¬ (x1 = 2 ∧ 0 ≤ x2 ∧ x2 < m.closings ∧ 0 < sl.length) := fun h => by have := hd.2 h; cases this
 clear hd;refine z2r ?_;refine Trip.seq ?_;refine zh3 (ea := ea) (ec := ec) (m := m) (p := (P : Int)) (ua := ua) (ul := sl.length) (uc := uc) W0 hn0 (by omega) hel t1 t2 t5 t6 t7 t8 c0 c1 g0 g1 g3 ?_;clear t1 t2 t5 t6 t7 t8 td;intro tm d t1 t2 t5 t6 t7 t8 td hd;dsimp only;cases d
 rotate_left
 ·-- closes, nothing was pushed
  obtain ⟨rfl, h0, h1⟩ := hd.1 rfl
  have hnil : sl = [] := by
   cases sl with
   | nil => rfl
   | cons y l => exact absurd ⟨rfl, h0, h1, by simp⟩ hd3
  subst hnil
  have hst : z25 m ((P : Int), []) (2, x2) = some ((m.low.getD P []).getD x2.toNat 0, []) := by
   unfold z25;rw [if_neg (show ¬ (2 : Int) = 1 by omega), if_pos rfl, if_pos ⟨h0, by show x2 ≤ _; omega⟩];show (if ([] : List Int) = [] then _ else _) = _;rw [if_pos rfl, Int.toNat_natCast]
  obtain ⟨ia, ic, iv⟩ := hG.low.slice;have ih := hG.low;have g6 := hb.c6;rw [iv] at g6 ih;have hil := Nat.lt_of_lt_of_eq hP hmod.ll.symm;have hrl := (hmod.low0 P hP (ab.2 rfl)).1;obtain ⟨q1, rb1, rk1, rfl, hc1, hrow⟩ := L2At.atI ih (show (0 : Int) ≤ P by omega) (show (P : Int) < m.low.length by omega);rw [Int.toNat_natCast] at hc1 hrow;obtain ⟨q2, rfl, hc2⟩ := hrow.atI h0 (show x2 < (m.low.getD P []).length by omega);clear hd hrow ih iv ev hb hG;refine z07 ?_;refine Trip.mono (Q := fun e st => e = .normal ∧ ∃ tm', st = ⟨tm', n, σ.H, σ.nx⟩ ∧ tm' 1 = wv ∧ tm' 2 = .pointer (some ⟨nx, 0, none⟩) ∧ tm' 5 = .int .i64 ((m.low.getD P []).getD x2.toNat 0) ∧ tm' 6 = .slice ua ([] : List Int).length uc ∧ tm' 7 = .int .i64 (i : Nat)) ?_ ?_
  ·refine OpsQ.drawn [9] (K := fun _ _ _ => True) zU krf krf [0, 1, 2, 3, 4, 5, 6, 7, 8, 9] krf (fun _ _ => trivial) ?_;refine z7e ?_;refine zeF ?_;refine z5t ?_;refine z1K ?_
   (first | (refine zc (by exact z09) ?_))
   refine OpsL.nil ⟨fun k hk => absurd hk (by simp), ?_⟩;refine OpsQ.nil ?_;exact ⟨rfl, _, rfl, stp, stp, stp, stp, stp⟩
  rintro e st ⟨rfl, tm', rfl, z1, z2, z5, z6, z7⟩;exact zH (hQ1 tm' σ _ _ hst z1 z2 z5 z6 z7 ho hu)
 have hd4 : ¬ (x1 = 2 ∧ 0 ≤ x2 ∧ x2 < m.closings) := fun h => by have := hd.2 h; cases this
 have hst : z25 m ((P : Int), sl) (x1, x2) = none := by
  unfold z25;show (if x1 = 1 then _ else _) = _;by_cases e1 : x1 = 1
  ·rw [if_pos e1];exact if_neg (fun h => hd2 ⟨e1, h.1, by have := h.2; show x2 < _; simp only at this; omega⟩)
  ·rw [if_neg e1];by_cases e2 : x1 = 2
   ·rw [if_pos e2];exact if_neg (fun h => hd4 ⟨e2, h.1, by have := h.2; show x2 < _; simp only at this; omega⟩)
   ·rw [if_neg e2];by_cases e3 : x1 = 3
    ·rw [if_pos e3];exact if_neg (fun h => hd1 ⟨e3, h.1, by have := h.2; show x2 < _; simp only at this; omega⟩)
    ·rw [if_neg e3]
 clear hd hd1 hd2 hd3 hd4;refine z2r ?_;refine zfR ?_;exact hQ2 _ hst (by simp [zb])
end Go.Proofs.Ytjgbcpagfghfnaa
namespace Go.Proofs.Ytjgbcpagfghfnaa
open Go.Am Go.RowKit
attribute [local irreducible] aop OpsL Trip zt z1X z1E OpsR OpsQ
theorem z2I : Am.z1G Try.prog 18 := ⟨Try.f18, Try.func18, by kernel_rfl, by kernel_rfl⟩
set_option maxRecDepth 20000 in
set_option maxHeartbeats 16000000 in
theorem z6G (W0 : World) {nx : Nat} {H : Heap} {m : Mo} {V : MoV} {wv : Value} {w : List (Int × Int)} (hm : MoIn H m V) (hmod : ModOk m) (hw : RowsAt z1A 2 H wv w) (hwl : w.length ≤ 50000) :
  ACalls Try.prog W0 18 [.agg (moV m V).toArray, wv] nx H fun v nx' H' => v = .bool (z28 m w) ∧ Ext nx H nx' H' := by
 refine zg (fn := Try.f18) (c := _) Try.func18 rfl (fun tm n hn0 htm => ?_);have e0 : tm 0 = .agg (moV m V).toArray := htm 0;have e1 : tm 1 = wv := htm 1;clear htm;replace hn0 : n = 152 := hn0;refine Trip.ok fun hok => ?_;replace hok : ∀ id o, H id = some o → id < nx := hok;refine z2k ?_;refine zY hm hok ?_ evd sdc;intro G x0 okG hb hG;clear e0;have hwG := hw.ext x0 hok;obtain ⟨wa, wc, rfl⟩ := hwG.slice;have hk := hmod.k.1
 have hrun : z28 m w = match zc8 m w (m.entry.getD 0 0, []) with | none => false | some s => m.final.getD s.1.toNat false := by
  unfold z28; rw [z2u.2 hmod]; rfl
 have hgood := z7A hmod (R := fun _ => True) z4F;have FA : ∀ {N : Nat} {H' : Heap}, Ext (nx + 1) G N H' → MoBox H' nx m V ∧ MoIn H' m V := fun h => ⟨hb.ext h okG, hG.ext h okG⟩;have FW : ∀ {N : Nat} {H' : Heap}, Ext (nx + 1) G N H' → RowsAt z1A 2 H' (.slice wa w.length wc) w := fun h => hwG.ext h okG;obtain ⟨ea, ec, ev⟩ := hG.entry.slice;have eh := hG.entry;have g3 := hb.c3;rw [ev] at eh g3;obtain ⟨qe, rfl, hce⟩ := IntsAt.atI eh (show (0 : Int) ≤ 0 by omega) (show (0 : Int) < m.entry.length by omega);simp only [Int.toNat_zero] at hce;obtain ⟨E, hE⟩ : ∃ E, m.entry.getD 0 0 = E := ⟨_, rfl⟩;rw [hE] at hce hrun hgood;have hK : OldC ⟨nx + 1, fun _ => .old, G⟩ ⟨nx + 1, fun _ => .old, G⟩ := OldC.refl;clear hm hw hok hb hG okG hwG eh ev hE;refine zaF ?_
 repeat (first | (refine zc (by first | exact ofa | exact old | exact z1j | exact z09) ?_) | (refine Trip.seq ?_) | (refine zd ?_) | (refine Trip.block ?_) | (refine OpsL.nil ?_; (change Trip _ _ _ _ _)))
 obtain ⟨σ0, hσ0⟩ : ∃ σ0 : CH, ⟨nx + 1, fun _ => .old, G⟩ = σ0 := ⟨_, rfl⟩;have hσ1 : σ0.nx = nx + 1 := by rw [← hσ0]
 have hσ2 : σ0.H = G := by rw [← hσ0]
 rw [hσ0] at hK;rw [← hσ1, ← hσ2] at FA FW ⊢;clear g3 hce hσ0;refine zG (fun (i : Nat) s => ∃ tm σ uv q, s = ⟨tm, n, σ.H, σ.nx⟩ ∧ tm 1 = .slice wa w.length wc ∧ tm 2 = .pointer (some ⟨nx, 0, none⟩) ∧ tm 5 = .int .i64 q.1 ∧ tm 6 = uv ∧ tm 7 = .int .i64 i ∧ i ≤ w.length ∧ OldC σ0 σ ∧ OwnC z1L 3 .next σ uv q.2 ∧ RGood m (fun _ => True) q ∧ q.2.length ≤ i ∧ z28 m w = match zc8 m (w.drop i) q with | none => false | some s => m.final.getD s.1.toNat false) (fun i => w.length - i) 0 ?_ ?_
 ·exact ⟨_, σ0, _, (E, []), rfl, stp, stp, stp, stp, stp, by omega, hK, OwnC.nil, hgood, by simp, hrun⟩
 clear e1 hK hgood hrun;rintro i s ⟨tm, σ, uv, q, rfl, t1, t2, t5, t6, t7, hi, ho, hu, hg, hql, hrn⟩
 repeat (first | (refine zc (by first | exact omv | exact z1g | exact z24) ?_) | (refine Trip.seq ?_) | (refine zd ?_) | (refine Trip.block ?_) | (refine zJ (fun _ => ?_) (fun _ => ?_)) | (refine Trip.skip ?_; (change Trip _ _ _ _ _)) | (refine OpsL.nil ?_; (change Trip _ _ _ _ _)))
 ·have hlt : i < w.length := by omega
  have hdr : w.drop i = w[i] :: w.drop (i + 1) := List.drop_eq_getElem_cons hlt;rw [hdr] at hrn;rcases FW ho.ext with ⟨c0, hc0, hc1⟩ | ⟨p, c0, hc0, hc1⟩
  ·rw [hc1] at hlt; simp at hlt
  cases hc0;have hcell := hc1 i hlt;obtain ⟨⟨x1, x2⟩, hx⟩ : ∃ x, w[i] = x := ⟨_, rfl⟩;rw [hx] at hrn hcell;have hst : zc8 m ((x1, x2) :: w.drop (i + 1)) q = match z25 m q (x1, x2) with | none => none | some t => zc8 m (w.drop (i + 1)) t := rfl
  rw [hst] at hrn;clear hst hdr hx hc1;refine zbl ?_;refine zw sdc (zy (k := 2) (vs := z1A (x1, x2)) evr xrf rfl xrf hcell) ?_;refine zo .tmp (zV (l := z1A (0, 0)) xrf) sdc ?_;intro σ2 hB y2;obtain ⟨B, hBn⟩ : ∃ B, σ.nx = B := ⟨_, rfl⟩;rw [hBn] at hB ⊢;replace ho := ho.keep y2 (by simp);replace hu := hu.keep y2 (by simp);refine zO (vs := z1A (x1, x2)) hB xrf rfl rfl rfl evd evd ?_;intro σ3 hB3 y3;replace ho := ho.keep y3 (by simp);replace hu := hu.keep y3 (by simp);clear hcell hB hBn y2 y3;refine z0n ?_
  (change Trip _ _ _ _ _)
  refine zgf (q := q) (i := i) (x1 := x1) (x2 := x2) (wv := .slice (some p) w.length wc) (uv := uv) W0 hmod hn0 FA hg (by omega) stp stp stp stp stp stp hB3 ho hu ?_ ?_
  ·clear t1 t2 t5 t6 t7;intro tm σ' uv' q' hsome t1 t2 t5 t6 t7 ho hu;rw [hsome] at hrn;have hg2 := z8V hmod z4F hg hsome;have hlen : q'.2.length ≤ q.2.length + 1 := zaQ hsome;refine zc4 ?_;exact ⟨i + 1, ⟨_, σ', uv', q', rfl, stp, stp, stp, stp, stp, by omega, ho, hu, hg2, by omega, hrn⟩, by omega⟩
  ·intro tm' hnone t4;rw [hnone] at hrn;have hres : z28 m w = false := by rw [hrn]
   have hx := ho.ext;rw [hσ1, hσ2] at hx;refine z0h ?_;dsimp only;refine z0h ?_;exact ⟨.inr rfl, _, zn, by rw [hres, ← t4], x0.trans hx⟩
 ·have hi2 : i = w.length := by omega
  subst hi2;rw [List.drop_length] at hrn;have hres : z28 m w = m.final.getD q.1.toNat false := by rw [hrn]; rfl
  obtain ⟨⟨a0, a1⟩, -, -⟩ := hg.at;obtain ⟨P, hP⟩ : ∃ P : Nat, q.1 = (P : Int) := ⟨q.1.toNat, by omega⟩;rw [hP, Int.toNat_natCast] at hres;rw [hP] at t5 a1;have hbb := FA ho.ext;obtain ⟨fa, fc, fv⟩ := hbb.2.final.slice;have fh := hbb.2.final;have g4 := hbb.1.c4;rw [fv] at fh g4;have fl := Nat.le_of_eq hmod.fl.symm;obtain ⟨qf, rfl, hcf⟩ := BoolsAt.atI fh (show (0 : Int) ≤ P by omega) (show (P : Int) < m.final.length by omega);rw [Int.toNat_natCast] at hcf
  repeat (first | (refine zc (by first | exact omv | exact ofa | exact old | exact z1j | exact z09) ?_) | (refine Trip.seq ?_) | (refine zd ?_) | (refine Trip.exit ?_; ((repeat (refine zD ?_)); change Trip _ _ _ _ _)) | (refine Trip.ret ?_; (dsimp only)) | (refine OpsL.nil ?_; (change Trip _ _ _ _ _)))
  exact ⟨.inr rfl, _, zn, by rw [hres]; simp [zb], x0.trans (by have := ho.ext; rw [hσ1, hσ2] at this; exact this)⟩
end Go.Proofs.Ytjgbcpagfghfnaa
namespace Go.Proofs.Ytjgbcpagfghfnaa
open Go.Am Go.RowKit
attribute [local irreducible] aop OpsL Trip zt z1X z1E OpsR OpsQ
theorem z3s : Am.z1G Try.prog 28 := ⟨Try.f28, Try.func28, by kernel_rfl, by kernel_rfl⟩
set_option maxRecDepth 20000 in
set_option maxHeartbeats 16000000 in
theorem z5T (W0 : World) {nx : Nat} {H : Heap} {ov lv : Value} {cls l : List Int} (hc : IntsAt H ov cls) (hl : IntsAt H lv l) (hb : ∀ x ∈ l, 0 ≤ x ∧ x < (cls.length : Int)) (hll : l.length ≤ 1000) (hcl : cls.length ≤ 1000) :
  ACalls Try.prog W0 28 [ov, lv] nx H fun v nx' H' => ∃ ob, OwnOf z1L 1 3 H' ob v (zC cls l) ∧ (∀ b t, ob = some (b, t) → nx ≤ b ∧ b < nx') ∧ Ext nx H nx' H' := by
 refine zg (fn := Try.f28) (c := _) Try.func28 rfl (fun tm n hn0 htm => ?_);have e0 : tm 0 = ov := htm 0;have e1 : tm 1 = lv := htm 1;clear htm;replace hn0 : n = 24 := hn0;refine Trip.ok fun hok => ?_;replace hok : ∀ id o, H id = some o → id < nx := hok;have FC : ∀ {τ : CH}, OldC ⟨nx, fun _ => .old, H⟩ τ → IntsAt τ.H ov cls ∧ IntsAt τ.H lv l := fun h => ⟨hc.ext h.ext hok, hl.ext h.ext hok⟩;obtain ⟨oa, oc, rfl⟩ := hc.slice;obtain ⟨la, lc, rfl⟩ := hl.slice;clear hc hl hok;refine zdt ?_;have hK : OldC ⟨nx, fun _ => .old, H⟩ ⟨nx, fun _ => .old, H⟩ := OldC.refl;obtain ⟨σ0, hσ0⟩ : ∃ σ0 : CH, (⟨nx, fun _ => .old, H⟩ : CH) = σ0 := ⟨_, rfl⟩;have hσ1 : σ0.nx = nx := by rw [← hσ0]
 have hσ2 : σ0.H = H := by rw [← hσ0]
 have hσ3 : ∀ i, σ0.C i = .old := fun i => by rw [← hσ0]
 rw [hσ0] at hK FC;rw [← hσ1, ← hσ2];clear hσ0;refine zG (fun (i : Nat) s => ∃ tm σ v, s = ⟨tm, n, σ.H, σ.nx⟩ ∧ tm 0 = .slice oa cls.length oc ∧ tm 1 = .slice la l.length lc ∧ tm 5 = v ∧ tm 6 = .int .i64 i ∧ i ≤ l.length ∧ OldC σ0 σ ∧ OwnC z1L 3 .next σ v (zC cls (l.take i))) (fun i => l.length - i) 0 ?_ ?_
 ·exact ⟨_, σ0, _, rfl, stp, stp, stp, stp, by omega, hK, OwnC.nil⟩
 clear hK e0 e1;rintro i s ⟨tm, σ, v, rfl, t0, t1, t5, t6, hi, ho, hv⟩
 repeat (first | (refine zc (by first | exact omv | exact z1g | exact z24) ?_) | (refine Trip.seq ?_) | (refine zd ?_) | (refine Trip.block ?_) | (refine zJ (fun _ => ?_) (fun _ => ?_)) | (refine Trip.skip ?_; (change Trip _ _ _ _ _)) | (refine OpsL.nil ?_; (change Trip _ _ _ _ _)))
 ·have hlt : i < l.length := by omega
  obtain ⟨hci, hli⟩ := FC ho;have hm := hb _ (zM hlt);obtain ⟨q1, rfl, hc1⟩ := hli.atI (show (0 : Int) ≤ i by omega) (show (i : Int) < l.length by omega);rw [Int.toNat_natCast] at hc1
  have hsn : zC cls (l.take (i + 1)) = zC cls (l.take i) ++ [cls.getD (l.getD i 0).toNat 0] := by
   unfold zC;rw [List.take_succ_eq_append_getElem hlt, List.map_append, List.getD_eq_getElem?_getD (l := l), List.getElem?_eq_getElem hlt]; rfl
  have hml : (zC cls (l.take i)).length ≤ 1000 := by rw [z0r, List.length_take]; omega
  obtain ⟨x, hx⟩ : ∃ x, l.getD i 0 = x := ⟨_, rfl⟩;rw [hx] at hc1 hm hsn;obtain ⟨q2, rfl, hc2⟩ := hci.atI hm.1 hm.2;clear hx hci hli;generalize zC cls (l.take i) = R at *;refine zcc ?_;refine z0i (σ := σ) (enc := z1L) (z := cls.getD x.toNat 0) (el := 3) rfl evd krf sdc ?_;intro σ2 x2 hu;replace ho := ho.keep x2 (by simp);replace hv := hv.keep x2 (by simp);refine zT (bytes := 8) (z := [.int .i64 0]) zR z0I hv hu xrf xrf xrf xrf xrf rfl (by simp; omega) (by omega) evd evd sdc ?_;intro v3 σ3 hv3 x3;replace ho := ho.keep x3 (by simp);rw [← hsn] at hv3;clear hv hu hc1 hc2 x2 x3;refine zfN ?_;exact ⟨i + 1, ⟨_, σ3, v3, rfl, stp, stp, stp, stp, by omega, ho, hv3⟩, by omega⟩
 ·have hie : i = l.length := by omega
  rw [hie, List.take_length] at hv;obtain ⟨ob, hown, hob⟩ := hv;refine zdu ?_;refine ⟨.inr rfl, _, zn, ob, by simpa [zb, t5] using hown, fun b t e => ?_, ho.ext⟩;obtain ⟨k1, k2⟩ := hob b t e;refine ⟨?_, k1⟩;by_cases hlt : b < nx
  ·have := (ho.2 b (by rw [hσ1]; exact hlt)).1;rw [k2] at this;cases this
  ·rw [hσ1]; omega
end Go.Proofs.Ytjgbcpagfghfnaa
