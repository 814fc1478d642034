import Derived.Test.YtjgbcpagfghfnaaQYM23
import Derived.Test.YtjgbcpagfghfnaaQYM15
set_option linter.unusedVariables false
set_option linter.unusedSimpArgs false
set_option linter.unnecessarySimpa false
namespace Go.Am
open Go.RowKit
def d3 (ns : List Int) (q : MkP) (p : Nat) : MkD :=
 ⟨zcb (l1F ns q.k q.n).2.1 q.pl q.cl q.n ((l1F ns q.k q.n).1 + q.k) p, (l1F ns q.k q.n).2.1, z0t ns (fun c => z2i (l1F ns q.k q.n).2.1 c) (l1F ns q.k q.n).1 q.k, (List.range q.k).map fun (c : Nat) => z2i (l1F ns q.k q.n).2.1 (c : Int), (l1F ns q.k q.n).2.2,
  (List.range p).map (zfv ns q (l1F ns q.k q.n).2.1 ((l1F ns q.k q.n).1 + q.k)), (List.range p).map (zfK ns q (l1F ns q.k q.n).2.1 ((l1F ns q.k q.n).1 + q.k)), (List.range p).map (zfJ ns q (l1F ns q.k q.n).2.1 ((l1F ns q.k q.n).1 + q.k))⟩
theorem zhm (ns : List Int) (q : MkP) : d2 ns q q.k = d3 ns q 0 := by simp [d2, d3, zcb]
theorem zff (ns : List Int) (q : MkP) (p : Nat) {o : List Int} {c3 c2 : Nat} {c : Int} (ho : (l1F ns q.k q.n).2.1 = o) (h2 : (l1F ns q.k q.n).1 + q.k = c2) (h3 : zcb o q.pl q.cl q.n c2 p = c3) (hc : o.getD p 0 = c) :
  { d3 ns q p with cnt := c3 + q.pl + (if c = 0 then q.cl else 0) + (if c = 0 then 0 else q.cl) * q.n, I := (d3 ns q p).I ++ [z0t ns (fun _ => z2i o c) c3 q.pl], W := (d3 ns q p).W ++ [z0t ns (fun _ => z2i o c) (c3 + q.pl) (if c = 0 then q.cl else 0)], R := (d3 ns q p).R ++ [(List.range (if c = 0 then 0 else q.cl)).map (zbY ns q o (c3 + q.pl + (if c = 0 then q.cl else 0)))] } = d3 ns q (p + 1) := by
 subst ho h2 h3 hc;unfold d3;simp only [List.range_succ, List.map_append, List.map_singleton, zcb, zfv, zfK, zfJ, MkD.mk.injEq, true_and, and_true];split
 ·simp
 ·simp [z0t]
end Go.Am
namespace Go.Proofs.Ytjgbcpagfghfnaa
open Go.Am Go.RowKit
attribute [local irreducible] aop OpsL Trip zt z1X z1E OpsR OpsQ
set_option maxRecDepth 20000 in
set_option maxHeartbeats 16000000 in
theorem zhC (W0 : World) {σ0 σ : CH} {X : MkX} {q : MkP} {V : MoV} {tm : Nat → Value} {n : Nat} (hq : q.ok) (hn0 : n = 220) (hpl : X.pl = q.pl) (hcl : X.cl = q.cl) (ht : T1 tm X q) (h13 : tm 13 = .int .i64 0) (h : MkS σ0 σ X (d3 X.ns q 0) V) {Q : AExit → ASt → Prop}
  (hQ : ∀ tm' σ' V', T1 tm' X q → MkS σ0 σ' X (d3 X.ns q q.n) V' → Q .normal ⟨tm', n, σ'.H, σ'.nx⟩) : Trip Try.prog W0 (z3t [1, 1, 1, 1, 1, 1, 1, 1, 1, 0, 1] (z0B Try.f7)) ⟨tm, n, σ.H, σ.nx⟩ Q := by
 obtain ⟨z1, z2, z3, z4, z5, z6⟩ := hq;have hq : q.ok := ⟨z1, z2, z3, z4, z5, z6⟩;refine Trip.block ?_;refine zG (fun (p : Nat) s => ∃ tm σ V, s = ⟨tm, n, σ.H, σ.nx⟩ ∧ T1 tm X q ∧ tm 13 = .int .i64 p ∧ p ≤ q.n ∧ MkS σ0 σ X (d3 X.ns q p) V) (fun p => q.n - p) 0 ?_ ?_
 ·exact ⟨tm, σ, V, rfl, ht, h13, by omega, h⟩
 clear h ht h13;rintro p s ⟨tm, σ, V, rfl, ⟨t4, t5, t6, t7, t8, t9⟩, t13, hi, h⟩;obtain ⟨hl1, hl2, hl3⟩ := z4Q X.ns q.k q.n;have hof := za8 X.ns (show 0 < q.k by omega) q.n;have hne : ∀ c : Int, 0 ≤ c → c < q.k → z2i (l1F X.ns q.k q.n).2.1 c ≠ [] := fun c h0 h1 => z6K (ns := X.ns) hq c h0 h1
 repeat (first | (refine zc (by first | exact omv | exact z24) ?_) | (refine Trip.seq ?_) | (refine zd ?_) | (refine Trip.block ?_) | (refine zJ (fun _ => ?_) (fun _ => ?_)) | (refine Trip.skip ?_; (change Trip _ _ _ _ _)) | (refine OpsL.nil ?_; (change Trip _ _ _ _ _)))
 ·have hlt : p < q.n := by omega
  obtain ⟨o, ho⟩ : ∃ o, (l1F X.ns q.k q.n).2.1 = o := ⟨_, rfl⟩;obtain ⟨c2, hc2⟩ : ∃ c, (l1F X.ns q.k q.n).1 + q.k = c := ⟨_, rfl⟩;obtain ⟨c3, hc3⟩ : ∃ c, zcb o q.pl q.cl q.n c2 p = c := ⟨_, rfl⟩;obtain ⟨c, hc⟩ : ∃ c, o.getD p 0 = c := ⟨_, rfl⟩;have hD := zff X.ns q p ho hc2 hc3 hc;obtain ⟨R, hR⟩ : ∃ r, z2i o c = r := ⟨_, rfl⟩;have hDL : (d3 X.ns q p).L = o := ho;have hDT : (d3 X.ns q p).T = (List.range q.k).map fun (c : Nat) => z2i o (c : Int) := by rw [← ho]; rfl
  have hDc : (d3 X.ns q p).cnt = c3 := by rw [← hc3, ← ho, ← hc2]; rfl
  have hDI : (d3 X.ns q p).I.length = p := by simp [d3]
  have hDW : (d3 X.ns q p).W.length = p := by simp [d3]
  have hDR : (d3 X.ns q p).R.length = p := by simp [d3]
  have hb3 : c3 ≤ 300 := by
   have := zcF o c2 z1 z2 z6 (by omega) p;omega
  rw [hR] at hD;generalize d3 X.ns q p = D at *;rw [ho] at hl1 hof hne;have hok2 : ∀ x, x < q.n → 0 ≤ o.getD x 0 ∧ o.getD x 0 < q.k := fun x hx => (hof x hx).1;obtain ⟨hc0, hc1⟩ := hok2 p hlt;have hne1 := hne _ hc0 hc1;rw [hc] at hc0 hc1 hne1;rw [hR] at hne1;have hRl : R.length ≤ 1000 := by have := z6g o c; rw [hR] at this; omega
  clear hl2 hl3 hof ho hc2 hc3;obtain ⟨bo, hvo, hbo⟩ := h.of.block;replace hvo : V.o = .slice (some ⟨bo, 0, none⟩) D.L.length D.L.length := hvo;rw [hDL, hl1] at hvo;have g2 : zf σ.H ⟨X.A, 2, none⟩ V.o := h.a.cell rfl;rw [hvo] at g2
  have g3 : zf σ.H ⟨bo, 0 + p * 1, none⟩ (.int .i64 c) := by
   rw [Nat.zero_add, Nat.mul_one];refine hbo.cell ?_;show (D.L.map (Value.int .i64 ·))[p]? = _;rw [hDL, List.getElem?_map, List.getElem?_eq_getElem (by omega), ← hc, List.getD_eq_getElem?_getD, List.getElem?_eq_getElem (by omega)];rfl
  obtain ⟨vs, bt, ta, tk, htv, hbt, hall, hvc, hrow⟩ := h.tb.row (c := c.toNat) (by rw [hDT]; simp; omega);have hTl : D.T.length = q.k := by rw [hDT]; simp
  replace htv : X.tv = .slice (some ⟨bt, 0, none⟩) D.T.length D.T.length := htv;have hTc : D.T.getD c.toNat [] = R := by rw [hDT, z0x (by omega), Int.toNat_of_nonneg hc0, hR]
  rw [hTc] at hvc hrow;rw [hTl] at htv;have t9' := t9;rw [htv] at t9
  have g4 : zf σ.H ⟨bt, 0 + c.toNat * 1, none⟩ (.slice ta R.length tk) := by
   rw [Nat.zero_add, Nat.mul_one];exact hbt.cell (by rw [List.getElem?_map, hvc]; rfl)
  clear hall hvc hbt hR hbo
  repeat (first | (refine zc (by first | exact omv | exact ofa | exact old | exact z1j) ?_))
  (first | (refine zc (by exact z09) ?_))
  refine z0n ?_
  (change Trip _ _ _ _ _)
  refine z2k ?_
  (first | (refine zc (by exact z09) ?_))
  (first | (refine zc (by exact z09) ?_))
  refine z0n ?_
  (change Trip _ _ _ _ _)
  refine z2k ?_
  (first | (refine zc (by exact z09) ?_))
  refine z0n ?_
  (change Trip _ _ _ _ _)
  refine Trip.seq (Trip.seq ?_);refine zd ?_
  (first | (refine zc (by exact z09) ?_))
  refine z0n ?_
  (change Trip _ _ _ _ _)
  refine zhF (X := X) (q := q) (D := D) (V := V) (p := p) (c3 := c3) (c := c) (R := R) (lv := .slice ta R.length tk) W0 hq hn0 hpl ⟨stp, stp, stp, stp, stp, stp⟩ stp stp stp stp stp stp hDI hDc (by omega) hne1 hRl hrow h ?_;clear t4 t5 t6 t7 t8 t9 t9' t13 g2 g3 g4 h hrow hvo htv;intro tm σ vi ⟨t4, t5, t6, t7, t8, t9⟩ t13 t14 t15 t16 t17 h hrow hin;dsimp only;refine Trip.seq (Trip.seq ?_);refine zd ?_
  (first | (refine zc (by exact z09) ?_))
  refine z0n ?_
  (change Trip _ _ _ _ _)
  refine zh9 (X := X) (q := q) (D := { D with cnt := c3 + q.pl }) (V := V) (p := p) (c3 := c3 + q.pl) (c := c) (R := R) (lv := .slice ta R.length tk) W0 hq hn0 hcl ⟨stp, stp, stp, stp, stp, stp⟩ stp stp (vin := vi) stp stp stp stp hDI hDW (by show D.L.length = _; rw [hDL, hl1]) hlt (by show D.L.getD p 0 = c; rw [hDL, hc]) rfl (by omega) hne1 hRl hrow hin h ?_;clear t4 t5 t6 t7 t8 t9 t13 t14 t15 t16 t17 h hrow hin;intro tm σ vl ⟨t4, t5, t6, t7, t8, t9⟩ t13 t14 t15 t16 t17 h hrow hin hlow;dsimp only;refine Trip.seq (Trip.seq ?_);refine zd ?_
  (first | (refine zc (by exact z09) ?_))
  refine z0n ?_
  (change Trip _ _ _ _ _)
  have hlim : (if c = 0 then q.cl else 0) ≤ 2 := by split <;> omega
  refine zh8 (X := X) (q := q) (D := { D with cnt := c3 + q.pl + (if c = 0 then q.cl else 0) }) (V := V) (p := p) (o := o) (c3 := c3 + q.pl + (if c = 0 then q.cl else 0)) (c := c) W0 hq hn0 ⟨stp, stp, stp, stp, stp, stp⟩ stp (vin := vi) stp (vlow := vl) stp hDI hDW hDR hDL hl1 hDT hok2 hne hin hlow h hlt hc hcl stp stp rfl (by omega) ?_;clear t4 t5 t6 t7 t8 t9 t13 t14 t15 t16 t17 h hrow hin hlow;intro tm σ vr ⟨t4, t5, t6, t7, t8, t9⟩ t13 t15 t16 t17 h hin hlow hret;dsimp only;refine zha (X := X) (q := q) (D := { D with cnt := c3 + q.pl + (if c = 0 then q.cl else 0) + (if c = 0 then 0 else q.cl) * q.n }) (V := V) (p := p) W0 hn0 ⟨t4, t5, t6, t7, t8, t9⟩ t13 t15 t16 t17 hDI hDW hDR (by omega) hin hlow hret h ?_;clear t4 t5 t6 t7 t8 t9 t13 t15 t16 t17 h hin hlow hret;intro tm σ V ⟨t4, t5, t6, t7, t8, t9⟩ t13 h;dsimp only at h;rw [hD] at h;refine zc4 ?_;exact ⟨p + 1, ⟨_, σ, V, rfl, ⟨stp, stp, stp, stp, stp, stp⟩, stp, by omega, h⟩, by omega⟩
 ·repeat (first | (refine Trip.exit ?_; ((repeat (refine zD ?_)))))
  have hi2 : p = q.n := by omega
  subst hi2;exact hQ _ σ V ⟨stp, stp, stp, stp, stp, stp⟩ h
end Go.Proofs.Ytjgbcpagfghfnaa
namespace Go.Am
open Go.RowKit
def z2j : MoV := ⟨.slice none 0 0, .slice none 0 0, .slice none 0 0, .slice none 0 0, .slice none 0 0, .slice none 0 0⟩
theorem zf3 (k : Nat) (z : Value) : rep k [z] = List.replicate k z := by
 unfold rep
 induction k with
 | zero => rfl
 | succ n ih => rw [List.replicate_succ, List.flatten_cons, ih, List.replicate_succ]; rfl
theorem z0f {P : Program} {nx : Nat} {t el : TypeId} {m bytes : Nat} {z : Value} (hu : P.underlying t = some (.slice el)) (hs : z1W P el = some 1) (hb : z0u P el = some bytes) (hz : z0Y P el = some [z]) (hm : m ≤ 100000) (hbl : bytes ≤ 1000) :
  z2T P nx t (.int .i64 m) (.int .i64 m) = some (.slice (some ⟨nx, 0, none⟩) m m, .new (.cells (List.replicate m z) 1 none false (some el))) := by
 have h1 : bytes * m ≤ 1000 * 100000 := Nat.mul_le_mul hbl hm;unfold z2T;simp only [hu, hs, hb, hz, Int.toNat_natCast, zf3];rw [if_pos ⟨by omega, by omega, by omega, by omega, rfl⟩]
section
attribute [local irreducible] aop OpsL Trip zt z1X z1E OpsR OpsQ
variable {P : Program} {W0 : World} {σ : CH} {n : Nat} {ops : Array Oper} {l : List Oper} {tm : Nat → Value} {QQ : ASt → Prop} {d : Tmp} {type : TypeId} {pos : String} {after : Array Edge}
theorem zO {c : Co} {b e k : Nat} {zs vs : List Value} {tg : Option Nat} {q : Option TypeId} {t : TypeId} {x y : Operand} (ho : ObC c σ b (.cells zs e tg false q)) (hs : z1W P t = some k) (hk : vs.length = k) (hl : vs.length = zs.length) (h1 : vs.all (·.oneCell') = true)
  (hx : ASt.ev ⟨tm, n, σ.H, σ.nx⟩ x = some (.pointer (some ⟨b, 0, tg⟩))) (hy : ASt.ev ⟨tm, n, σ.H, σ.nx⟩ y = some (.agg vs.toArray))
  (h : ∀ τ, ObC c τ b (.cells vs e tg false q) → Chg [c] σ τ → OpsL P W0 ops l ⟨tm, n, τ.H, τ.nx⟩ QQ) :
  OpsL P W0 ops (⟨none, .store t x y, type, pos, after, none⟩ :: l) ⟨tm, n, σ.H, σ.nx⟩ QQ := by
 refine OpsL.upd (z2C (a := ⟨b, 0, tg⟩) (k := k) (u := .agg vs.toArray) hx hy hs (by rw [← hk]; rfl) (o := .cells vs e tg false q) (z2W (vs := vs) ho.2.2 hl h1)) ?_;refine h ⟨σ.nx, σ.C, σ.H.put b (.cells vs e tg false q)⟩ ⟨ho.1, ho.2.1, zu⟩ ⟨Nat.le_refl _, fun i hi => ⟨rfl, fun hn => zj fun e => ?_⟩⟩;subst e;rw [ho.2.1] at hn;exact hn (List.mem_singleton.2 rfl)
end
end Go.Am
namespace Go.Proofs.Ytjgbcpagfghfnaa
open Go.Am Go.RowKit
attribute [local irreducible] aop OpsL Trip zt z1X z1E OpsR OpsQ
structure J5 (σ0 : CH) (X : MkX) (q : MkP) (l : List Nat) (tm : Nat → Value) (σ : CH) : Prop where
 old : OldC σ0 σ
 a : ObC .self σ X.A (z4q X.pl X.cl ⟨if 5 ∈ l then .slice none 0 0 else tm 43, if 7 ∈ l then .slice none 0 0 else tm 45, .slice none 0 0, .slice none 0 0, .slice none 0 0, .slice none 0 0⟩)
 b : ObC .next σ X.B (za1 X.nv 0)
 r : ∃ cs, cs.length = 8 ∧ ObC .tmp σ X.a4 (.cells cs 0 none false (some 29))
 n : IntsC .old σ X.nv X.ns
 t4 : tm 4 = .pointer (some ⟨X.a4, 0, none⟩)
 t5 : tm 5 = .pointer (some ⟨X.A, 0, none⟩)
 t6 : tm 6 = .int .i64 q.k
 t7 : tm 7 = .int .i64 q.n
 t8 : tm 8 = .pointer (some ⟨X.B, 0, none⟩)
 t42 : tm 42 = .int .i64 q.n
 t44 : tm 44 = .int .i64 q.k
 t46 : 4 ∉ l → tm 46 = .pointer (some ⟨X.A, 0 + 2, none⟩)
 t47 : 6 ∉ l → tm 47 = .pointer (some ⟨X.A, 0 + 3, none⟩)
 of : 1 ∉ l → PlainC 3 .of σ (tm 43) ((List.replicate q.n (0 : Int)).map (.int .i64 ·))
 en : 3 ∉ l → PlainC 3 .entry σ (tm 45) ((List.replicate q.k (0 : Int)).map (.int .i64 ·))
 cA : 5 ∈ l → 7 ∈ l
set_option maxRecDepth 20000 in
set_option maxHeartbeats 16000000 in
theorem zgm (W0 : World) {σ0 : CH} {nv : Value} {ns : List Int} {size : Int} (hold : ∀ i, i < σ0.nx → σ0.C i = .old) (hn : IntsC .old σ0 nv ns) (hs : -9223372036854775808 ≤ size ∧ size ≤ 9223372036854775807) :
  ACalls Try.prog W0 7 [.int .i64 size, nv] σ0.nx σ0.H fun v nx' H' => ∃ V σ, v = .agg (moV (z8F size ns) V).toArray ∧ nx' = σ.nx ∧ H' = σ.H ∧ OldC σ0 σ ∧ MkO σ (z8F size ns) V := by
 refine zg (fn := Try.f7) (c := _) Try.func7 rfl (fun tm n hn0 htm => ?_);have e0 : tm 0 = .int .i64 size := htm 0;have e1 : tm 1 = nv := htm 1;clear htm;replace hn0 : n = 220 := hn0;obtain ⟨na, nc, rfl⟩ := hn.at.slice;obtain ⟨hs0, hs1⟩ := hs;have hold0 : OldC σ0 σ0 := ⟨Nat.le_refl _, fun i hi => ⟨hold i hi, rfl⟩⟩;obtain ⟨z1, z2, z3, z4, z5, z6⟩ := zck size;have a1 := Int.emod_nonneg size (show (3 : Int) ≠ 0 by omega);have b1 := Int.emod_nonneg (size.tdiv 3) (show (3 : Int) ≠ 0 by omega);have c1 := Int.emod_nonneg (size.tdiv 9) (show (3 : Int) ≠ 0 by omega);have d1 := Int.emod_nonneg (size.tdiv 27) (show (6 : Int) ≠ 0 by omega);have kpl : size % 3 = ((mkP size).pl : Int) := by simp only [mkP]; omega
 have kcl : size.tdiv 3 % 3 = ((mkP size).cl : Int) := by simp only [mkP]; omega
 have kk : 1 + size.tdiv 9 % 3 = ((mkP size).k : Int) := by simp only [mkP]; omega
 have kn : ((mkP size).k : Int) + size.tdiv 27 % 6 = ((mkP size).n : Int) := by simp only [mkP]; omega
 refine z2k ?_;refine zo .tmp (zV (l := moC 0 0 z2j) xrf) sdc ?_;intro σ1 h4 x1;replace hold0 := hold0.keep x1 (by simp);replace hn := hn.keep x1 (by simp);refine z0n ?_
 (change Trip _ _ _ _ _)
 refine zbV ?_;refine OpsL.c2 (hf := z1x) (hc := (z5w W0 size 3 (by omega) (by omega))) (h := ?_);rintro v nx1 H1 ⟨rfl, rfl, rfl⟩;refine z9V ?_;refine zw sdc (z6p (a := size) (b := 3) evd evr (by omega) hs0 hs1) ?_;refine OpsL.c2 (hf := z1x) (hc := (z5w W0 (size.tdiv 3) 3 (by omega) (by omega))) (h := ?_);rintro v nx1 H1 ⟨rfl, rfl, rfl⟩;refine zw sdc (z0C (l := [(0, .int .i64 (size % 3)), (1, .int .i64 (size.tdiv 3 % 3))]) (v := .agg (moC (size % 3) (size.tdiv 3 % 3) z2j).toArray) (by simp [zQ, ASt.ev, zb]) krf) ?_;refine zo .self (zV (l := moC 0 0 z2j) xrf) sdc ?_;intro σ2 ha x2;replace hold0 := hold0.keep x2 (by simp);replace hn := hn.keep x2 (by simp);replace h4 := h4.keep x2 (by simp);refine zO (vs := moC (size % 3) (size.tdiv 3 % 3) z2j) ha xrf rfl rfl rfl evd evd ?_;intro σ3 ha3 x3;replace hold0 := hold0.keep x3 (by simp);replace hn := hn.keep x3 (by simp);replace h4 := h4.keep x3 (by simp);refine z0n ?_
 (change Trip _ _ _ _ _)
 obtain ⟨A, hA⟩ : ∃ A, σ1.nx = A := ⟨_, rfl⟩;obtain ⟨a4, ha4⟩ : ∃ A, σ0.nx = A := ⟨_, rfl⟩;rw [hA] at ha3;rw [ha4] at h4;refine zbV ?_;refine zw sdc (z6p (a := size) (b := 9) evd evr (by omega) hs0 hs1) ?_;refine OpsL.c2 (hf := z1x) (hc := (z5w W0 (size.tdiv 9) 3 (by omega) (by omega))) (h := ?_);rintro v nx1 H1 ⟨rfl, rfl, rfl⟩;refine zw sdc (z7W (a := 1) (b := size.tdiv 9 % 3) evr evd (by omega)) ?_;rw [kk]
 (first | (refine zc (by exact z09) ?_))
 refine z0n ?_
 (change Trip _ _ _ _ _)
 refine zbV ?_;refine zw sdc (z6p (a := size) (b := 27) evd evr (by omega) hs0 hs1) ?_;refine OpsL.c2 (hf := z1x) (hc := (z5w W0 (size.tdiv 27) 6 (by omega) (by omega))) (h := ?_);rintro v nx1 H1 ⟨rfl, rfl, rfl⟩;refine zw sdc (z7W (a := (mkP size).k) (b := size.tdiv 27 % 6) evd evd (by omega)) ?_;rw [kn]
 (first | (refine zc (by exact z09) ?_))
 refine z0n ?_
 (change Trip _ _ _ _ _)
 refine zbV ?_;refine zw sdc (z0C (l := [(0, .slice na ns.length nc)]) (v := .agg #[.slice na ns.length nc, .int .i64 0]) (by simp [zQ, ASt.ev, zb, *]) krf) ?_;refine zo .next (z5C (v := .agg #[.slice na ns.length nc, .int .i64 0]) evd) sdc ?_;intro σ4 hb x4;replace hold0 := hold0.keep x4 (by simp);replace hn := hn.keep x4 (by simp);replace h4 := h4.keep x4 (by simp);replace ha3 := ha3.keep x4 (by simp);replace hb : ObC .next σ4 σ3.nx (za1 (.slice na ns.length nc) 0) := hb
 (first | (refine zc (by exact z09) ?_))
 refine z0n ?_
 (change Trip _ _ _ _ _)
 rw [kpl, kcl] at ha3;have hmk : z8F size ns = z26 ns (mkP size) := rfl;rw [hmk];have hq := zck size;generalize mkP size = q at *;clear kpl kcl kk kn a1 b1 c1 d1 x1 x2 x3 x4 ha
 repeat (first | (refine Trip.seq ?_))
 obtain ⟨X, hX⟩ : ∃ X : MkX, MkX.mk A σ3.nx a4 (.slice na ns.length nc) (.slice none 0 0) ns q.pl q.cl = X := ⟨_, rfl⟩;refine Trip.mono (Q := fun e st => e = .normal ∧ ∃ tm σ, st = ⟨tm, n, σ.H, σ.nx⟩ ∧ J5 σ0 X q [] tm σ) ?_ ?_
 ·refine OpsQ.drawn [1, 3, 4, 5, 6, 7] (K := fun _ _ _ => True) zU krf krf [0, 2, 1, 3, 4, 5, 6, 7] krf (fun _ _ => trivial) ?_;refine zg3 ?_;refine z9X ?_;refine zbe (L0 := [1, 3, 4, 5, 6, 7]) (J := fun l st => ∃ tm σ, st = ⟨tm, n, σ.H, σ.nx⟩ ∧ J5 σ0 X q l tm σ ∧ (1 ∈ l → 5 ∈ l) ∧ (3 ∈ l → 7 ∈ l)) (fun _ _ _ _ _ => trivial) ?_ ?_ _ _ _ (Nat.le_refl _) (fun _ h => h) (by decide) ?_
  ·rintro l st j hsub hnd ⟨tm, σ, rfl, h, h15, h37⟩ hj hfr;have hmem : ∀ k, k ∈ l.erase j ↔ k ≠ j ∧ k ∈ l := fun k => by rw [hnd.mem_erase_iff]
   have hdep : ∀ k, z79 _ j k = true → k ≠ j → k ∉ l := fun k hd hk hkl => by
    have := z1l.1 hfr k ((hmem k).2 ⟨hk, hkl⟩);rw [hd] at this;cases this
   have hj9 := hsub j hj;simp only [List.mem_cons, List.not_mem_nil, or_false] at hj9;have t5 := h.t5;have t42 := h.t42;have t44 := h.t44;rcases hj9 with rfl | rfl | rfl | rfl | rfl | rfl
   ·have hin5 := h15 hj;refine z8C ?_;refine zo .of (z0m evd evd (z0f (m := q.n) (bytes := 8) (z := .int .i64 0) xrf xrf xrf xrf (by omega) (by omega))) sdc ?_;intro τ ho hx;refine OpsL.nil ⟨trivial, _, τ, rfl, ⟨(h.old.keep hx (by simp)), ((by have m1 := hin5; have m2 := h.cA m1; have q := h.a.keep hx (by simp); simpa [z4q, hmem, zb, m1, m2] using q)), (h.b.keep hx (by simp)), ((by obtain ⟨cs, q1, q2⟩ := h.r; exact ⟨cs, q1, q2.keep hx (by simp)⟩)), (h.n.keep hx (by simp)), (by simpa [zb] using h.t4), (by simpa [zb] using h.t5), (by simpa [zb] using h.t6), (by simpa [zb] using h.t7), (by simpa [zb] using h.t8), (by simpa [zb] using h.t42), (by simpa [zb] using h.t44), (fun hk => by have q := h.t46 (fun q => hk ((hmem 4).2 ⟨by decide, q⟩)); simpa [zb] using q), (fun hk => by have q := h.t47 (fun q => hk ((hmem 6).2 ⟨by decide, q⟩)); simpa [zb] using q), (fun _ => ⟨σ.nx, by simp [zb], by rw [List.map_replicate]; exact ho⟩), (fun hk => by have q := (h.en (fun q => hk ((hmem 3).2 ⟨by decide, q⟩))).keep hx (by simp); simpa [zb] using q), (fun q => (hmem 7).2 ⟨by decide, h.cA ((hmem 5).1 q).2⟩)⟩, (fun q => absurd rfl ((hmem 1).1 q).1), (fun q => (hmem 7).2 ⟨by decide, h37 ((hmem 3).1 q).2⟩)⟩
   ·have hin7 := h37 hj;refine z8C ?_;refine zo .entry (z0m evd evd (z0f (m := q.k) (bytes := 8) (z := .int .i64 0) xrf xrf xrf xrf (by omega) (by omega))) sdc ?_;intro τ ho hx;refine OpsL.nil ⟨trivial, _, τ, rfl, ⟨(h.old.keep hx (by simp)), ((by have m2 := hin7; have q := h.a.keep hx (by simp); simpa [z4q, hmem, zb, m2] using q)), (h.b.keep hx (by simp)), ((by obtain ⟨cs, q1, q2⟩ := h.r; exact ⟨cs, q1, q2.keep hx (by simp)⟩)), (h.n.keep hx (by simp)), (by simpa [zb] using h.t4), (by simpa [zb] using h.t5), (by simpa [zb] using h.t6), (by simpa [zb] using h.t7), (by simpa [zb] using h.t8), (by simpa [zb] using h.t42), (by simpa [zb] using h.t44), (fun hk => by have q := h.t46 (fun q => hk ((hmem 4).2 ⟨by decide, q⟩)); simpa [zb] using q), (fun hk => by have q := h.t47 (fun q => hk ((hmem 6).2 ⟨by decide, q⟩)); simpa [zb] using q), (fun hk => by have q := (h.of (fun q => hk ((hmem 1).2 ⟨by decide, q⟩))).keep hx (by simp); simpa [zb] using q), (fun _ => ⟨σ.nx, by simp [zb], by rw [List.map_replicate]; exact ho⟩), (fun q => (hmem 7).2 ⟨by decide, h.cA ((hmem 5).1 q).2⟩)⟩, (fun q => (hmem 5).2 ⟨by decide, h15 ((hmem 1).1 q).2⟩), (fun q => absurd rfl ((hmem 3).1 q).1)⟩
   ·have hx : Chg [] σ σ := Chg.refl;refine z8C ?_;refine zw sdc (z1y (v := .pointer (some ⟨X.A, 0 + 2, none⟩)) evr xrf) ?_;refine OpsL.nil ⟨trivial, _, σ, rfl, ⟨(h.old.keep hx (by simp)), ((by have q := h.a.keep hx (by simp); simpa [z4q, hmem, zb] using q)), (h.b.keep hx (by simp)), ((by obtain ⟨cs, q1, q2⟩ := h.r; exact ⟨cs, q1, q2.keep hx (by simp)⟩)), (h.n.keep hx (by simp)), (by simpa [zb] using h.t4), (by simpa [zb] using h.t5), (by simpa [zb] using h.t6), (by simpa [zb] using h.t7), (by simpa [zb] using h.t8), (by simpa [zb] using h.t42), (by simpa [zb] using h.t44), (fun _ => by simp [zb, h.t5]), (fun hk => by have q := h.t47 (fun q => hk ((hmem 6).2 ⟨by decide, q⟩)); simpa [zb] using q), (fun hk => by have q := (h.of (fun q => hk ((hmem 1).2 ⟨by decide, q⟩))).keep hx (by simp); simpa [zb] using q), (fun hk => by have q := (h.en (fun q => hk ((hmem 3).2 ⟨by decide, q⟩))).keep hx (by simp); simpa [zb] using q), (fun q => (hmem 7).2 ⟨by decide, h.cA ((hmem 5).1 q).2⟩)⟩, (fun q => (hmem 5).2 ⟨by decide, h15 ((hmem 1).1 q).2⟩), (fun q => (hmem 7).2 ⟨by decide, h37 ((hmem 3).1 q).2⟩)⟩
   ·have hown := h.of (hdep 1 krf (by decide))
    obtain ⟨vsl, hsl⟩ : ∃ x : SV, tm 43 = slV x := by
     obtain ⟨b, q1, q2⟩ := hown;exact ⟨(some ⟨b, 0, none⟩, _, _), q1⟩
    have e1 := h.t46 (hdep 4 krf (by decide));have ha := h.a;rw [if_pos hj, if_pos (h.cA hj)] at ha;refine z8C ?_;refine zP (k := 2) (v := slV vsl) (cs' := moC X.pl X.cl ⟨slV vsl, .slice none 0 0, .slice none 0 0, .slice none 0 0, .slice none 0 0, .slice none 0 0⟩) ha (by simp [moC]) rfl xrf rfl rfl evd evd rfl ?_;rintro τ ha7 hx -;refine OpsL.nil ⟨trivial, _, τ, rfl, ⟨(h.old.keep hx (by simp)), ((by have q := ha7; have m0 := h.cA hj; simpa [z4q, hmem, zb, hsl, m0] using q)), (h.b.keep hx (by simp)), ((by obtain ⟨cs, q1, q2⟩ := h.r; exact ⟨cs, q1, q2.keep hx (by simp)⟩)), (h.n.keep hx (by simp)), (by simpa [zb] using h.t4), (by simpa [zb] using h.t5), (by simpa [zb] using h.t6), (by simpa [zb] using h.t7), (by simpa [zb] using h.t8), (by simpa [zb] using h.t42), (by simpa [zb] using h.t44), (fun hk => by have q := h.t46 (fun q => hk ((hmem 4).2 ⟨by decide, q⟩)); simpa [zb] using q), (fun hk => by have q := h.t47 (fun q => hk ((hmem 6).2 ⟨by decide, q⟩)); simpa [zb] using q), (fun hk => by have q := (h.of (fun q => hk ((hmem 1).2 ⟨by decide, q⟩))).keep hx (by simp); simpa [zb] using q), (fun hk => by have q := (h.en (fun q => hk ((hmem 3).2 ⟨by decide, q⟩))).keep hx (by simp); simpa [zb] using q), (fun q => (hmem 7).2 ⟨by decide, h.cA ((hmem 5).1 q).2⟩)⟩, (fun q => absurd ((hmem 1).1 q).2 (hdep 1 krf (by decide))), (fun q => (hmem 7).2 ⟨by decide, h37 ((hmem 3).1 q).2⟩)⟩
   ·have hx : Chg [] σ σ := Chg.refl;refine z8C ?_;refine zw sdc (z1y (v := .pointer (some ⟨X.A, 0 + 3, none⟩)) evr xrf) ?_;refine OpsL.nil ⟨trivial, _, σ, rfl, ⟨(h.old.keep hx (by simp)), ((by have q := h.a.keep hx (by simp); simpa [z4q, hmem, zb] using q)), (h.b.keep hx (by simp)), ((by obtain ⟨cs, q1, q2⟩ := h.r; exact ⟨cs, q1, q2.keep hx (by simp)⟩)), (h.n.keep hx (by simp)), (by simpa [zb] using h.t4), (by simpa [zb] using h.t5), (by simpa [zb] using h.t6), (by simpa [zb] using h.t7), (by simpa [zb] using h.t8), (by simpa [zb] using h.t42), (by simpa [zb] using h.t44), (fun hk => by have q := h.t46 (fun q => hk ((hmem 4).2 ⟨by decide, q⟩)); simpa [zb] using q), (fun _ => by simp [zb, h.t5]), (fun hk => by have q := (h.of (fun q => hk ((hmem 1).2 ⟨by decide, q⟩))).keep hx (by simp); simpa [zb] using q), (fun hk => by have q := (h.en (fun q => hk ((hmem 3).2 ⟨by decide, q⟩))).keep hx (by simp); simpa [zb] using q), (fun q => (hmem 7).2 ⟨by decide, h.cA ((hmem 5).1 q).2⟩)⟩, (fun q => (hmem 5).2 ⟨by decide, h15 ((hmem 1).1 q).2⟩), (fun q => (hmem 7).2 ⟨by decide, h37 ((hmem 3).1 q).2⟩)⟩
   ·have hown := h.en (hdep 3 krf (by decide))
    obtain ⟨vsl, hsl⟩ : ∃ x : SV, tm 45 = slV x := by
     obtain ⟨b, q1, q2⟩ := hown;exact ⟨(some ⟨b, 0, none⟩, _, _), q1⟩
    have e1 := h.t47 (hdep 6 krf (by decide));have ha := h.a;rw [if_neg (hdep 5 krf (by decide)), if_pos hj] at ha;refine z8C ?_;refine zP (k := 3) (v := slV vsl) (cs' := moC X.pl X.cl ⟨tm 43, slV vsl, .slice none 0 0, .slice none 0 0, .slice none 0 0, .slice none 0 0⟩) ha (by simp [moC]) rfl xrf rfl rfl evd evd rfl ?_;rintro τ ha7 hx -;refine OpsL.nil ⟨trivial, _, τ, rfl, ⟨(h.old.keep hx (by simp)), ((by have q := ha7; have m0 := hdep 5 krf (by decide); simpa [z4q, hmem, zb, hsl, m0] using q)), (h.b.keep hx (by simp)), ((by obtain ⟨cs, q1, q2⟩ := h.r; exact ⟨cs, q1, q2.keep hx (by simp)⟩)), (h.n.keep hx (by simp)), (by simpa [zb] using h.t4), (by simpa [zb] using h.t5), (by simpa [zb] using h.t6), (by simpa [zb] using h.t7), (by simpa [zb] using h.t8), (by simpa [zb] using h.t42), (by simpa [zb] using h.t44), (fun hk => by have q := h.t46 (fun q => hk ((hmem 4).2 ⟨by decide, q⟩)); simpa [zb] using q), (fun hk => by have q := h.t47 (fun q => hk ((hmem 6).2 ⟨by decide, q⟩)); simpa [zb] using q), (fun hk => by have q := (h.of (fun q => hk ((hmem 1).2 ⟨by decide, q⟩))).keep hx (by simp); simpa [zb] using q), (fun hk => by have q := (h.en (fun q => hk ((hmem 3).2 ⟨by decide, q⟩))).keep hx (by simp); simpa [zb] using q), (fun q => absurd ((hmem 5).1 q).2 (hdep 5 krf (by decide)))⟩, (fun q => (hmem 5).2 ⟨by decide, h15 ((hmem 1).1 q).2⟩), (fun q => absurd ((hmem 3).1 q).2 (hdep 3 krf (by decide)))⟩
  ·rintro st ⟨tm, σ, rfl, h, -, -⟩;exact ⟨rfl, tm, σ, rfl, h⟩
  ·subst hX;refine ⟨_, σ4, rfl, ⟨hold0, by simpa [z4q, z2j] using ha3, hb, ⟨_, rfl, h4⟩, hn, stp, stp, stp, stp, stp, stp, stp, fun q => absurd q (by simp), fun q => absurd q (by simp), fun q => absurd q (by simp), fun q => absurd q (by simp), by simp⟩, by simp, by simp⟩
 ·clear e0 e1 hold0 ha3 hb h4 hn;rintro e st ⟨rfl, tm, σ, rfl, h⟩;obtain ⟨h1, ha, hb, hr, hn, t4, t5, t6, t7, t8, -, -, -, -, hof, hen, -⟩ := h;replace hof := hof (by simp);replace hen := hen (by simp);rw [if_neg (by simp), if_neg (by simp)] at ha
  (change Trip _ _ _ _ _)
  refine zbV ?_;refine zo .table (z0m evd evd (z0f (m := q.k) (bytes := 24) (z := .slice none 0 0) xrf xrf xrf xrf (by omega) (by omega))) sdc ?_;intro τ ho hx
  have hM : MkS σ0 τ { X with tv := .slice (some ⟨σ.nx, 0, none⟩) q.k q.k } (Go.Am.d1 ns q 0) ⟨tm 43, tm 45, .slice none 0 0, .slice none 0 0, .slice none 0 0, .slice none 0 0⟩ := by
   obtain ⟨cs, r1, r2⟩ := hr;refine ⟨h1.keep hx (by simp), ha.keep hx (by simp), ?_, ⟨cs, r1, r2.keep hx (by simp)⟩, hn.keep hx (by simp), ?_, hen.keep hx (by simp), ⟨List.replicate q.k (none, 0, 0), ⟨σ.nx, by simp, by rw [List.map_replicate]; exact ho⟩, ?_⟩, OwnC.nil, OwnLC.nil, OwnLC.nil, OwnLC.nil⟩
   ·exact hb.keep hx (by simp)
   ·have := hof.keep hx (by simp);simpa [Go.Am.d1, l1F] using this
   ·refine ⟨by simp [Go.Am.d1], fun i x hxi => ?_⟩;have hi : i < q.k := by have := (List.getElem?_eq_some_iff.1 hxi).1; simpa [Go.Am.d1] using this
    refine ⟨(none, 0, 0), by rw [List.getElem?_replicate, if_pos hi], ?_⟩
    have e : (Go.Am.d1 ns q 0).T[i]? = some [] := by
     show ((List.range q.k).map fun (c : Nat) => z2i [] (c : Int))[i]? = some [];rw [List.getElem?_map, List.getElem?_range hi]; rfl
    rw [e] at hxi;cases hxi;exact OwnC.nil
  have hXns : X.ns = ns := by rw [← hX]
  have hpl : X.pl = q.pl := by rw [← hX]
  have hcl : X.cl = q.cl := by rw [← hX]
  clear hX h1 ha hb hr hn hof hen ho hx;obtain ⟨Y, hY⟩ : ∃ Y : MkX, Y = { X with tv := .slice (some ⟨σ.nx, 0, none⟩) q.k q.k } := ⟨_, rfl⟩;have y1 : Y.A = X.A := by rw [hY]
  have y2 : Y.B = X.B := by rw [hY]
  have y3 : Y.a4 = X.a4 := by rw [hY]
  have y4 : Y.tv = .slice (some ⟨σ.nx, 0, none⟩) q.k q.k := by rw [hY]
  have y5 : Y.ns = ns := by rw [hY]; exact hXns
  have y6 : Y.pl = q.pl := by rw [hY]; exact hpl
  have y7 : Y.cl = q.cl := by rw [hY]; exact hcl
  rw [← hY, ← y5] at hM;rw [← y3] at t4;rw [← y1] at t5;rw [← y2] at t8;rw [← y4];clear hY y1 y2 y3 y4 hXns hpl hcl
  (first | (refine zc (by exact z09) ?_))
  refine z0n ?_
  (change Trip _ _ _ _ _)
  refine Trip.seq (Trip.seq ?_);refine zd ?_
  (first | (refine zc (by exact z09) ?_))
  refine z0n ?_
  (change Trip _ _ _ _ _)
  refine zhE (X := Y) (q := q) W0 hq hn0 ⟨stp, stp, stp, stp, stp, by simp [zb]⟩ (by simp [zb]) hM ?_;clear t4 t5 t6 t7 t8 hM;intro tm σ V ⟨t4, t5, t6, t7, t8, t9⟩ hM;rw [zhn] at hM;dsimp only;refine Trip.seq (Trip.seq ?_);refine zd ?_
  (first | (refine zc (by exact z09) ?_))
  refine z0n ?_
  (change Trip _ _ _ _ _)
  refine zhD (X := Y) (q := q) W0 hq hn0 ⟨stp, stp, stp, stp, stp, stp⟩ (by simp [zb]) hM ?_;clear t4 t5 t6 t7 t8 t9 hM;intro tm σ V ⟨t4, t5, t6, t7, t8, t9⟩ hM;rw [zhm] at hM;dsimp only;refine Trip.seq (Trip.seq ?_);refine zd ?_
  (first | (refine zc (by exact z09) ?_))
  refine z0n ?_
  (change Trip _ _ _ _ _)
  refine zhC (X := Y) (q := q) W0 hq hn0 y6 y7 ⟨stp, stp, stp, stp, stp, stp⟩ (by simp [zb]) hM ?_;clear t4 t5 t6 t7 t8 t9 hM;intro tm σ V ⟨t4, t5, t6, t7, t8, t9⟩ hM;dsimp only;obtain ⟨cs, hcs, h4⟩ := hM.r;have hga : z1f σ.H ⟨Y.A, 0, none⟩ 8 = some (moC Y.pl Y.cl V) := z0d hM.a.2.2 rfl;refine z2k ?_;refine zw sdc (zy (k := 8) evd xrf rfl xrf hga) ?_;have so : V.o.oneCell' = true := by obtain ⟨_, e, _⟩ := hM.of.block; rw [e]; rfl
  have se : V.e.oneCell' = true := by obtain ⟨_, e, _⟩ := hM.en.block; rw [e]; rfl
  have sf : V.f.oneCell' = true := by obtain ⟨_, _, e⟩ := OwnC.slice z0P hM.fi; rw [e]; rfl
  have si : V.i.oneCell' = true := by obtain ⟨_, q1, _⟩ := hM.inn; obtain ⟨_, _, e⟩ := OwnC.slice z0b q1; rw [e]; rfl
  have sl : V.l.oneCell' = true := by obtain ⟨_, q1, _⟩ := hM.low; obtain ⟨_, _, e⟩ := OwnC.slice z0b q1; rw [e]; rfl
  have sr : V.r.oneCell' = true := by obtain ⟨_, q1, _⟩ := hM.ret; obtain ⟨_, _, e⟩ := OwnC.slice z0b q1; rw [e]; rfl
  refine zO (vs := moC Y.pl Y.cl V) h4 xrf rfl (by rw [hcs]; rfl) (by simp only [moC, List.all_cons, List.all_nil, so, se, sf, si, sl, sr, Bool.and_true]; rfl) evd evd ?_;intro τ ho hx;refine z0n ?_
  (change Trip _ _ _ _ _)
  refine Trip.ret ?_;refine ⟨.inr rfl, _, z50 stp (z2n xrf rfl xrf (z0d ho.2.2 rfl)), V, τ, ?_, rfl, rfl, hM.old.keep hx (by simp), ?_⟩
  ·rw [y6, y7];rfl
  ·have h1 := hM.of.keep hx (by simp);have h2 := hM.en.keep hx (by simp);have h3 := hM.fi.keep hx (by simp);have h5 := ze hx (by simp) (fun _ _ => by simp) hM.inn;have h6 := ze hx (by simp) (fun _ _ => by simp) hM.low;have h7 := zN hx (by simp) (fun _ _ => by simp) (fun _ _ _ => by simp) hM.ret;rw [y5] at h1 h2 h3 h5 h6 h7;exact ⟨h1, h2, h3, h5, h6, h7⟩
end Go.Proofs.Ytjgbcpagfghfnaa
