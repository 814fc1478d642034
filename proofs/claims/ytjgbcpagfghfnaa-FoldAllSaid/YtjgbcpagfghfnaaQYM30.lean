import Derived.Test.YtjgbcpagfghfnaaQYM29
import Derived.Test.YtjgbcpagfghfnaaQYM15
set_option linter.unusedVariables false
set_option linter.unusedSimpArgs false
set_option linter.unnecessarySimpa false
namespace Go.Am
open Go.RowKit
def Older (el : TypeId) (H : Heap) (b t : Nat) (l : List Int) : Prop := ∃ more, H b = some (.cells ((l ++ more).map (.int .i64 ·)) 1 (some t) false (some el))
theorem ACalls.wk {P : Program} {W0 : World} {nx : Nat} {H : Heap} {f : FuncId} {args : List Value} {R R' : Value → Nat → Heap → Prop} (h : ACalls P W0 f args nx H R) (hq : ∀ v n G, R v n G → R' v n G) : ACalls P W0 f args nx H R' := fun C w args' hR ha => by
 refine (h C w args' hR ha).mono ?_;rintro e w' ⟨v, v', C', nx', H', h1, h2, h3⟩;exact ⟨v, v', C', nx', H', h1, hq _ _ _ h2, h3⟩
theorem zdZ {a b : List Int} (h : a.map (Value.int .i64 ·) = b.map (Value.int .i64 ·)) : a = b := by
 refine List.ext_getElem (by simpa using congrArg List.length h) fun i h1 h2 => ?_;have := congrArg (fun l => l[i]?) h;simp only [List.getElem?_map, List.getElem?_eq_getElem h1, List.getElem?_eq_getElem h2, Option.map_some, Option.some.injEq, Value.int.injEq, true_and] at this;exact this
theorem Older.step {el : TypeId} {F F' : Heap} {b t nx nx' : Nat} {l : List Int} (h : Older el F b t l) (hb : b < nx) (hx : Ext nx F nx' F') : Older el F' b t l := by
 obtain ⟨more, e⟩ := h;exact ⟨more, by rw [hx.2 _ hb]; exact e⟩
theorem Ext.toKept {B nx nx' sb ib : Nat} {ob : Option (Nat × Nat)} {G F H' : Heap} (h : Ext B G nx F) (hle : nx ≤ nx') (h1 : B ≤ sb) (h2 : B ≤ ib) (h3 : ∀ b t, ob = some (b, t) → B ≤ b) (k : zeK nx F H' (za0 sb ib ob)) : Ext B G nx' H' := by
 refine ⟨Nat.le_trans h.1 hle, fun i hi => ?_⟩;rw [k i (Nat.lt_of_lt_of_le hi h.1) ?_, h.2 i hi];rintro (rfl | rfl | ⟨t, ht⟩)
 ·omega
 ·omega
 ·have := h3 _ _ ht; omega
end Go.Am
namespace Go.Proofs.Ytjgbcpagfghfnaa
open Go.Am Go.RowKit
structure RX (B : Nat) (G : Heap) (sb ib N : Nat) (nx : Nat) (F : Heap) (ob : Option (Nat × Nat)) (qv : Value) (s : List Bool × List Int) : Prop where
 ext : Ext B G nx F
 S : Srch F sb ib ob qv s
 sb1 : B ≤ sb
 ib1 : B ≤ ib
 sb2 : sb < nx
 ib2 : ib < nx
 obs : ∀ b t, ob = some (b, t) → B ≤ b ∧ b < nx
 ok : SOk N s
attribute [local irreducible] aop OpsL Trip zt z1X z1E OpsR OpsQ
theorem RX.step {B : Nat} {G : Heap} {sb ib N nx nx' : Nat} {F F' : Heap} {ob : Option (Nat × Nat)} {qv : Value} {s : List Bool × List Int} (h : RX B G sb ib N nx F ob qv s) (hx : Ext nx F nx' F') : RX B G sb ib N nx' F' ob qv s := by
 have hS := h.S;refine ⟨h.ext.trans hx, ⟨by rw [hx.2 _ h.sb2]; exact hS.str, by rw [hx.2 _ h.ib2]; exact hS.is, ?_, hS.ne, hS.obs⟩, h.sb1, h.ib1, Nat.lt_of_lt_of_le h.sb2 hx.1, Nat.lt_of_lt_of_le h.ib2 hx.1, fun b t e => ⟨(h.obs b t e).1, Nat.lt_of_lt_of_le (h.obs b t e).2 hx.1⟩, h.ok⟩;have hq := hS.qu;cases ob with
 | none => exact hq
 | some bt => exact ⟨hq.1, by rw [hx.2 _ (h.obs _ _ rfl).2]; exact hq.2⟩
theorem RX.kept {B : Nat} {G : Heap} {sb ib N nx nx' : Nat} {F F' H' : Heap} {ob obr : Option (Nat × Nat)} {qv v : Value} {s : List Bool × List Int} {l : List Int} (h : RX B G sb ib N nx F ob qv s) (hx : Ext nx F nx' F') (hr : OwnInts F' obr 3 v l) (hb : ∀ b t, obr = some (b, t) → nx ≤ b ∧ b < nx') (hk : zeK nx' F' H' (za0 sb ib ob)) : IntsAt H' v l := by
 refine OwnInts.at (z81 (fun b t e => ?_) hr);obtain ⟨q1, q2⟩ := hb b t e;refine hk b q2 ?_;have := h.sb2; have := h.ib2;rintro (rfl | rfl | ⟨t', ht⟩)
 ·omega
 ·omega
 ·have := (h.obs _ _ ht).2; omega
theorem zcf (W0 : World) {B : Nat} {G : Heap} {sb ib N nx : Nat} {F : Heap} {ob : Option (Nat × Nat)} {qv lv : Value} {s : List Bool × List Int} {l : List Int} (h : RX B G sb ib N nx F ob qv s) (hN : N ≤ 60) (hl : ∀ H', zeK nx F H' (za0 sb ib ob) → IntsAt H' lv l) (hin : ∀ p ∈ l, 0 ≤ p ∧ p < (N : Int)) (hlen : l.length ≤ 100000) :
  ACalls Try.prog W0 39 [.pointer (some ⟨sb, 0, none⟩), lv] nx F fun _ nx' H' => ∃ ob' qv', RX B G sb ib N nx' H' ob' qv' (z37 s l) ∧ ∀ b t q, b ≠ sb → b ≠ ib → b < nx → Older 3 F b t q → b < nx' ∧ Older 3 H' b t q := by
 have hsl := h.ok.le;have hs1 := h.ok.len;refine (zhl W0 (l := l) h.S h.sb2 h.ib2 (fun b t e => (h.obs b t e).2) hl (fun i hi => ?_) (by omega)).wk ?_
 ·have := hin _ (zM hi);omega
 ·rintro v nx' H' ⟨ob', qv', hS, hob, hle, hk, hm⟩;refine ⟨ob', qv', ⟨h.ext.toKept hle h.sb1 h.ib1 (fun b t e => (h.obs b t e).1) hk, hS, h.sb1, h.ib1, Nat.lt_of_lt_of_le h.sb2 hle, Nat.lt_of_lt_of_le h.ib2 hle, fun b t e => ?_, z4s l s h.ok hin⟩, fun b t q h1 h2 h3 ho => ⟨Nat.lt_of_lt_of_le h3 hle, ?_⟩⟩
  ·obtain ⟨q1, q2⟩ := hob b t e;refine ⟨?_, q1⟩;rcases q2 with q2 | q2
   ·exact Nat.le_trans h.ext.1 q2
   ·exact (h.obs b t q2).1
  ·obtain ⟨more, hF⟩ := ho;by_cases e : ∃ t', ob = some (b, t')
   ·obtain ⟨t', e⟩ := e;obtain ⟨more', hH⟩ := hm b t' e;have hq := h.S.qu;rw [e] at hq;have he := Option.some.inj (hF.symm.trans hq.2);injection he with e1 _ e3;have e4 := zdZ e1;refine ⟨more ++ more', ?_⟩;rw [hH, ← e4, ← e3, List.append_assoc]
   ·refine ⟨more, ?_⟩;rw [hk b h3 ?_, hF];rintro (rfl | rfl | ⟨t', ht⟩)
    ·exact h1 rfl
    ·exact h2 rfl
    ·exact e ⟨t', ht⟩
theorem z2O : Am.z1G Try.prog 25 := ⟨Try.f25, Try.func25, by kernel_rfl, by kernel_rfl⟩
set_option maxRecDepth 20000 in
set_option maxHeartbeats 16000000 in
theorem z6j (W0 : World) {nx : Nat} {H : Heap} {m : Mo} {V : MoV} (hm : MoIn H m V) (hn : MoLen m) (hmod : ModOk m) :
  ACalls Try.prog W0 25 [.agg (moV m V).toArray] nx H fun v nx' H' => NewP 4 nx nx' H' v ((z0 m).map .bool) ∧ Ext nx H nx' H' := by
 refine zg (fn := Try.f25) (c := _) Try.func25 rfl (fun tm n hn0 htm => ?_);have e0 : tm 0 = .agg (moV m V).toArray := htm 0;clear htm;replace hn0 : n = 63 := hn0;refine Trip.ok fun hok => ?_;replace hok : ∀ id o, H id = some o → id < nx := hok;refine z2k ?_;refine zY hm hok ?_ evd sdc;intro G x0 okG hb hG;clear e0;have hst := hmod.st;have hN60 := hmod.n.2;obtain ⟨oa, oc, ov⟩ := hG.of.slice;have g2 := hb.c2;rw [ov] at g2;refine zaF ?_
 (first | (refine zc (by exact ofa) ?_))
 (first | (refine zc (by exact old) ?_))
 (first | (refine zc (by exact z1g) ?_))
 refine OpsL.new sdc (z0m evd evd (z0f (m := m.of.length) (bytes := 1) (z := .bool false) xrf xrf xrf xrf (by omega) (by omega))) ?_;refine zw sdc (z0C (l := [(0, .slice (some ⟨nx + 1, 0, none⟩) m.of.length m.of.length)]) (v := .agg #[.slice (some ⟨nx + 1, 0, none⟩) m.of.length m.of.length, .slice none 0 0]) (by simp [zQ, ASt.ev, zb]) krf) ?_;refine OpsL.new sdc (zV (l := [.slice none 0 0, .slice none 0 0]) xrf) ?_;refine OpsL.upd (z2C (a := ⟨nx + 1 + 1, 0, none⟩) (k := 2) (u := .agg #[.slice (some ⟨nx + 1, 0, none⟩) m.of.length m.of.length, .slice none 0 0]) evd evd xrf rfl (o := .cells [.slice (some ⟨nx + 1, 0, none⟩) m.of.length m.of.length, .slice none 0 0] 0 none false (some 67)) (z2W (vs := [.slice (some ⟨nx + 1, 0, none⟩) m.of.length m.of.length, .slice none 0 0]) zu rfl rfl)) ?_;obtain ⟨F, hF⟩ : ∃ F, (Heap.put (Heap.put (G.put (nx + 1) (.cells (List.replicate m.of.length (.bool false)) 1 none false (some 4))) (nx + 1 + 1) (.cells [.slice none 0 0, .slice none 0 0] 0 none false (some 67))) (nx + 1 + 1) (.cells [.slice (some ⟨nx + 1, 0, none⟩) m.of.length m.of.length, .slice none 0 0] 0 none false (some 67))) = F := ⟨_, rfl⟩
 have hX : RX (nx + 1) G (nx + 1 + 1) (nx + 1) m.of.length (nx + 1 + 1 + 1) F none (.slice none 0 0) (List.replicate m.of.length false, []) := by
  refine ⟨⟨by omega, fun i hi => ?_⟩, ⟨?_, ?_, ⟨rfl, rfl⟩, by omega, fun b t e => (by cases e)⟩, by omega, by omega, by omega, by omega, fun b t e => (by cases e), ⟨by simp, fun q => ?_, by simp⟩⟩
  ·rw [← hF, zj (by omega), zj (by omega), zj (by omega)]
  ·rw [← hF, zu]; simp
  ·rw [← hF, zj (by omega), zj (by omega), zu]; simp
  ·constructor
   ·intro h; simp at h
   ·rintro ⟨_, h⟩;simp only [List.getD_eq_getElem?_getD, List.getElem?_replicate] at h;split at h <;> simp at h
 rw [hF];clear hF;obtain ⟨ea, ec, ev⟩ := hG.entry.slice;have eh := hG.entry;have g3 := (hb.ext hX.ext okG).c3;rw [ev] at eh g3;refine z0n ?_
 (change Trip _ _ _ _ _)
 repeat (first | (refine zc (by first | exact ofa | exact old) ?_) | (refine Trip.seq ?_) | (refine zd ?_))
 refine OpsL.c2 (hf := z2E) (hc := (zcf W0 hX hN60 (fun H' hk => eh.ext (hX.ext.toKept (Nat.le_refl _) hX.sb1 hX.ib1 (fun b t e => (hX.obs b t e).1) hk) okG) hst.entry hn.entry)) (h := ?_);rintro v1 nx1 F1 ⟨ob1, qv1, hX1, -⟩;clear hX g3 g2 eh ev ov;refine zdt ?_;refine zG (fun (i : Nat) st => ∃ (tm : Nat → Value) (nx' : Nat) (F : Heap) (ob : Option (Nat × Nat)) (qv : Value) (s : List Bool × List Int), st = ⟨tm, n, F, nx'⟩ ∧ RX (nx + 1) G (nx + 1 + 1) (nx + 1) m.of.length nx' F ob qv s ∧ z2b m (m.of.length + 1 - i) i s = z3i m ∧ tm 1 = .pointer (some ⟨nx, 0, none⟩) ∧ tm 3 = .pointer (some ⟨nx + 1 + 1, 0, none⟩) ∧ tm 4 = .int .i64 i ∧ i ≤ s.2.length) (fun i => m.of.length - i) 0 ?_ ?_
 ·exact ⟨_, _, _, _, _, _, rfl, hX1, by rw [Nat.sub_zero]; rfl, stp, stp, stp, Nat.zero_le _⟩
 clear hX1;rintro i st ⟨tm, nx', F, ob, qv, s, rfl, hX, hgo, t1, t3, t4, hi⟩;have hle := hX.ok.le
 obtain ⟨qa, qc, hq⟩ : ∃ a c, qv = .slice a s.2.length c := by
  have := hX.S.qu;cases ob with
  | none => exact ⟨none, 0, by rw [this.1, this.2]; rfl⟩
  | some bt => exact ⟨_, _, this.1⟩
 have c1 := z0c (k := 1) hX.S.str rfl;rw [hq] at c1
 repeat (first | (refine zc (by first | exact omv | exact ofa | exact old | exact z1g | exact z24) ?_) | (refine Trip.seq ?_) | (refine zd ?_) | (refine Trip.block ?_) | (refine zJ (fun _ => ?_) (fun _ => ?_)) | (refine Trip.skip ?_; (change Trip _ _ _ _ _)) | (refine OpsL.nil ?_; (change Trip _ _ _ _ _)))
 ·have hlt : i < s.2.length := by omega
  obtain ⟨f, hf⟩ : ∃ f, m.of.length + 1 - i = f + 1 := ⟨m.of.length - i, by omega⟩;have hf2 : m.of.length + 1 - (i + 1) = f := by omega
  rw [hf] at hgo
  have hgo2 : z2b m f (i + 1) (z2e m s i) = z3i m := by
   rw [← hgo];show _ = if i < s.2.length then z2b m f (i + 1) (z2e m s i) else s
   rw [if_pos hlt]
  rw [← hf2] at hgo2;have hsl := z3I m s i;have hRS : z2e m s i = ((z3P m (s.2.getD i 0) s).2.take (i + 1)).foldl (z5u m (s.2.getD i 0)) (z3P m (s.2.getD i 0) s) := rfl;have hpr := hX.ok.lt (zM hlt);have hSI : z3P m (s.2.getD i 0) s = z37 (z37 s (m.inn.getD (s.2.getD i 0).toNat [])) (m.low.getD (s.2.getD i 0).toNat []) := rfl;have hsle := z5F m (s.2.getD i 0) s
  obtain ⟨a, rfl⟩ : ∃ a, qa = some a := by
   have := hX.S.qu;cases ob with
   | none => rw [this.2] at hlt; simp at hlt
   | some bt =>
    rw [hq] at this;have h1 := this.1;simp only [Value.slice.injEq] at h1;exact ⟨_, h1.1⟩
  have cq : zf F ⟨a.block, a.off + i * 1, a.spot⟩ (.int .i64 (s.2.getD i 0)) := by
   have := hX.S.qu;cases ob with
   | none => rw [this.2] at hlt; simp at hlt
   | some bt =>
    rw [hq] at this;have h1 := this.1;simp only [Value.slice.injEq, Option.some.injEq, true_and] at h1;rw [h1.1];refine z0c this.2 ?_;rw [Nat.mul_one, Nat.zero_add, List.getElem?_map, List.getElem?_eq_getElem hlt, List.getD_eq_getElem?_getD, List.getElem?_eq_getElem hlt];rfl
  clear hf hf2 hgo;obtain ⟨P, hP⟩ : ∃ P : Nat, s.2.getD i 0 = (P : Int) := ⟨(s.2.getD i 0).toNat, by omega⟩;rw [hP] at cq hpr hRS hSI hsle;rw [Int.toNat_natCast] at hSI;have hPn : P < m.of.length := by omega
  repeat (first | (refine zc (by first | exact ofa | exact old | exact z1j | exact z09) ?_) | (refine Trip.seq ?_) | (refine zd ?_) | (refine OpsL.nil ?_; (change Trip _ _ _ _ _)))
  obtain ⟨ia, ic, iv⟩ := hG.inn.slice;have ih := hG.inn;have g5 := (hb.ext hX.ext okG).c5;rw [iv] at ih g5;obtain ⟨q1, rb, rk, rfl, hc1, hrow⟩ := L2At.atI ih (show (0 : Int) ≤ P by omega) (show (P : Int) < m.inn.length by rw [hmod.il]; omega);rw [Int.toNat_natCast] at hc1 hrow;replace hc1 := zI hX.ext okG hc1;have kl := Nat.le_of_eq hmod.il.symm
  repeat (first | (refine zc (by first | exact omv | exact old | exact z1j) ?_))
  refine OpsL.c2 (hf := z2E) (hc := (zcf W0 hX hN60 (fun H' hk => hrow.ext (hX.ext.toKept (Nat.le_refl _) hX.sb1 hX.ib1 (fun b t e => (hX.obs b t e).1) hk) okG) (hst.inn P) (hn.inn1 P))) (h := ?_);rintro v1 nx1 F1 ⟨ob1, qv1, hX1, -⟩;clear hX c1 cq g5 hc1 hrow ih iv hq;obtain ⟨ja, jc, jv⟩ := hG.low.slice;have jh := hG.low;have g6 := (hb.ext hX1.ext okG).c6;rw [jv] at jh g6;have kl2 := Nat.le_of_eq hmod.ll.symm;obtain ⟨q2, rb2, rk2, rfl, hc2, hrow2⟩ := L2At.atI jh (show (0 : Int) ≤ P by omega) (show (P : Int) < m.low.length by omega);rw [Int.toNat_natCast] at hc2 hrow2;replace hc2 := zI hX1.ext okG hc2
  repeat (first | (refine zc (by first | exact omv | exact ofa | exact old | exact z1j) ?_) | (refine Trip.seq ?_) | (refine zd ?_) | (refine OpsL.nil ?_; (change Trip _ _ _ _ _)))
  refine OpsL.c2 (hf := z2E) (hc := (zcf W0 hX1 hN60 (fun H' hk => hrow2.ext (hX1.ext.toKept (Nat.le_refl _) hX1.sb1 hX1.ib1 (fun b t e => (hX1.obs b t e).1) hk) okG) (hst.low P) (hn.low1 P))) (h := ?_);rintro v2 nx2 F2 ⟨ob2, qv2, hX2, -⟩;rw [← hSI] at hX2;clear hX1 g6 hc2 hrow2 jh jv hSI;generalize z3P m (P : Int) s = T at *;have hlt2 : i < T.2.length := by obtain ⟨_, more, e⟩ := hsle; rw [e]; simp; omega
  have c1 := z0c (k := 1) hX2.S.str rfl;have hqu := hX2.S.qu;cases ob2 with
  | none => rw [hqu.2] at hlt2; simp at hlt2
  | some bt =>
  obtain ⟨b2, tt2⟩ := bt;obtain ⟨rfl, hF2⟩ := hqu;have hO : Older 3 F2 b2 tt2 T.2 := ⟨[], by rw [List.append_nil]; exact hF2⟩;have hd := hX2.S.obs b2 tt2 rfl;have hb2 := hX2.obs b2 tt2 rfl
  have hslc : z4Z Try.prog F2 22 (.slice (some ⟨b2, 0, some tt2⟩) T.2.length T.2.length) none (some (.int .i64 ((i : Int) + 1))) none = some (.slice (some ⟨b2, 0, some tt2⟩) (i + 1) (i + 1)) := by
   have := z3N (P := Try.prog) (t := 22) (el := 3) (sz := 1) (a := ⟨b2, 0, some tt2⟩) (len := T.2.length) (cap := T.2.length) (l := 0) (h := i + 1) (tg := tt2) (lo := none) (hi := some (.int .i64 ((i : Int) + 1))) xrf xrf hF2 rfl rfl rfl (.inl ⟨rfl, rfl⟩) (.inr ⟨.i64, rfl⟩) (Nat.zero_le _) (by omega);simpa using this
  have hTl := hX2.ok.le
  repeat (first | (refine zc (by first | exact omv | exact ofa | exact old | exact z6e) ?_) | (refine Trip.seq ?_) | (refine zd ?_) | (refine OpsL.nil ?_; (change Trip _ _ _ _ _)))
  refine zw sdc (z6O (a := none) (b := some (.int .i64 ((i : Int) + 1))) (c := none) evd rfl (by simp [z3Y, ASt.ev, zb, *]) rfl hslc) ?_
  repeat (first | (refine zc (by first | exact omv | exact z1g) ?_) | (refine Trip.block ?_) | (refine OpsL.nil ?_; (change Trip _ _ _ _ _)))
  clear c1 hslc;refine zG (fun (j : Nat) st => ∃ (tm : Nat → Value) (nx' : Nat) (F : Heap) (ob : Option (Nat × Nat)) (qv : Value) (s' : List Bool × List Int), st = ⟨tm, n, F, nx'⟩ ∧ RX (nx + 1) G (nx + 1 + 1) (nx + 1) m.of.length nx' F ob qv s' ∧ s' = (T.2.take j).foldl (z5u m P) T ∧ b2 < nx' ∧ Older 3 F b2 tt2 T.2 ∧ tm 1 = .pointer (some ⟨nx, 0, none⟩) ∧ tm 3 = .pointer (some ⟨nx + 1 + 1, 0, none⟩) ∧ tm 4 = .int .i64 i ∧ tm 5 = .int .i64 P ∧ tm 44 = .slice (some ⟨b2, 0, some tt2⟩) (i + 1) (i + 1) ∧ tm 45 = .int .i64 ((i + 1 : Nat) : Int) ∧ tm 46 = .int .i64 j ∧ j ≤ i + 1) (fun j => i + 1 - j) 0 ?_ ?_
  ·exact ⟨_, _, _, _, _, _, rfl, hX2, rfl, hb2.2, hO, stp, stp, stp, stp, stp, stp, stp, Nat.zero_le _⟩
  have hTok := hX2.ok;clear hX2 hO hF2 t1 t3 t4;rintro j st ⟨tm, nx', F, ob, qv, s', rfl, hX, hs', hbn, hO, t1, t3, t4, t5, t44, t45, t46, hj⟩
  repeat (first | (refine zc (by exact z24) ?_) | (refine Trip.seq ?_) | (refine zd ?_) | (refine Trip.block ?_) | (refine zJ (fun _ => ?_) (fun _ => ?_)) | (refine Trip.skip ?_; (change Trip _ _ _ _ _)) | (refine OpsL.nil ?_; (change Trip _ _ _ _ _)))
  ·have hjl : j < T.2.length := by omega
   have hqr := hTok.lt (zM hjl);obtain ⟨Q, hQ⟩ : ∃ Q : Nat, T.2.getD j 0 = (Q : Int) := ⟨(T.2.getD j 0).toNat, by omega⟩
   have cq : zf F ⟨b2, 0 + j * 1, some tt2⟩ (.int .i64 Q) := by
    obtain ⟨more, hF⟩ := hO;refine z0c hF ?_;rw [Nat.mul_one, Nat.zero_add, List.getElem?_map, List.getElem?_append_left hjl, List.getElem?_eq_getElem hjl, ← hQ, List.getD_eq_getElem?_getD, List.getElem?_eq_getElem hjl];rfl
   rw [hQ] at hqr;have hQn : Q < m.of.length := by omega
   have hsn : (T.2.take (j + 1)).foldl (z5u m P) T = z5u m P s' Q := by
    rw [List.take_succ_eq_append_getElem hjl, List.foldl_append, ← hs', ← hQ, List.getD_eq_getElem?_getD, List.getElem?_eq_getElem hjl];rfl
   have hrow : ∀ {x y : Nat}, x < m.of.length → y < m.of.length → ∀ k, k < (m.ret.getD x []).length → y < ((m.ret.getD x []).getD k []).length := by
    intro x y hx hy k hk;have hz : m.of.getD x 0 ≠ 0 := fun e => by rw [hmod.ret0 _ hx e] at hk; simp at hk
    rw [((hmod.ret1 _ hx hz).2 k hk).1];exact hy
   have krl := Nat.le_of_eq hmod.rl.symm
   repeat (first | (refine zc (by first | exact z1j | exact old | exact z09) ?_) | (refine Trip.seq ?_) | (refine zd ?_) | (refine OpsL.nil ?_; (change Trip _ _ _ _ _)))
   clear cq;refine zS (hb.ext hX.ext okG) ?_ evd sdc;refine z9V ?_;refine OpsL.c3 (hf := z5m) (hc := (zaS W0 (hG.ext hX.ext okG) hn (by omega) (hrow hPn hQn))) (h := ?_);rintro v3 nx3 F3 ⟨obr, hrw, hrb, hxr⟩;have hX3 := hX.step hxr;refine OpsL.c2 (hf := z2E) (hc := (zcf W0 hX3 hN60 (fun H' hk => hX.kept hxr hrw hrb hk) (hst.ret P Q hQn) (by rw [z53]; exact hn.ret1 P))) (h := ?_);rintro v4 nx4 F4 ⟨ob4, qv4, hX4, hO4⟩;obtain ⟨hbn4, hO4⟩ := hO4 b2 tt2 T.2 hd.1 hd.2 (Nat.lt_of_lt_of_le hbn hxr.1) (hO.step hbn hxr);clear hX3 hrw hrb hxr hX hO;refine z0n ?_
   (change Trip _ _ _ _ _)
   refine zd ?_;refine zS (hb.ext hX4.ext okG) ?_ evd sdc;refine z9V ?_;refine OpsL.c3 (hf := z5m) (hc := (zaS W0 (hG.ext hX4.ext okG) hn (by omega) (hrow hQn hPn))) (h := ?_);rintro v5 nx5 F5 ⟨obr, hrw, hrb, hxr⟩;have hX5 := hX4.step hxr;refine OpsL.c2 (hf := z2E) (hc := (zcf W0 hX5 hN60 (fun H' hk => hX4.kept hxr hrw hrb hk) (hst.ret Q P hPn) (by rw [z53]; exact hn.ret1 Q))) (h := ?_);rintro v6 nx6 F6 ⟨ob6, qv6, hX6, hO6⟩;obtain ⟨hbn6, hO6⟩ := hO6 b2 tt2 T.2 hd.1 hd.2 (Nat.lt_of_lt_of_le hbn4 hxr.1) (hO4.step hbn4 hxr);clear hX5 hrw hrb hxr hX4 hO4;refine zeo ?_;exact ⟨j + 1, ⟨_, _, _, _, _, _, rfl, hX6, by rw [hsn]; rfl, hbn6, hO6, stp, stp, stp, stp, stp, stp, stp, by omega⟩, by omega⟩
  ·have hj2 : j = i + 1 := by omega
   subst hj2;rw [← hRS] at hs'
   repeat (first | (refine zc (by first | exact omv | exact z6e | exact z09) ?_) | (refine zd ?_) | (refine Trip.exit ?_; ((repeat (first | refine zD ?_ | refine zH ?_)); change Trip _ _ _ _ _)) | (refine OpsL.nil ?_; (dsimp only)))
   exact ⟨i + 1, ⟨_, _, _, _, _, _, rfl, hX, by rw [hs']; exact hgo2, stp, stp, stp, by rw [hs']; obtain ⟨_, more, e⟩ := hsl; rw [e]; simp; omega⟩, by omega⟩
 ·obtain ⟨f, hf⟩ : ∃ f, m.of.length + 1 - i = f + 1 := ⟨m.of.length - i, by omega⟩;rw [hf] at hgo
  have hs2 : s = z3i m := by
   rw [← hgo];show _ = if i < s.2.length then z2b m f (i + 1) (z2e m s i) else s
   rw [if_neg (by omega)]
  have c0 := z0c (k := 0) hX.S.str rfl;have hl := hX.S.is
  repeat (first | (refine zc (by first | exact ofa | exact old | exact z09) ?_) | (refine Trip.seq ?_) | (refine zd ?_) | (refine Trip.exit ?_; ((repeat (refine zD ?_)); change Trip _ _ _ _ _)) | (refine Trip.ret ?_; (dsimp only)) | (refine OpsL.nil ?_; (change Trip _ _ _ _ _)))
  exact ⟨.inr rfl, _, zn, ⟨nx + 1, by omega, hX.ib2, by simp [zb, z0, hs2], by rw [hl, hs2]; rfl⟩, x0.trans hX.ext⟩
end Go.Proofs.Ytjgbcpagfghfnaa
namespace Go.Am
open Go.RowKit
theorem OwnInts.hue {el : TypeId} {σ : CH} {nx' : Nat} {H' : Heap} {ob : Option (Nat × Nat)} {v : Value} {l : List Int} (h : OwnInts H' ob el v l) (hb : ∀ b t, ob = some (b, t) → σ.nx ≤ b ∧ b < nx') (hx : Ext σ.nx σ.H nx' H') (c : Co) : ∃ τ : CH, nx' = τ.nx ∧ H' = τ.H ∧ Chg [] σ τ ∧ OwnC z1L el c τ v l := by
 refine ⟨⟨nx', fun i => if i < σ.nx then σ.C i else c, H'⟩, rfl, rfl, ⟨hx.1, fun i hi => ⟨if_pos hi, fun _ => hx.2 i hi⟩⟩, ob, ?_, fun b t e => ?_⟩
 ·cases ob with
  | none =>
   obtain ⟨h1, h2, h3⟩ := h;exact ⟨h1, by rw [z2h z6z]; exact h2, h3⟩
  | some bt =>
   obtain ⟨b, t⟩ := bt;obtain ⟨h1, h2, rest, h3⟩ := h;exact ⟨h1, by rw [z2h z6z]; exact h2, rest, by rw [z2h z6z]; exact h3⟩
 ·obtain ⟨q1, q2⟩ := hb b t e;exact ⟨q2, if_neg (by omega)⟩
def zft (D : Mo) : Co → Prop
 | .inn1 p => D.inn.length ≤ p
 | .low1 p => D.low.length ≤ p
 | .ret1 p => D.ret.length ≤ p
 | .ret2 p _ => D.ret.length ≤ p
 | _ => False
end Go.Am
namespace Go.Proofs.Ytjgbcpagfghfnaa
open Go.Am Go.RowKit
abbrev zhL (c : Co) (σ : CH) (v : Value) (l : List Int) : Prop := PlainC 3 c σ v (l.map (.int .i64 ·))
abbrev RowP2 (d : Nat → Co) (c : Co) (σ : CH) (v : Value) (l : List (List Int)) : Prop := OwnLC (fun p => zhL (d p)) 22 c σ v l
abbrev RowP3 (σ : CH) (v : Value) (l : List (List (List Int))) : Prop := OwnLC (fun p => RowP2 (.ret2 p) (.ret1 p)) 26 .ret σ v l
theorem z01 {S : List Co} {σ τ : CH} {d : Nat → Co} {c : Co} {v : Value} {l : List (List Int)} (h : Chg S σ τ) (hc : c ∉ S) (hd : ∀ p, p < l.length → d p ∉ S) (ho : RowP2 d c σ v l) : RowP2 d c τ v l := OwnLC.keep h hc (fun i _ _ hi hr => hr.keep h (hd i hi)) ho
theorem z1U {S : List Co} {σ τ : CH} {v : Value} {l : List (List (List Int))} (h : Chg S σ τ) (hc : Co.ret ∉ S) (hd : ∀ p, p < l.length → Co.ret1 p ∉ S) (he : ∀ p j, p < l.length → Co.ret2 p j ∉ S) (ho : RowP3 σ v l) : RowP3 τ v l :=
 OwnLC.keep h hc (fun i _ _ hi hr => z01 h (hd i hi) (fun j _ => he i j hi) hr) ho
structure MgS (σ0 σ : CH) (A R : Nat) (pl cl : Int) (D : Mo) (V : MoV) : Prop where
 old : OldC σ0 σ
 a : ObC .self σ A (z4q pl cl V)
 r : ∃ cs, cs.length = 8 ∧ ObC .tmp σ R (.cells cs 0 none false (some 29))
 of : OwnC z1L 3 .of σ V.o D.of
 en : PlainC 3 .entry σ V.e (D.entry.map (.int .i64 ·))
 fi : OwnC z3v 4 .final σ V.f D.final
 inn : RowP2 .inn1 .inn σ V.i D.inn
 low : RowP2 .low1 .low σ V.l D.low
 ret : RowP3 σ V.r D.ret
section
variable {σ0 σ τ : CH} {A R : Nat} {pl cl : Int} {D : Mo} {V : MoV} {S : List Co}
theorem MgS.loc (h : MgS σ0 σ A R pl cl D V) (hc : Chg S σ τ) (hS : ∀ c ∈ S, zft D c) : MgS σ0 τ A R pl cl D V := ⟨(h.old.keep hc (fun q => hS _ q)), (h.a.keep hc (fun q => hS _ q)), (by obtain ⟨cs, q1, q2⟩ := h.r; exact ⟨cs, q1, q2.keep hc (fun q => hS _ q)⟩), (h.of.keep hc (fun q => hS _ q)), (h.en.keep hc (fun q => hS _ q)), (h.fi.keep hc (fun q => hS _ q)), (z01 hc (fun q => hS _ q) (fun p hp => fun q => absurd (hS _ q) (by simp [zft]; omega)) h.inn), (z01 hc (fun q => hS _ q) (fun p hp => fun q => absurd (hS _ q) (by simp [zft]; omega)) h.low), (z1U hc (fun q => hS _ q) (fun p hp => fun q => absurd (hS _ q) (by simp [zft]; omega)) (fun p j hp => fun q => absurd (hS _ q) (by simp [zft]; omega)) h.ret)⟩
theorem MgS.setOf (h : MgS σ0 σ A R pl cl D V) (hc : Chg [.of, .self] σ τ) {x : List Int} {v : Value} (ho : OwnC z1L 3 .of τ v x) (ha : ObC .self τ A (z4q pl cl { V with o := v })) : MgS σ0 τ A R pl cl { D with of := x } { V with o := v } := ⟨(h.old.keep hc (by simp)), ha, (by obtain ⟨cs, q1, q2⟩ := h.r; exact ⟨cs, q1, q2.keep hc (by simp)⟩), ho, (h.en.keep hc (by simp)), (h.fi.keep hc (by simp)), (z01 hc (by simp) (fun p hp => by simp) h.inn), (z01 hc (by simp) (fun p hp => by simp) h.low), (z1U hc (by simp) (fun p hp => by simp) (fun p j hp => by simp) h.ret)⟩
theorem MgS.setFi (h : MgS σ0 σ A R pl cl D V) (hc : Chg [.final, .self] σ τ) {x : List Bool} {v : Value} (ho : OwnC z3v 4 .final τ v x) (ha : ObC .self τ A (z4q pl cl { V with f := v })) : MgS σ0 τ A R pl cl { D with final := x } { V with f := v } := ⟨(h.old.keep hc (by simp)), ha, (by obtain ⟨cs, q1, q2⟩ := h.r; exact ⟨cs, q1, q2.keep hc (by simp)⟩), (h.of.keep hc (by simp)), (h.en.keep hc (by simp)), ho, (z01 hc (by simp) (fun p hp => by simp) h.inn), (z01 hc (by simp) (fun p hp => by simp) h.low), (z1U hc (by simp) (fun p hp => by simp) (fun p j hp => by simp) h.ret)⟩
theorem MgS.setIn (h : MgS σ0 σ A R pl cl D V) (hc : Chg [.inn, .self] σ τ) {x : List (List Int)} {v : Value} (ho : RowP2 .inn1 .inn τ v x) (ha : ObC .self τ A (z4q pl cl { V with i := v })) : MgS σ0 τ A R pl cl { D with inn := x } { V with i := v } := ⟨(h.old.keep hc (by simp)), ha, (by obtain ⟨cs, q1, q2⟩ := h.r; exact ⟨cs, q1, q2.keep hc (by simp)⟩), (h.of.keep hc (by simp)), (h.en.keep hc (by simp)), (h.fi.keep hc (by simp)), ho, (z01 hc (by simp) (fun p hp => by simp) h.low), (z1U hc (by simp) (fun p hp => by simp) (fun p j hp => by simp) h.ret)⟩
theorem MgS.setLo (h : MgS σ0 σ A R pl cl D V) (hc : Chg [.low, .self] σ τ) {x : List (List Int)} {v : Value} (ho : RowP2 .low1 .low τ v x) (ha : ObC .self τ A (z4q pl cl { V with l := v })) : MgS σ0 τ A R pl cl { D with low := x } { V with l := v } := ⟨(h.old.keep hc (by simp)), ha, (by obtain ⟨cs, q1, q2⟩ := h.r; exact ⟨cs, q1, q2.keep hc (by simp)⟩), (h.of.keep hc (by simp)), (h.en.keep hc (by simp)), (h.fi.keep hc (by simp)), (z01 hc (by simp) (fun p hp => by simp) h.inn), ho, (z1U hc (by simp) (fun p hp => by simp) (fun p j hp => by simp) h.ret)⟩
theorem MgS.setRe (h : MgS σ0 σ A R pl cl D V) (hc : Chg [.ret, .self] σ τ) {x : List (List (List Int))} {v : Value} (ho : RowP3 τ v x) (ha : ObC .self τ A (z4q pl cl { V with r := v })) : MgS σ0 τ A R pl cl { D with ret := x } { V with r := v } := ⟨(h.old.keep hc (by simp)), ha, (by obtain ⟨cs, q1, q2⟩ := h.r; exact ⟨cs, q1, q2.keep hc (by simp)⟩), (h.of.keep hc (by simp)), (h.en.keep hc (by simp)), (h.fi.keep hc (by simp)), (z01 hc (by simp) (fun p hp => by simp) h.inn), (z01 hc (by simp) (fun p hp => by simp) h.low), ho⟩
theorem MgS.one (h : MgS σ0 σ A R pl cl D V) : (moC pl cl V).all (·.oneCell') = true := by
 have so : V.o.oneCell' = true := by obtain ⟨_, _, e⟩ := OwnC.slice zR h.of; rw [e]; rfl
 have se : V.e.oneCell' = true := by obtain ⟨_, e, _⟩ := h.en.block; rw [e]; rfl
 have sf : V.f.oneCell' = true := by obtain ⟨_, _, e⟩ := OwnC.slice z0P h.fi; rw [e]; rfl
 have si : V.i.oneCell' = true := by obtain ⟨_, q1, _⟩ := h.inn; obtain ⟨_, _, e⟩ := OwnC.slice z0b q1; rw [e]; rfl
 have sl : V.l.oneCell' = true := by obtain ⟨_, q1, _⟩ := h.low; obtain ⟨_, _, e⟩ := OwnC.slice z0b q1; rw [e]; rfl
 have sr : V.r.oneCell' = true := by obtain ⟨_, q1, _⟩ := h.ret; obtain ⟨_, _, e⟩ := OwnC.slice z0b q1; rw [e]; rfl
 simp only [moC, List.all_cons, List.all_nil, so, se, sf, si, sl, sr, Bool.and_true];rfl
end
end Go.Proofs.Ytjgbcpagfghfnaa
