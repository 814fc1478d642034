/-
 The law AutoTrims of chapter 3 holds for all numbers: what is left of a machine takes the same words; trimmed again it is the same.
 Conditions: none beyond the row's own.
-/
import Derived.Test.YteplpegfcpmflaaGreatQTM16
set_option linter.unusedSimpArgs false
set_option linter.unusedVariables false
set_option maxRecDepth 100000
set_option maxHeartbeats 64000000
namespace Go.Am
open Go.RowKit
section
variable {P : Program} {W0 : World} {ops : Array Oper} {H : Heap} {nx n : Nat} {type : TypeId} {pos : String} {after : Array Edge} {l : List Oper} {tm : Nat → Value} {QQ : ASt → Prop} {d : Tmp} {ts : Array TypeId} {f : FuncId} {R : Value → Nat → Heap → Prop}
theorem zdl {ev : Operand → Option Value} {dst : Option Tmp} {guard : Option (Nat × Bool)} {t u : TypeId} {x y : Operand} {a b : Bool} (hx : ev x = some (.bool a)) (hy : ev y = some (.bool b)) (hu : P.underlying t = some .bool) (h : a = b) :
  aop P H nx ev ⟨dst, .binOp .neq t x y u, type, pos, after, guard⟩ = some (.bool false, .none) := by
 have : aEq P H 60 t (.bool a) (.bool b) = some (a == b) := by simp [aEq, hu]
 subst h; simp [aop, hx, hy, z6C, zfl, this]
theorem zik {a : Int} (h : (Lit.int .i64 a).wf = true) : -9223372036854775808 ≤ a ∧ a ≤ 9223372036854775807 := by
 have h' : (decide (IntKind.i64.min ≤ a) && decide (a ≤ IntKind.i64.max)) = true := h;rw [Bool.and_eq_true, decide_eq_true_eq, decide_eq_true_eq] at h';exact h'
theorem zd5 {ob : Option (Nat × Nat)} {t el : TypeId} {v : Value} {xs : List Int} {k : Nat} (h : OwnInts H ob el v xs) (hu : P.underlying t = some (.slice el)) (hs : z1r P el = some 1) (hk : k ≤ xs.length) :
  ∃ r, (∀ H', (∀ b tg, ob = some (b, tg) → H' b = H b) → z0P P H' t v none (some (.int .i64 k)) none = some r) ∧ IntsAt H r (xs.take k) := by
 obtain ⟨r, h1, h2⟩ := h.take (lo := none) (hi := some (.int .i64 k)) hu hs hk (.inl ⟨rfl, rfl⟩) (.inr ⟨.i64, rfl⟩);refine ⟨r, fun H' hs' => ?_, h2.at⟩;have hq : OwnInts H' ob el v xs := OwnRow.same hs' h;obtain ⟨r', h1', _⟩ := hq.take (lo := none) (hi := some (.int .i64 k)) hu hs hk (.inl ⟨rfl, rfl⟩) (.inr ⟨.i64, rfl⟩);rw [h1'];cases ob with
 | none =>
  obtain ⟨rfl, q1, _⟩ := h;have hx : xs = [] := by simpa using q1
  subst hx;have hk0 : k = 0 := by simpa using hk
  subst hk0;rw [z2o hu hs (.inl ⟨rfl, rfl⟩) (.inr ⟨.i64, rfl⟩)] at h1 h1';rw [← h1, ← h1']
 | some bt =>
  obtain ⟨b, tg⟩ := bt;obtain ⟨rfl, _, rest, ho⟩ := h;have e1 := zQ hu hs (P := P) (H := H) (a := ⟨b, 0, some tg⟩) (len := xs.length) (cap := xs.length) (l := 0) (h := k) (lo := none) (hi := some (.int .i64 k)) ho rfl rfl rfl (.inl ⟨rfl, rfl⟩) (.inr ⟨.i64, rfl⟩) (Nat.zero_le _) hk;have e2 := zQ hu hs (P := P) (H := H') (a := ⟨b, 0, some tg⟩) (len := xs.length) (cap := xs.length) (l := 0) (h := k) (lo := none) (hi := some (.int .i64 k)) ((hs' b tg rfl).trans ho) rfl rfl rfl (.inl ⟨rfl, rfl⟩) (.inr ⟨.i64, rfl⟩) (Nat.zero_le _) hk;rw [h1] at e1;rw [h1'] at e2;rw [e1, e2]
/-- A machine that may be names its own alone. -/
theorem z5i {ss : List (ByteArray × Int)} {a : Aut} (h : z0o ss a = true) : z4U a = true := by
 unfold z0o at h;simp only [Bool.and_eq_true] at h;obtain ⟨⟨⟨⟨⟨-, k1⟩, k2⟩, k3⟩, k4⟩, k5⟩ := h;refine List.all_eq_true.2 fun x hx => ?_;simp only [List.mem_append, List.mem_flatMap] at hx;rcases hx with (((hx | hx) | ⟨r, hr, hx⟩) | ⟨r, hr, hx⟩) | ⟨r, hr, hx⟩
 ·exact List.all_eq_true.1 k1 x hx
 ·exact List.all_eq_true.1 k2 x hx
 ·have := List.all_eq_true.1 k5 r hr
  simp only [okI, Bool.and_eq_true] at this;simp only [z6u, List.mem_cons, List.not_mem_nil, or_false] at hx;rcases hx with rfl | rfl
  ·exact this.1.1
  ·exact this.2
 ·have := List.all_eq_true.1 k3 r hr
  simp only [okO, Bool.and_eq_true] at this;simp only [z7k, List.mem_cons, List.not_mem_nil, or_false] at hx;rcases hx with rfl | rfl
  ·exact this.1.1.1
  ·exact this.1.2
 ·have := List.all_eq_true.1 k4 r hr
  simp only [okC, Bool.and_eq_true] at this;simp only [zbd, List.mem_cons, List.not_mem_nil, or_false] at hx;rcases hx with rfl | rfl
  ·exact this.1.1.1
  ·exact this.1.2
end
end Go.Am
namespace Go.Proofs.YteplpegfcpmflaaGreat.autoTrims
open Go.Am Go.RowKit Go.ChangeShapes Go.WideShapes Go.ChangeAt
attribute [local irreducible] aop OpsL Trip zC z36 OpsK OpsR
theorem z4m : Am.z0F Tryz.prog 6 := ⟨Tryz.f6, Tryz.func6, by kernel_rfl, by kernel_rfl⟩
theorem z8q {H : Heap} {a : Aut} {vi vf vo vc vn : Value} (h : AutIn H a vi vf vo vc vn) : (zA a vi vf vo vc vn).all (·.oneCell') = true := by
 obtain ⟨_, _, z0⟩ := h.init.slice;obtain ⟨_, _, z1⟩ := h.final.slice;obtain ⟨_, _, z2⟩ := h.opens.slice;obtain ⟨_, _, z3⟩ := h.closes.slice;obtain ⟨_, _, z4⟩ := h.inners.slice;rw [z0, z1, z2, z3, z4];rfl
theorem zcZ {ss : List (ByteArray × Int)} {most : Int} {a : Aut} {i : Nat} (L0 L1 : List Int) (h : GoodM ss most a i) : (z0f a L0 L1).init.length ≤ i ∧ (z0f a L0 L1).opens.length ≤ i ∧ (z0f a L0 L1).closes.length ≤ i ∧ (z0f a L0 L1).inners.length ≤ i := by
 have ⟨n1, n2, n3, n4, n5⟩ := h.len;exact ⟨Nat.le_trans (z0h _) (Nat.le_trans (List.length_filterMap_le _ _) (by omega)), Nat.le_trans (z0h _) (Nat.le_trans (List.length_filterMap_le _ _) (by omega)), Nat.le_trans (z0h _) (Nat.le_trans (List.length_filterMap_le _ _) (by omega)), Nat.le_trans (z0h _) (Nat.le_trans (List.length_filterMap_le _ _) (by omega))⟩
theorem ze8 {a : Aut} (h : a.init.length ≤ 25 ∧ a.opens.length ≤ 25 ∧ a.closes.length ≤ 25 ∧ a.inners.length ≤ 25) : muF a [] (z47 a) ≤ 100000 := by
 obtain ⟨n1, n3, n4, n5⟩ := h;have hm : (zP a).length ≤ 75 := by simp only [zP, List.length_append, List.length_map]; omega
 have h3 : ∀ l : List R4, (l.flatMap zV).length = 2 * l.length := fun l => by
  induction l with
  | nil => rfl
  | cons x l ih => simp only [List.flatMap_cons, List.length_append, ih, List.length_cons]; have : (zV x).length = 2 := rfl; omega
 have hu : (z6z a).length ≤ 176 := by simp only [z6z, List.length_append, List.length_cons, List.length_map, h3]; omega
 have hf : ((z6z a).filter fun t => decide (t ∉ ([] : List Thg))).length ≤ 176 := Nat.le_trans (List.length_filter_le _ _) hu;have hs : (z47 a).length ≤ 26 := by simp only [z47, List.length_cons, List.length_map]; omega
 unfold muF;have := Nat.mul_le_mul hf (show 2 * (zP a).length + 1 ≤ 151 by omega);omega
theorem zd0 {a : Aut} {L0 L1 : List Int} (h0 : z1t a 0 L0) (h : a.init ≠ []) : (z0f a L0 L1).init ≠ [] ∧ 1 ≤ L0.length := by
 obtain ⟨s, hs⟩ := List.exists_mem_of_ne_nil _ h;obtain ⟨y, hy, hy0, hy1⟩ := z3g h0 (ReachT.init hs);have hm : y ∈ (z0f a L0 L1).init := (zgl y).2 ⟨s, hs, hy⟩;exact ⟨fun e => (by rw [e] at hm; cases hm), by omega⟩
theorem law (W0 : World) {nx : Nat} {H : Heap} {m size : Int} {nv wsv : Value} {ns ws : List Int} (hn : IntsAt H nv ns) (hws : IntsAt H wsv ws) (hs : -9223372036854775808 ≤ size ∧ size ≤ 9223372036854775807) :
  ACalls Tryz.prog W0 4 [.int .i64 m, .int .i64 size, nv, wsv] nx H fun v _ _ => v = .bool true := by
 refine ze (fn := Tryz.f4) (c := _) Tryz.func4 rfl (fun tm n hn0 htm => ?_);have e0 : tm 0 = .int .i64 m := htm 0;have e1 : tm 1 = .int .i64 size := htm 1;have e2 : tm 2 = nv := htm 2;have e3 : tm 3 = wsv := htm 3;clear htm;replace hn0 : n = 71 := hn0;refine Trip.ok fun hok => ?_;replace hok : ∀ id o, H id = some o → id < nx := hok;refine z9r ?_;refine zfW (hf := z4m) (hc := ((zbA W0 Tabs.nil).2 nx H)) (h := ?_);rintro v0 nx0 H0 ⟨rfl, rfl, rfl⟩;dsimp only
 repeat (first | refine z7 (by exact z3R) ?_ | (refine OpsL.nil ?_; (change Trip _ _ _ _ _)))
 refine zU ?_;refine zci ?_;refine OpsL.c2 (hf := z7b) (hc := (zgJ W0 hn).ok) (h := ?_);rintro lv nx1 H1 ⟨⟨hl, x1⟩, k1⟩;obtain ⟨hg1, hg2, -⟩ := zbw m ns;have hss : (z4x m ns).length ≤ 1000 := by omega
 generalize z4x m ns = ss at *;refine z4Q ?_;refine zcU (hf := zbR) (hc := (zi1 W0 hl hss (hn.ext x1 hok) (show (1 : Int) ≤ 4 by omega) (by omega) hs.1 hs.2).ok) (h := ?_);rintro u p1 H2 ⟨⟨A0, l, vi, vf, vo, vc, vn, rfl, hmk, x2⟩, k2⟩;have hgood := zce ss (size := size) (show (1 : Int) ≤ 4 by omega) ns;have hini := zd8 (ss := ss) (size := size) (most := 4) (ns := ns);generalize z4g ss size 4 ns = a at *;have haI := hmk.in;have hlena := hgood.lens (by omega);clear hmk;dsimp only
 repeat fail
 refine OpsL.new (by subst_vars; decide) (zw (l := z1Y) krf) ?_;refine OpsL.upd (zp (k := 7) (u := .agg (zA a vi vf vo vc vn).toArray) evd evd (by exact rfl) rfl (o := .cells (zA a vi vf vo vc vn) 0 none false (some 30)) (zz (vs := (zA a vi vf vo vc vn)) z6 rfl (z8q haI))) ?_;obtain ⟨G3, hG3⟩ : ∃ G0, G0 = (H2.put p1 (.cells z1Y 0 none false (some 30))).put p1 (.cells (zA a vi vf vo vc vn) 0 none false (some 30)) := ⟨_, rfl⟩;have xG3 : Ext p1 H2 (p1 + 1) G3 := ⟨Nat.le_succ _, fun j hj => by rw [hG3, z5 (by omega), z5 (by omega)]⟩;have kG3 : ∀ id o, G3 id = some o → id < p1 + 1 := by rw [hG3]; exact zL (zB k2) z6
 have bG3 : G3 p1 = some (.cells (zA a vi vf vo vc vn) 0 none false (some 30)) := by rw [hG3, z6]
 rw [← hG3];clear hG3;have hA3 := haI.ext xG3 k2;refine z7i ?_;refine z7 (za (k := 7) (vs := (zA a vi vf vo vc vn)) evd (by exact rfl) rfl (by exact rfl) (zx bG3 rfl)) ?_;refine OpsL.c2 (hf := z42) (hc := (z5x W0 hA3 hlena (.inl ⟨hini, zfN hgood (by omega)⟩)).ok) (h := ?_);rintro u p2 H4 ⟨⟨L0, L1, l3, wi, wf, wo, wc, wn, hN0, hN1, rfl, hT, x4⟩, k4⟩;have hchk : z0o ss (z0f a L0 L1) = true := zbu hgood hN0 hN1 (by omega) (by omega);have htk := fun w => zbt (w := w) hgood hN0 hN1;have hag := fun M0 M1 k0 k1 => zbv (M0 := M0) (M1 := M1) hgood hN0 hN1 k0 k1;obtain ⟨hTi, hTn⟩ := zd0 (L1 := L1) hN0 hini;have hmuT := ze8 (zcZ L0 L1 hgood);have hlenT : AutLen (z0f a L0 L1) := zdc L0 L1 hgood (by omega);obtain ⟨hG1, hG2⟩ := zeW hgood hN1;have hNle := zeV hgood hN0;have hgN := hgood.N1;have hgN0 := hgood.N0;have hTI : AutIn H4 (z0f a L0 L1) wi wf wo wc wn := hT.in;change OpsL _ _ _ _ (ASt.mk (z9 _ _ (.agg (zA (z0f a L0 L1) wi wf wo wc wn).toArray)) _ _ _) _;clear hT;have hTN : (z0f a L0 L1).N = (L0.length : Int) := rfl;have hTG : (z0f a L0 L1).G = (L1.length : Int) - 1 := rfl;have hag' : ∀ M0 M1, z1t (z0f a L0 L1) 0 M0 → z1t (z0f a L0 L1) 1 M1 → z02 (z00 (z0f a L0 L1) M0 M1) = z0f a L0 L1 := fun M0 M1 k0 k1 => hag M0 M1 k0 k1;clear hag;obtain ⟨n0, hn00⟩ : ∃ n0, L0.length = n0 := ⟨_, rfl⟩;rw [hn00] at hTN hTn hNle;generalize z0f a L0 L1 = T at *;obtain ⟨N, hN⟩ : ∃ N : Nat, a.N = (N : Int) := ⟨a.N.toNat, by omega⟩;have hinA := z5i (hgood.check (by omega) (by omega));have hinT := z5i hchk;have hGG : T.G ≤ a.G := by omega
 have hNN : T.N ≤ a.N := by omega
 clear hN0 hN1;have h12 : p1 < p2 := by have := x4.1; omega
 refine OpsL.new (by subst_vars; decide) (zw (l := z1Y) krf) ?_;refine OpsL.upd (zp (k := 7) (u := .agg (zA T wi wf wo wc wn).toArray) evd evd (by exact rfl) rfl (o := .cells (zA T wi wf wo wc wn) 0 none false (some 30)) (zz (vs := (zA T wi wf wo wc wn)) z6 rfl (z8q hTI))) ?_;obtain ⟨G5, hG5⟩ : ∃ G0, G0 = (H4.put p2 (.cells z1Y 0 none false (some 30))).put p2 (.cells (zA T wi wf wo wc wn) 0 none false (some 30)) := ⟨_, rfl⟩;have xG5 : Ext p2 H4 (p2 + 1) G5 := ⟨Nat.le_succ _, fun j hj => by rw [hG5, z5 (by omega), z5 (by omega)]⟩;have kG5 : ∀ id o, G5 id = some o → id < p2 + 1 := by rw [hG5]; exact zL (zB k4) z6
 have bG5 : G5 p2 = some (.cells (zA T wi wf wo wc wn) 0 none false (some 30)) := by rw [hG5, z6]
 rw [← hG5];clear hG5;have hT5 := hTI.ext xG5 k4;have ha5 := hA3.ext (x4.trans xG5) kG3;have b15 := (xG5.2 p1 (by omega)).trans ((x4.2 p1 (by omega)).trans bG3);have x5 : Ext nx1 H1 (p2 + 1) G5 := ((x2.trans xG3).trans x4).trans xG5;clear hA3 hTI haI bG3 x2 xG3 x4 xG5;refine z7i ?_;refine z7 (za (k := 7) (vs := (zA T wi wf wo wc wn)) evd (by exact rfl) rfl (by exact rfl) (zx bG5 rfl)) ?_;refine OpsL.c2 (hf := z9a) (hc := (zfO W0 (hl.ext x5 k1) hss hT5 hlenT).ok) (h := ?_);rintro v6 m6 H6 ⟨⟨rfl, x6⟩, k6⟩;rw [hchk];dsimp only
 repeat fail
 refine z16 ?_ (c := rfl);refine z5K ?_;refine zci ?_;have x16 := x5.trans x6;refine z1p (hf := zbN) (hc := (zhV W0 (most := 9) (hl.ext x16 k1) (by omega) hss (hws.ext (x1.trans x16) hok) (by omega)).ok) (h := ?_);rintro wv m7 H7 ⟨⟨⟨obw, hw7, hbw⟩, x7⟩, k7⟩;have hwl := z8V (k := ss.length) (ns := ws) (most := 9);have hwm := zcW (k := ss.length) (ns := ws) (most := 9) (by omega);generalize z4u ss.length ws 9 = W at *;have x57 := x6.trans x7;have hT7 := hT5.ext x57 kG5;have ha7 := ha5.ext x57 kG5;have b17 := (x57.2 p1 (by omega)).trans b15;have b27 := (x57.2 p2 (by omega)).trans bG5;have hl7 := hl.ext (x16.trans x7) k1;have hle7 := x57.1;clear hl x1 x5 x6 x7 x16 x57 hT5 ha5 b15 bG5 hn hws kG3 kG5 k4 k6;refine z6y ?_;refine Trip.mono (Q := fun e st => e = .exit 0 ∧ ∃ (tm' : Nat → Value) (J : Heap) (mJ : Nat), st = ⟨tm', n, J, mJ⟩ ∧ Ext m7 H7 mJ J ∧ tm' 9 = lv ∧ tm' 10 = .pointer (some ⟨p1, 0, none⟩) ∧ tm' 11 = .pointer (some ⟨p2, 0, none⟩) ∧ tm' 12 = wv) ?_ ?_
 ·refine zu (fun (i : Nat) st => ∃ (tm' : Nat → Value) (J : Heap) (mJ : Nat), st = ⟨tm', n, J, mJ⟩ ∧ Ext m7 H7 mJ J ∧ tm' 9 = lv ∧ tm' 10 = .pointer (some ⟨p1, 0, none⟩) ∧ tm' 11 = .pointer (some ⟨p2, 0, none⟩) ∧ tm' 12 = wv ∧ tm' 13 = .int .i64 (i : Int) ∧ i ≤ W.length + 1) (fun i => W.length + 1 - i) 0 ?_ ?_
  ·exact ⟨_, _, _, rfl, Ext.refl, stp, stp, stp, stp, stp, Nat.zero_le _⟩
  ·rintro i st ⟨tm', J, mJ, rfl, xJ, e9, e10, e11, e12, ei, hi⟩
   refine Trip.ok fun kJ => ?_;replace kJ : ∀ id o, J id = some o → id < mJ := kJ;have hwJ : OwnInts J obw 3 wv W := OwnRow.ext xJ (fun b t h => (hbw b t h).2) hw7;obtain ⟨wa, wc0, hwve⟩ := hwJ.at.slice;subst hwve;by_cases hlt : i ≤ W.length
   case neg =>
    refine z6t ?_;refine zdv ?_;refine z5K ?_;refine zdA ?_;exact ⟨rfl, _, _, _, rfl, xJ, stp, stp, stp, stp⟩
   case pos =>
    obtain ⟨r, hr1, hr2⟩ := zd5 (P := Tryz.prog) (t := 22) (el := 3) (k := i) hwJ (by exact rfl) (by exact rfl) hlt;have hwt : ∀ x ∈ W.take i, 0 ≤ x ∧ x < ss.length := fun x hx => hwm x (List.mem_of_mem_take hx);have hwtl : (W.take i).length ≤ 100000 := by rw [List.length_take]; omega
    have hb1J := (xJ.2 p1 (by omega)).trans b17;have hb2J := (xJ.2 p2 (by omega)).trans b27;have hlJ := hl7.ext xJ k7;have haJ := ha7.ext xJ k7;have hTJ := hT7.ext xJ k7;have hleJ := xJ.1;refine z6t ?_;refine z66 ?_;refine z6V ?_
    repeat (first | refine Trip.seq ?_ | refine Trip.block ?_ | (refine Trip.skip ?_; (change Trip _ _ _ _ _)))
    refine OpsR.drawn [5, 11] (K := fun nx1 H1 => Ext mJ J nx1 H1) z0N krf krf [0, 1, 2, 3, 4, 6, 7, 8, 9, 10, 5, 11, 12] krf Ext.refl ?_;refine z5I ?_;refine zg1 ?_;refine z7 (za (k := 7) (vs := (zA a vi vf vo vc vn)) evd (by exact rfl) rfl (by exact rfl) (zx hb1J rfl)) ?_;refine OpsL.nil ?_;refine z9y ?_;refine z7 (zS (r := r) (a := none) (b := some (.int .i64 (i : Int))) (c := none) evd rfl (by simp only [z0G, ASt.ev, z9, ↓reduceIte, reduceIte, Option.some.injEq, Nat.reduceEqDiff, Option.map_some, *]) rfl (hr1 _ fun _ _ _ => rfl)) ?_;refine OpsL.nil ?_;refine zg1 ?_;refine z9v ?_;refine zD (v := .agg (zA T wi wf wo wc wn).toArray) rfl krf (by subst_vars; decide) Ext.refl (fun HH nn hK => za (k := 7) (vs := (zA T wi wf wo wc wn)) evd (by exact rfl) rfl (by exact rfl) (zx ((hK.2 p2 (by omega)).trans hb2J) rfl)) ?_;refine zg4 ?_;refine z9v ?_;refine zD (v := r) rfl krf (by subst_vars; decide) Ext.refl (fun HH nn hK => zS (r := r) (a := none) (b := some (.int .i64 (i : Int))) (c := none) evd rfl (by simp only [z0G, ASt.ev, z9, ↓reduceIte, reduceIte, Option.some.injEq, Nat.reduceEqDiff, Option.map_some, *]) rfl (hr1 HH fun b t h => hK.2 b (by have := hbw b t h; omega))) ?_;refine z0K ?_;refine z1p (hf := z5j) (hc := (zcF W0 hlJ hss haJ hlena hinA hN (by omega) (by omega) hr2 hwt hwtl).ok) (h := ?_);rintro v8 m8 H8 ⟨⟨⟨y1, rfl, hy1⟩, x8⟩, k8⟩;refine OpsL.nil ⟨x8, ?_⟩;refine z0K ?_;refine z1p (hf := z5j) (hc := (zcF W0 (hlJ.ext x8 kJ) hss (hTJ.ext x8 kJ) hlenT hinT hTN (by omega) (by omega) (hr2.ext x8 kJ) hwt hwtl).ok) (h := ?_);rintro v9 m9 H9 ⟨⟨⟨y2, rfl, hy2⟩, x9⟩, k9⟩;refine OpsL.nil ⟨x8.trans x9, ?_⟩
    have hyy : y1 = y2 := by
     have h := (hy1.trans (htk _)).trans hy2.symm;cases y1 <;> cases y2 <;> simp at h <;> rfl
    refine zg1 ?_;refine z7 (zdl evd evd (by exact rfl) hyy) ?_;refine OpsL.nil ?_;refine OpsR.nil ?_
    (change Trip _ _ _ _ _)
    repeat fail
    refine zg2 ?_;exact ⟨i + 1, ⟨_, _, _, rfl, (xJ.trans x8).trans x9, stp, stp, stp, stp, stp, by omega⟩, by omega⟩
 rintro e st ⟨rfl, tm8, J, mJ, rfl, xJ, e9, e10, e11, e12⟩;refine z6W ?_;refine Trip.ok fun kJ => ?_;replace kJ : ∀ id o, J id = some o → id < mJ := kJ;have hb1J := (xJ.2 p1 (by omega)).trans b17;have hb2J := (xJ.2 p2 (by omega)).trans b27;have hTJ := hT7.ext xJ k7;have hleJ := xJ.1;refine z4R ?_;refine OpsR.drawn [2, 4] (K := fun nx1 H1 => Ext mJ J nx1 H1) z0N krf krf [0, 1, 3, 2, 4, 5, 6, 7, 8, 9, 10, 11, 12, 13, 14, 15, 16, 17, 18, 19] krf Ext.refl ?_;refine z5I ?_;refine zg1 ?_;refine z7 (za (k := 7) (vs := (zA T wi wf wo wc wn)) evd (by exact rfl) rfl (by exact rfl) (zx hb2J rfl)) ?_;refine OpsL.nil ?_;refine zD (v := .agg (zA T wi wf wo wc wn).toArray) rfl krf (by subst_vars; decide) Ext.refl (fun HH nn hK => za (k := 7) (vs := (zA T wi wf wo wc wn)) evd (by exact rfl) rfl (by exact rfl) (zx ((hK.2 p2 (by omega)).trans hb2J) rfl)) ?_;refine z0K ?_;refine OpsL.c2 (hf := z42) (hc := (z5x W0 hTJ hlenT (.inl ⟨hTi, hmuT⟩)).ok) (h := ?_);rintro u m8 H8 ⟨⟨M0, M1, l8, zi, zf, zo, zc, zn, hM0, hM1, rfl, hT8, x8⟩, k8⟩;have hT8I := hT8.in;rw [hag' M0 M1 hM0 hM1] at hT8I ⊢;refine OpsL.nil ⟨x8, ?_⟩;refine z0K ?_;refine OpsL.c2 (hf := z6c) (hc := (zeZ W0 hT8I hlenT (hTJ.ext x8 kJ) hlenT).ok) (h := ?_);rintro v9 m9 H9 ⟨⟨rfl, x9⟩, k9⟩;rw [z9S];refine OpsL.nil ⟨x8.trans x9, ?_⟩;have hb19 := ((x8.trans x9).2 p1 (by omega)).trans hb1J;have hb29 := ((x8.trans x9).2 p2 (by omega)).trans hb2J;have cN1 : zb H9 ⟨p1, 0, none⟩ (.int .i64 a.N) := z8 hb19 rfl;have cG1 : zb H9 ⟨p1, 1, none⟩ (.int .i64 a.G) := z8 hb19 rfl;have cN2 : zb H9 ⟨p2, 0, none⟩ (.int .i64 T.N) := z8 hb29 rfl;have cG2 : zb H9 ⟨p2, 1, none⟩ (.int .i64 T.G) := z8 hb29 rfl;refine zg4 ?_;refine zgu ?_;refine zgu ?_;refine zj ?_;refine z66 ?_ (c := hNN);refine z4f ?_;refine z5p ?_;refine zg4 ?_;refine zgu ?_;refine zgu ?_;refine zj ?_;refine z66 ?_ (c := hGG);refine z4f ?_;refine z5p ?_;refine zcf ?_
 (change Trip _ _ _ _ _)
 repeat (refine Trip.ret ?_; (skip))
 exact ⟨.inr rfl, _, zh, stp⟩
theorem zir (W0 : World) (nx : Nat) (H : Heap) (a0 : Int) (w0 : (Lit.int .i64 a0).wf = true) (a1 : Int) (w1 : (Lit.int .i64 a1).wf = true) (x2 : List Int) (w2 : ∀ x ∈ x2, (Lit.int .i64 x).wf = true) (x3 : List Int) (w3 : ∀ x ∈ x3, (Lit.int .i64 x).wf = true) (us : List Value)
  (hat : All2 (Arg.at H) [.plain (.int .i64 a0), .plain (.int .i64 a1), .ints .i64 x2, .ints .i64 x3] us) (_ : ∀ id o, H id = some o → id < nx) : ACalls Tryz.prog W0 4 us nx H fun v _ _ => v = .bool true := by
 obtain ⟨u0, us, rfl, h0, hat⟩ := hat.cons;obtain ⟨u1, us, rfl, h1, hat⟩ := hat.cons;obtain ⟨u2, us, rfl, h2, hat⟩ := hat.cons;obtain ⟨u3, us, rfl, h3, hat⟩ := hat.cons;obtain rfl := hat.nil;obtain rfl : u0 = _ := h0;obtain rfl : u1 = _ := h1;exact law W0 h2.1 h3.1 (zik w1)
theorem own : ownKnob Tryz.prog.godebug = none := by kernel_rfl
theorem zfL : laidOutB Tryz.prog = true := by kernel_rfl
theorem z7f : Tryz.prog.cellsOf 3 = 1 := by kernel_rfl
theorem zgZ (os : Os) (started : os.Started) (H : Type) (enc : TypeId × Value → H) :
  ReturnsInHanded {} Tryz.checked os 4 .any (Rows.autoTrimsSpec.pre6 enc Tryz.prog Tryz.f4 Rows.autoTrimsRow.domain false) (Rows.autoTrimsSpec.post enc Tryz.prog Tryz.f4 false true false false) := by
 refine returnsInHanded_of_change (C := Tryz.checked) own started krf Tryz.func4
  (ChangeSpec.witness6 (enc := enc) (C := Tryz.checked) false ⟨#[], #[.int .i64 0, .int .i64 0, .slice none 0 0, .slice none 0 0], []⟩ 8 krf krf krf krf) ?_
 intro W base args ds gs before hval0 hW _ _;have hval : ∀ (j : Nat) t v, Tryz.f4.params[j]? = some t → args[j]? = some v → Value.okWide Tryz.prog W .any base t v := hval0;have hW' := hW;obtain ⟨p, q, hA0, hV, rfl, _, _⟩ := hW;have hA : DataW.TrodAll enc Tryz.prog W 0 (fun _ => true) true Tryz.f4.params.toList args.toList ds p := hA0;rw [Tryz.params4] at hA hval;obtain ⟨v0, vs0, d0, ds0, p0, q0, hargs, rfl, rfl, h0, r0⟩ := trodAll_cons hA;obtain ⟨v1, vs1, d1, ds1, p1, q1, rfl, rfl, rfl, h1, r1⟩ := trodAll_cons r0;obtain ⟨v2, vs2, d2, ds2, p2, q2, rfl, rfl, rfl, h2, r2⟩ := trodAll_cons r1;obtain ⟨v3, vs3, d3, ds3, p3, q3, rfl, rfl, rfl, h3, r3⟩ := trodAll_cons r2;obtain ⟨rfl, rfl, rfl⟩ := trodAll_nil r3;obtain rfl : args = #[v0, v1, v2, v3] := by cases args; simp_all
 obtain ⟨rfl, rfl⟩ := trodVars_none hV;obtain ⟨a0, rfl, rfl, rfl, w0⟩ := open_int Tryz.underlying3 (hval 0 3 v0 rfl rfl) h0;obtain ⟨a1, rfl, rfl, rfl, w1⟩ := open_int Tryz.underlying3 (hval 1 3 v1 rfl rfl) h1;obtain ⟨x2, c2, w2⟩ := z8R Tryz.underlying22 Tryz.underlying3 z7f (hval 2 22 v2 rfl rfl) h2;obtain ⟨x3, c3, w3⟩ := z8R Tryz.underlying22 Tryz.underlying3 z7f (hval 3 22 v3 rfl rfl) h3;clear hA0 hval0;refine (zda (ars := [.plain (.int .i64 a0), .plain (.int .i64 a1), .ints .i64 x2, .ints .i64 x3]) (vs := [_, _, _, _]) ⟨⟨rfl, rfl⟩, ⟨rfl, rfl⟩, c2, c3, trivial⟩ (fun nx H us hat hok => zir W nx H a0 w0 a1 w1 x2 w2 x3 w3 us hat hok)).mono fun e W' ⟨he, hg⟩ => ?_;subst he;exact ⟨_, rfl, zeb zfL krf rfl Tryz.underlying4 rfl hW' rfl hg⟩
theorem zio : Rows.autoTrimsRow.holds Tryz.pinned (OpenSpec.ofChange Rows.autoTrimsSpec) :=
 OpenClaim.holds_of_wide 4 Tryz.f4 rfl rfl rfl rfl rfl rfl rfl ⟨rfl, rfl, rfl, rfl, rfl⟩ rfl rfl rfl rfl rfl krf Tryz.func4 krf
  (of_decide_eq_true krf) (by unfold Func.isWrapper; first | (rw [if_pos (by decide +kernel)]; kernel_rfl) | (rw [if_neg (by decide +kernel)]; exact ⟨rfl, rfl⟩))
  (fun os started H enc _ => zgZ os started H enc)
theorem proved : Rows.AutoTrimsSaid := zio
end Go.Proofs.YteplpegfcpmflaaGreat.autoTrims
