import Derived.Test.YtjgbcpagfghfnaaQYM45
import Derived.Test.YtjgbcpagfghfnaaQYM15
set_option linter.unusedVariables false
set_option linter.unusedSimpArgs false
namespace Go.Am
open Go.RowKit
end Go.Am
namespace Go.Proofs.Ytjgbcpagfghfnaa
open Go.Am Go.RowKit
attribute [local irreducible] aop OpsL Trip zt z1X z1E OpsR OpsQ
theorem z7l : Am.z1G Try.prog 29 := ⟨Try.f29, Try.func29, by kernel_rfl, by kernel_rfl⟩
set_option maxRecDepth 20000 in
set_option maxHeartbeats 16000000 in
theorem zcQ (W0 : World) {nx : Nat} {H : Heap} {m : Mo} {V : MoV} {gv ov : Value} {of : List Int} {p q : Nat} (hm : MoIn H m V) (hmod : ModOk m) (hg : BoolsAt H gv (z0 m)) (ho : IntsAt H ov of) (hol : of.length = m.of.length) (hp : (z0 m).getD p false = true) (hq : (z0 m).getD q false = true) :
  ACalls Try.prog W0 29 [.agg (moV m V).toArray, gv, ov, .int .i64 p, .int .i64 q] nx H fun v nx' H' => ∃ d, v = .bool d ∧ (d = true ↔ AlikeP m (fun x => of.getD x 0) p q) ∧ Ext nx H nx' H' := by
 refine zg (fn := Try.f29) (c := _) Try.func29 rfl (fun tm n hn0 htm => ?_);have e0 : tm 0 = .agg (moV m V).toArray := htm 0;have e1 : tm 1 = gv := htm 1;have e2 : tm 2 = ov := htm 2;have e3 : tm 3 = .int .i64 p := htm 3;have e4 : tm 4 = .int .i64 q := htm 4;clear htm;replace hn0 : n = 206 := hn0;refine Trip.ok fun hok => ?_;replace hok : ∀ id o, H id = some o → id < nx := hok;refine z2k ?_;refine zY hm hok ?_ evd sdc;intro G x0 okG hb hG;clear e0;have hpn := z0g hmod hp;have hqn := z0g hmod hq;replace hg := BoolsAt.ext x0 hok hg;replace ho := IntsAt.ext x0 hok ho;have hst := hmod.st;have hrl := z0j hst
 have hlens : (z0 m).length ≤ m.of.length ∧ m.of.length ≤ (z0 m).length ∧ of.length ≤ m.of.length ∧ m.of.length ≤ of.length ∧ m.final.length ≤ m.of.length ∧ m.of.length ≤ m.final.length ∧ m.inn.length ≤ m.of.length ∧ m.of.length ≤ m.inn.length ∧ m.low.length ≤ m.of.length ∧ m.of.length ≤ m.low.length ∧ m.ret.length ≤ m.of.length ∧ m.of.length ≤ m.ret.length := by
  have := hmod.fl; have := hmod.il; have := hmod.ll; have := hmod.rl; omega
 clear hrl hol;obtain ⟨ga, gc, rfl⟩ := BoolsAt.slice hg;obtain ⟨da, dc, rfl⟩ := IntsAt.slice ho;obtain ⟨pg, rfl, cg⟩ := z64 hg (by omega);obtain ⟨pd, rfl, cd⟩ := z1V ho (by omega);obtain ⟨qOa, qOc, qOv⟩ := hG.of.slice;have hO := hG.of;have g2 := hb.c2;rw [qOv] at hO g2;obtain ⟨pO, rfl, cO⟩ := z1V hO (by omega);clear qOv;obtain ⟨qFia, qFic, qFiv⟩ := hG.final.slice;have hFi := hG.final;have g4 := hb.c4;rw [qFiv] at hFi g4;obtain ⟨pFi, rfl, cFi⟩ := z64 hFi (by omega);clear qFiv;obtain ⟨qIa, qIc, qIv⟩ := hG.inn.slice;have hI := hG.inn;have g5 := hb.c5;rw [qIv] at hI g5;obtain ⟨pI, rfl, cI⟩ := z6Q hI (by omega);clear qIv;obtain ⟨qLa, qLc, qLv⟩ := hG.low.slice;have hL := hG.low;have g6 := hb.c6;rw [qLv] at hL g6;obtain ⟨pL, rfl, cL⟩ := z6Q hL (by omega);clear qLv;obtain ⟨qRa, qRc, qRv⟩ := hG.ret.slice;have hR := hG.ret;have g7 := hb.c7;rw [qRv] at hR g7;obtain ⟨pR, rfl, cR⟩ := zdj hR (by omega);clear qRv;have g1 := hb.c1;have g0 := hb.c0;have cdI : ∀ {x : Int}, 0 ≤ x → x < (m.of.length : Int) → zf G ⟨pd.block, pd.off + x.toNat * 1, pd.spot⟩ (.int .i64 (of.getD x.toNat 0)) := fun h0 h1 => cd _ (by omega);have hn60 := hmod.n.2;have hpl := hmod.pl;have hcl := hmod.cl;obtain ⟨hip, hip2⟩ := hmod.inn p hpn;obtain ⟨hiq, hiq2⟩ := hmod.inn q hqn;have o1 := cO p hpn;have o2 := cO q hqn;have f1 := cFi p (by omega);have f2 := cFi q (by omega);have d1 := cd p (by omega);have d2 := cd q (by omega);clear hok hG hb okG hm;refine zfC ?_
 -- what they are
 refine Trip.mono (Q := fun e st => e = .normal ∧ ∃ (tm' : Nat → Value) (dd : Bool), st = ⟨tm', n, G, nx + 1⟩ ∧ tm' 1 = .slice (some pg) (z0 m).length gc ∧ tm' 2 = .slice (some pd) of.length dc ∧ tm' 3 = .int .i64 p ∧ tm' 4 = .int .i64 q ∧ tm' 5 = .pointer (some ⟨nx, 0, none⟩) ∧ tm' 49 = .bool dd ∧ (dd = false ↔ m.of.getD p 0 = m.of.getD q 0 ∧ m.final.getD p false = m.final.getD q false ∧ of.getD p 0 = of.getD q 0)) ?_ ?_
 ·refine z04 [] (K := fun _ _ => True) zU krf krf [0, 1, 2, 3, 4, 5, 6, 7, 8, 9, 10, 11, 12, 13, 14, 15, 16, 17, 18, 19, 20, 21, 22, 23, 24, 25, 26, 27, 28, 29, 30, 31, 32, 33, 34] krf trivial ?_;refine zaD ?_;refine zaD ?_;refine zg1 ?_;by_cases h1 : m.of.getD p 0 = m.of.getD q 0
  rotate_left
  ·refine z08 ?_ (c := h1);refine z0n ?_;refine zfB ?_;refine z4G ?_;refine z9P ?_;refine z7d ?_;refine OpsR.nil ?_;exact ⟨rfl, _, true, rfl, stp, stp, stp, stp, stp, stp, (fun h => by cases h), fun h => absurd h.1 h1⟩
  refine z02 ?_ (c := h1);refine z0n ?_;refine z9Z ?_;refine zg9 ?_;refine zg2 ?_;refine z6u ?_;refine zw sdc (z7M (a := m.final.getD p false) (b := m.final.getD q false) evd evd xrf) ?_;refine z0n ?_;by_cases h2 : m.final.getD p false = m.final.getD q false
  rotate_left
  ·rw [show (m.final.getD p false == m.final.getD q false) = false from beq_eq_false_iff_ne.2 h2, Bool.not_false];refine z9W ?_;refine z4G ?_;refine z9P ?_;refine z7d ?_;refine OpsR.nil ?_;exact ⟨rfl, _, true, rfl, stp, stp, stp, stp, stp, stp, (fun h => by cases h), fun h => absurd h.2.1 h2⟩
  rw [show (m.final.getD p false == m.final.getD q false) = true from by rw [h2]; exact beq_self_eq_true _, Bool.not_true];refine z9W ?_;refine z4G ?_;refine z7c ?_;refine zg2 ?_;refine z7c ?_;refine zg2 ?_;refine z6u ?_;by_cases h3 : of.getD p 0 = of.getD q 0
  ·refine z02 ?_ (c := h3);refine zdl ?_;exact ⟨rfl, _, false, rfl, stp, stp, stp, stp, stp, stp, fun _ => ⟨h1, h2, h3⟩, fun _ => rfl⟩
  ·refine z08 ?_ (c := h3);refine zdl ?_;exact ⟨rfl, _, true, rfl, stp, stp, stp, stp, stp, stp, (fun h => by cases h), fun h => absurd h.2.2 h3⟩
 clear o1 o2 f1 f2 d1 d2 e1 e2 e3 e4;rintro e st ⟨rfl, tm, dd, rfl, t1, t2, t3, t4, t5, t49, hdd⟩
 (change Trip _ _ _ _ _)
 cases dd
 rotate_left
 ·refine z07 ?_;refine zc7 ?_;exact ⟨.inr rfl, _, zn, false, by simp [zb], ⟨(fun h => by cases h), (fun h => by have := hdd.2 ⟨h.2.of, h.2.fin, h.1⟩; cases this)⟩, x0⟩
 refine z2r ?_;obtain ⟨k1, k2, k3⟩ := hdd.1 rfl;clear hdd t49;refine zc5 ?_
 -- plain symbols
 have hbad : ∀ {P : Prop}, (AlikeP m (fun x => of.getD x 0) p q → P) → ¬ P → (false = true ↔ AlikeP m (fun x => of.getD x 0) p q) := fun h1 h2 => ⟨(fun h => by cases h), (fun h => absurd (h1 h) h2)⟩;obtain ⟨bip, kip, cip, rip⟩ := cI p (by omega);obtain ⟨biq, kiq, ciq, riq⟩ := cI q (by omega);refine zG (fun (i : Nat) s => ∃ (tm : Nat → Value), s = ⟨tm, n, G, nx + 1⟩ ∧ tm 1 = .slice (some pg) (z0 m).length gc ∧ tm 2 = .slice (some pd) of.length dc ∧ tm 3 = .int .i64 p ∧ tm 4 = .int .i64 q ∧ tm 5 = .pointer (some ⟨nx, 0, none⟩) ∧ tm 11 = .int .i64 i ∧ (i : Int) ≤ m.plains ∧ ∀ k, k < i → of.getD ((m.inn.getD p []).getD k 0).toNat 0 = of.getD ((m.inn.getD q []).getD k 0).toNat 0) (fun i => m.plains.toNat - i) 0 ?_ ?_
 ·exact ⟨_, rfl, stp, stp, stp, stp, stp, stp, by omega, fun k hk => by omega⟩
 clear t1 t2 t3 t4 t5;rintro i s ⟨tm, rfl, t1, t2, t3, t4, t5, t11, hi, hall⟩
 repeat (first | (refine zc (by first | exact omv | exact ofa | exact old | exact z24) ?_) | (refine Trip.seq ?_) | (refine zd ?_) | (refine Trip.block ?_) | (refine zJ (fun _ => ?_) (fun _ => ?_)) | (refine Trip.skip ?_; (change Trip _ _ _ _ _)) | (refine OpsL.nil ?_; (change Trip _ _ _ _ _)))
 ·have hlt : (i : Int) < m.plains := by omega
  obtain ⟨zp, rfl, cz⟩ := z1V rip (by omega);obtain ⟨zq, rfl, cy⟩ := z1V riq (by omega);have c1 := cz i (by omega);have c2 := cy i (by omega);have b1 := (hip2 _ (zM (i := i) (by omega))).1;have b2 := (hiq2 _ (zM (i := i) (by omega))).1;obtain ⟨x1, hx1⟩ : ∃ x, (m.inn.getD p []).getD i 0 = x := ⟨_, rfl⟩;obtain ⟨x2, hx2⟩ : ∃ x, (m.inn.getD q []).getD i 0 = x := ⟨_, rfl⟩;rw [hx1] at c1 b1;rw [hx2] at c2 b2;have v1 := cdI b1.1 b1.2;have v2 := cdI b2.1 b2.2;refine Trip.mono (Q := fun e st => e = .normal ∧ ∃ (tm' : Nat → Value) (dd : Bool), st = ⟨tm', n, G, nx + 1⟩ ∧ tm' 1 = .slice (some pg) (z0 m).length gc ∧ tm' 2 = .slice (some pd) of.length dc ∧ tm' 3 = .int .i64 p ∧ tm' 4 = .int .i64 q ∧ tm' 5 = .pointer (some ⟨nx, 0, none⟩) ∧ tm' 11 = .int .i64 i ∧ tm' 78 = .bool dd ∧ (dd = false ↔ of.getD x1.toNat 0 = of.getD x2.toNat 0)) ?_ ?_
  ·refine z04 [] (K := fun _ _ => True) zU krf krf [0, 1, 2, 3, 4, 5, 6, 7, 8, 9, 10, 11, 12, 13, 14, 15, 16, 17, 18, 19, 20, 21, 22] krf trivial ?_;refine zg1 ?_;refine zek ?_;refine zgB ?_;refine z4G ?_;refine zgB ?_;refine zg1 ?_;by_cases h1 : of.getD x1.toNat 0 = of.getD x2.toNat 0
   ·refine z02 ?_ (c := h1);refine z6v ?_;exact ⟨rfl, _, false, rfl, stp, stp, stp, stp, stp, stp, stp, fun _ => h1, fun _ => rfl⟩
   ·refine z08 ?_ (c := h1);refine z6v ?_;exact ⟨rfl, _, true, rfl, stp, stp, stp, stp, stp, stp, stp, (fun h => by cases h), fun h => absurd h h1⟩
  clear t1 t2 t3 t4 t5 t11 c1 c2 v1 v2;rintro e st ⟨rfl, tm, dd, rfl, t1, t2, t3, t4, t5, t11, t78, hdd⟩
  (change Trip _ _ _ _ _)
  cases dd
  rotate_left
  ·refine z07 ?_;refine zeH ?_;exact ⟨.inr rfl, _, zn, false, by simp [zb], hbad (fun h => by have := h.2.inn i (by omega); rw [hx1, hx2] at this; exact this) (fun h => by have := hdd.2 h; cases this), x0⟩
  refine z2r ?_;have hd := hdd.1 rfl;refine z9R ?_;refine ⟨i + 1, ⟨_, rfl, stp, stp, stp, stp, stp, stp, by omega, fun k hk => ?_⟩, by omega⟩;by_cases e : k = i
  ·rw [e, hx1, hx2]; exact hd
  ·exact hall k (by omega)
 have hallI := hall;have hie : (i : Int) = m.plains := by omega
 have hIall : ∀ k, k < m.plains.toNat → of.getD ((m.inn.getD p []).getD k 0).toNat 0 = of.getD ((m.inn.getD q []).getD k 0).toNat 0 := fun k hk => hallI k (by omega);clear hall hallI hie hi t11 cip ciq rip riq;refine zgV ?_
 -- below
 obtain ⟨blp, klp, clp, rlp⟩ := cL p (by omega);obtain ⟨blq, klq, clq, rlq⟩ := cL q (by omega)
 have hll : (m.low.getD p []).length ≤ (m.low.getD q []).length ∧ (m.low.getD p []).length ≤ 20 := by
  by_cases hz : m.of.getD p 0 = 0
  ·have := (hmod.low0 p hpn hz).1; have := (hmod.low0 q hqn (by rw [← k1]; exact hz)).1; omega
  ·rw [hmod.low1 p hpn hz]; simp
 have hlp := hst.low p;have hlq := hst.low q;refine zG (fun (i : Nat) s => ∃ (tm : Nat → Value), s = ⟨tm, n, G, nx + 1⟩ ∧ tm 1 = .slice (some pg) (z0 m).length gc ∧ tm 2 = .slice (some pd) of.length dc ∧ tm 3 = .int .i64 p ∧ tm 4 = .int .i64 q ∧ tm 5 = .pointer (some ⟨nx, 0, none⟩) ∧ tm 12 = .int .i64 i ∧ i ≤ (m.low.getD p []).length ∧ ∀ k, k < i → of.getD ((m.low.getD p []).getD k 0).toNat 0 = of.getD ((m.low.getD q []).getD k 0).toNat 0) (fun i => (m.low.getD p []).length - i) 0 ?_ ?_
 ·exact ⟨_, rfl, stp, stp, stp, stp, stp, stp, by omega, fun k hk => by omega⟩
 clear t1 t2 t3 t4 t5;rintro i s ⟨tm, rfl, t1, t2, t3, t4, t5, t12, hi, hall⟩
 repeat (first | (refine zc (by first | exact omv | exact ofa | exact old | exact z1j | exact z1g | exact z24) ?_) | (refine Trip.seq ?_) | (refine zd ?_) | (refine Trip.block ?_) | (refine zJ (fun _ => ?_) (fun _ => ?_)) | (refine Trip.skip ?_; (change Trip _ _ _ _ _)) | (refine OpsL.nil ?_; (change Trip _ _ _ _ _)))
 ·have hlt : i < (m.low.getD p []).length := by omega
  obtain ⟨zp, rfl, cz⟩ := z1V rlp (by omega);obtain ⟨zq, rfl, cy⟩ := z1V rlq (by omega);have c1 := cz i (by omega);have c2 := cy i (by omega);have b1 := hlp _ (zM (i := i) (by omega));have b2 := hlq _ (zM (i := i) (by omega));obtain ⟨x1, hx1⟩ : ∃ x, (m.low.getD p []).getD i 0 = x := ⟨_, rfl⟩;obtain ⟨x2, hx2⟩ : ∃ x, (m.low.getD q []).getD i 0 = x := ⟨_, rfl⟩;rw [hx1] at c1 b1;rw [hx2] at c2 b2;have v1 := cdI b1.1 b1.2;have v2 := cdI b2.1 b2.2;refine Trip.mono (Q := fun e st => e = .normal ∧ ∃ (tm' : Nat → Value) (dd : Bool), st = ⟨tm', n, G, nx + 1⟩ ∧ tm' 1 = .slice (some pg) (z0 m).length gc ∧ tm' 2 = .slice (some pd) of.length dc ∧ tm' 3 = .int .i64 p ∧ tm' 4 = .int .i64 q ∧ tm' 5 = .pointer (some ⟨nx, 0, none⟩) ∧ tm' 12 = .int .i64 i ∧ tm' 111 = .bool dd ∧ (dd = false ↔ of.getD x1.toNat 0 = of.getD x2.toNat 0)) ?_ ?_
  ·refine z04 [] (K := fun _ _ => True) zU krf krf [0, 1, 2, 3, 4, 5, 6, 7, 8, 9, 10, 11, 12, 13, 14, 15, 16, 17, 18, 19, 20, 21, 22] krf trivial ?_;refine zg1 ?_;refine zek ?_;refine zgB ?_;refine z4G ?_;refine zgB ?_;refine zg1 ?_;by_cases h1 : of.getD x1.toNat 0 = of.getD x2.toNat 0
   ·refine z02 ?_ (c := h1);refine z6v ?_;exact ⟨rfl, _, false, rfl, stp, stp, stp, stp, stp, stp, stp, fun _ => h1, fun _ => rfl⟩
   ·refine z08 ?_ (c := h1);refine z6v ?_;exact ⟨rfl, _, true, rfl, stp, stp, stp, stp, stp, stp, stp, (fun h => by cases h), fun h => absurd h h1⟩
  clear t1 t2 t3 t4 t5 t12 c1 c2 v1 v2;rintro e st ⟨rfl, tm, dd, rfl, t1, t2, t3, t4, t5, t12, t111, hdd⟩
  (change Trip _ _ _ _ _)
  cases dd
  rotate_left
  ·refine z07 ?_;refine zeH ?_;exact ⟨.inr rfl, _, zn, false, by simp [zb], hbad (fun h => by have := h.2.low i hlt; rw [hx1, hx2] at this; exact this) (fun h => by have := hdd.2 h; cases this), x0⟩
  refine z2r ?_;have hd := hdd.1 rfl;refine z9R ?_;refine ⟨i + 1, ⟨_, rfl, stp, stp, stp, stp, stp, stp, by omega, fun k hk => ?_⟩, by omega⟩;by_cases e : k = i
  ·rw [e, hx1, hx2]; exact hd
  ·exact hall k (by omega)
 have hallL := hall;have hie : i = (m.low.getD p []).length := by omega
 have hLall : ∀ k, k < (m.low.getD p []).length → of.getD ((m.low.getD p []).getD k 0).toNat 0 = of.getD ((m.low.getD q []).getD k 0).toNat 0 := fun k hk => hallL k (by omega);clear hall hallL hie hi t12 clp clq rlp rlq;refine zeG ?_
 (first | (refine zc (by exact z09) ?_))
 refine z0n ?_
 (change Trip _ _ _ _ _)
 have hT : (∀ x : Nat, x < m.of.length → (z0 m).getD x false = true → ∀ j : Nat, (j : Int) < m.closings → zes m of p q x j) ↔ AlikeP m (fun x => of.getD x 0) p q := ⟨fun h => ⟨k3, k1, k2, hIall, hLall, fun hz j x hj hx => (h x (z0g hmod hx) hx j (by omega)).1 hz, fun j x hj hx hz => (h x (z0g hmod hx) hx j (by omega)).2 hz⟩, fun h x hx hg j hj => ⟨fun hz => h.2.above hz j x (by omega) hg, fun hz => h.2.below j x (by omega) hg hz⟩⟩;refine zcP (of := of) (p := p) (q := q) (pg := pg) (pd := pd) (gc := gc) (dc := dc) W0 hn0 hmod hpn hqn k1 (by omega) cdI g1 g2 g7 cO cR cg (by omega) stp stp stp stp stp stp ?_ ?_
 ·clear t1 t2 t3 t4 t5;intro tm' hall;dsimp only;refine zc7 ?_;exact ⟨.inr rfl, _, zn, true, by simp [zb], ⟨fun _ => hT.1 hall, fun _ => rfl⟩, x0⟩
 ·intro tm' h10 hno;exact ⟨.inr rfl, _, zn, false, by rw [← h10], ⟨(fun h => by cases h), fun h => absurd (hT.2 h) hno⟩, x0⟩
end Go.Proofs.Ytjgbcpagfghfnaa
namespace Go.Am
open Go.RowKit
def zhu (p : Prop) : Prop := p
theorem z2R {e : List Int} {x : Int} {k p : Nat} (hk : k < e.length) : (e.set k x).getD p 0 = if p = k then x else e.getD p 0 := by
 rw [List.getD_eq_getElem?_getD, List.getD_eq_getElem?_getD, List.getElem?_set];by_cases h : k = p
 ·subst h; rw [if_pos rfl, if_pos hk, if_pos rfl]; rfl
 ·rw [if_neg h, if_neg (fun q => h q.symm)]
theorem z33 {c : Co} {σ : CH} {b : Nat} {el : TypeId} {l : List Int} {i : Nat} (h : ObC c σ b (.cells (l.map (.int .i64 ·)) 1 none false (some el))) (hi : i < l.length) : zf σ.H ⟨b, 0 + i * 1, none⟩ (.int .i64 (l.getD i 0)) := by
 rw [Nat.zero_add, Nat.mul_one];exact h.cell (by rw [List.getElem?_map, List.getElem?_eq_getElem hi, List.getD_eq_getElem?_getD, List.getElem?_eq_getElem hi]; rfl)
theorem z3a {c : Co} {σ : CH} {b : Nat} {el : TypeId} {l : List Bool} {i : Nat} (h : ObC c σ b (.cells (l.map .bool) 1 none false (some el))) (hi : i < l.length) : zf σ.H ⟨b, 0 + i * 1, none⟩ (.bool (l.getD i false)) := by
 rw [Nat.zero_add, Nat.mul_one];exact h.cell (by rw [List.getElem?_map, List.getElem?_eq_getElem hi, List.getD_eq_getElem?_getD, List.getElem?_eq_getElem hi]; rfl)
theorem z6I {c : Co} {σ : CH} {b k : Nat} {el : TypeId} {l : List Int} (hk : l.length = k) (h : ObC c σ b (.cells (l.map (.int .i64 ·)) 1 none false (some el))) : IntsAt σ.H (.slice (some ⟨b, 0, none⟩) k k) l := by
 subst hk;refine .inr ⟨⟨b, 0, none⟩, l.length, rfl, fun i hi => ?_⟩;rw [Nat.zero_add];exact h.cell (by rw [List.getElem?_map, List.getElem?_eq_getElem hi]; rfl)
theorem zbx {c : Co} {σ : CH} {b k : Nat} {el : TypeId} {l : List Bool} (hk : l.length = k) (h : ObC c σ b (.cells (l.map .bool) 1 none false (some el))) : BoolsAt σ.H (.slice (some ⟨b, 0, none⟩) k k) l := by
 subst hk;refine .inr ⟨⟨b, 0, none⟩, l.length, rfl, fun i hi => ⟨_, ?_, rfl⟩⟩;rw [Nat.zero_add];exact h.cell (by rw [List.getElem?_map, List.getElem?_eq_getElem hi]; rfl)
def dN (r : List Bool) (i j : Nat) : Int := if j < i ∧ r.getD j false = false then -1 else 0
def dL (r : List Bool) (k i : Nat) : List Int := (List.range k).map (dN r i)
theorem zeA (r : List Bool) (k i : Nat) : (dL r k i).length = k := by simp [dL]
theorem zgt {r : List Bool} {k i j : Nat} (h : j < k) : (dL r k i).getD j 0 = dN r i j := by
 unfold dL;rw [List.getD_eq_getElem?_getD, List.getElem?_map, List.getElem?_range h]; rfl
theorem zfd (r : List Bool) (k : Nat) : dL r k 0 = List.replicate k 0 := by
 refine List.ext_getElem (by simp [dL]) fun i h1 h2 => ?_;simp [dL, dN]
theorem zfe {r : List Bool} {k i : Nat} (h : r.getD i false = true) : dL r k (i + 1) = dL r k i := by
 refine List.map_congr_left fun j _ => ?_;unfold dN;by_cases e : j = i
 ·subst e;rw [if_neg (by rw [h]; simp), if_neg (by omega)]
 ·by_cases e2 : j < i ∧ r.getD j false = false
  ·rw [if_pos e2, if_pos ⟨by omega, e2.2⟩]
  ·rw [if_neg e2, if_neg (fun q => e2 ⟨by omega, q.2⟩)]
theorem zgs {r : List Bool} {k i : Nat} (hi : i < k) (h : r.getD i false = false) : (dL r k i).set i (-1) = dL r k (i + 1) := by
 unfold dL
 exact z3J hi (by unfold dN; rw [if_pos ⟨by omega, h⟩]) (fun j hj => by
  unfold dN;by_cases e2 : j < i ∧ r.getD j false = false
  ·rw [if_pos e2, if_pos ⟨by omega, e2.2⟩]
  ·rw [if_neg e2, if_neg (fun q => e2 ⟨by omega, q.2⟩)])
section
variable {P : Program} {W0 : World} {n nx : Nat} {H : Heap} {ops : Array Oper} {l : List Oper} {tm : Nat → Value} {QQ : ASt → Prop} {d : Tmp} {type : TypeId} {pos : String} {after : Array Edge} {f : Nat} {ts : Array TypeId} {R : Value → Nat → Heap → Prop}
theorem zbQ {x y z w u : Operand} {a b c e g : Value} (hd : d < n) (hx : ASt.ev ⟨tm, n, H, nx⟩ x = some a) (hy : ASt.ev ⟨tm, n, H, nx⟩ y = some b) (hz : ASt.ev ⟨tm, n, H, nx⟩ z = some c) (hw : ASt.ev ⟨tm, n, H, nx⟩ w = some e) (hu : ASt.ev ⟨tm, n, H, nx⟩ u = some g) (hf : z1G P f) (hcall : ACalls P W0 f [a, b, c, e, g] nx H R) (h : ∀ v nx' H', R v nx' H' → OpsL P W0 ops l ⟨zb tm (some d) v, n, H', nx'⟩ QQ) :
  OpsL P W0 ops (⟨some d, .call ⟨.value (.func f), #[x, y, z, w, u], ts⟩, type, pos, after, none⟩ :: l) ⟨tm, n, H, nx⟩ QQ := by
 refine OpsL.call R (by simp [z1B, hd]) rfl ?_ hf hcall h;have hf' : ASt.ev ⟨tm, n, H, nx⟩ (.func f) = some (.func (.func f) #[] #[]) := rfl;simp [z1z, hf', z1k, hx, hy, hz, hw, hu]
end
end Go.Am
namespace Go.Proofs.Ytjgbcpagfghfnaa
open Go.Am Go.RowKit
attribute [local irreducible] aop OpsL Trip zt z1X z1E OpsR OpsQ
set_option maxRecDepth 20000 in
set_option maxHeartbeats 16000000 in
theorem zhJ (W0 : World) {σ0 σ : CH} {m : Mo} {V : MoV} {nx rb bo bn r last c p n : Nat} {d e1 : List Int} {tm : Nat → Value} (hmod : ModOk m) (hn0 : n = 102) (hFA : ∀ {N : Nat} {H' : Heap}, Ext σ0.nx σ0.H N H' → MoBox H' nx m V ∧ MoIn H' m V) (hrl : PLift ((z0 m).length = m.of.length)) (hdl : PLift (d.length = m.of.length)) (hel : PLift (e1.length = m.of.length)) (hp : p < m.of.length) (hz : e1.getD p 0 = -1) (hpos : ∀ q, q < p → (z0 m).getD q false = true → 0 ≤ e1.getD q 0)
  (t1 : tm 1 = .pointer (some ⟨nx, 0, none⟩)) (t3 : tm 3 = .slice (some ⟨rb, 0, none⟩) m.of.length m.of.length) (t4 : tm 4 = .slice (some ⟨bo, 0, none⟩) m.of.length m.of.length) (t6 : tm 6 = .int .i64 (last : Nat)) (t7 : tm 7 = .slice (some ⟨bn, 0, none⟩) m.of.length m.of.length) (t8 : tm 8 = .int .i64 (c : Nat)) (t9 : tm 9 = .int .i64 p) (t10 : tm 10 = .int .i64 0) (ho : OldC σ0 σ) (hg : ObC .tmp σ rb (.cells ((z0 m).map .bool) 1 none false (some 4))) (hd : ObC (.tab r) σ bo (.cells (d.map (.int .i64 ·)) 1 none false (some 3))) (he : ObC (.tab (r + 1)) σ bn (.cells ((e1).map (.int .i64 ·)) 1 none false (some 3)))
  {Q : AExit → ASt → Prop} (hQ : (∀ (tm' : Nat → Value) (σ : CH) (e' : List Int), tm' 1 = .pointer (some ⟨nx, 0, none⟩) → tm' 3 = .slice (some ⟨rb, 0, none⟩) m.of.length m.of.length → tm' 4 = .slice (some ⟨bo, 0, none⟩) m.of.length m.of.length → tm' 6 = .int .i64 (last : Nat) → tm' 7 = .slice (some ⟨bn, 0, none⟩) m.of.length m.of.length → tm' 8 = .int .i64 (c : Nat) → tm' 9 = .int .i64 p → OldC σ0 σ → ObC .tmp σ rb (.cells ((z0 m).map .bool) 1 none false (some 4)) → ObC (.tab r) σ bo (.cells (d.map (.int .i64 ·)) 1 none false (some 3)) → ObC (.tab (r + 1)) σ bn (.cells ((e').map (.int .i64 ·)) 1 none false (some 3)) → (e' = e1 ∧ ((z0 m).getD p false = true → ∀ q, q < p → (z0 m).getD q false = true → ¬ AlikeP m (fun x => d.getD x 0) p q) ∨ ∃ q, q < p ∧ (z0 m).getD p false = true ∧ (z0 m).getD q false = true ∧ AlikeP m (fun x => d.getD x 0) p q ∧ e' = e1.set p (e1.getD q 0)) → Q .normal ⟨tm', n, σ.H, σ.nx⟩)) :
  Trip Try.prog W0 (z3t [1, 1, 1, 1, 1, 2, 2, 2, 1, 1, 0, 1, 2, 2, 1, 0, 2, 1, 0, 1] (z0B Try.f15)) ⟨tm, n, σ.H, σ.nx⟩ Q := by
 refine Trip.block ?_;refine zG (fun (q : Nat) st => ∃ (tm : Nat → Value) (σ : CH) (e' : List Int), st = ⟨tm, n, σ.H, σ.nx⟩ ∧ tm 1 = .pointer (some ⟨nx, 0, none⟩) ∧ tm 3 = .slice (some ⟨rb, 0, none⟩) m.of.length m.of.length ∧ tm 4 = .slice (some ⟨bo, 0, none⟩) m.of.length m.of.length ∧ tm 6 = .int .i64 (last : Nat) ∧ tm 7 = .slice (some ⟨bn, 0, none⟩) m.of.length m.of.length ∧ tm 8 = .int .i64 (c : Nat) ∧ tm 9 = .int .i64 p ∧ tm 10 = .int .i64 q ∧ q ≤ p ∧ OldC σ0 σ ∧ ObC .tmp σ rb (.cells ((z0 m).map .bool) 1 none false (some 4)) ∧ ObC (.tab r) σ bo (.cells (d.map (.int .i64 ·)) 1 none false (some 3)) ∧ ObC (.tab (r + 1)) σ bn (.cells ((e').map (.int .i64 ·)) 1 none false (some 3)) ∧ (e' = e1 ∧ ((z0 m).getD p false = true → ∀ q', q' < q → (z0 m).getD q' false = true → ¬ AlikeP m (fun x => d.getD x 0) p q') ∨ ∃ q', q' < q ∧ (z0 m).getD p false = true ∧ (z0 m).getD q' false = true ∧ AlikeP m (fun x => d.getD x 0) p q' ∧ e' = e1.set p (e1.getD q' 0))) (fun q => p - q) 0 ?_ ?_
 ·exact ⟨tm, σ, e1, rfl, t1, t3, t4, t6, t7, t8, t9, t10, by omega, ho, hg, hd, he, .inl ⟨rfl, fun _ q' hq => by omega⟩⟩
 clear t1 t3 t4 t6 t7 t8 t9 t10 ho hg hd he;rintro q st ⟨tm, σ, e', rfl, t1, t3, t4, t6, t7, t8, t9, t10, hqp, ho, hg, hd, he, halt⟩;have hn60 := hmod.n.2
 have hel' : PLift (e'.length = m.of.length) := by
  refine ⟨?_⟩;rcases halt with ⟨rfl, _⟩ | ⟨_, _, _, _, _, rfl⟩
  ·exact hel.down
  ·rw [List.length_set]; exact hel.down
 have cg := z3a hg (i := p) (by have := hrl.down; omega);have ce := z33 he (i := p) (by have := hel'.down; omega);obtain ⟨y, hy⟩ : ∃ y, (z0 m).getD p false = y := ⟨_, rfl⟩;obtain ⟨z, hzz⟩ : ∃ z, e'.getD p 0 = z := ⟨_, rfl⟩;rw [hy] at cg halt hQ;rw [hzz] at ce;refine zbV ?_;by_cases hlt : q < p
 ·refine z0y ?_
  repeat (first | (refine zc (by first | exact omv | exact z1j | exact old) ?_) | (refine zB ?_))
  cases y
  ·repeat (first | (refine zc (by first | exact z3O | exact z3u | exact omv) ?_) | (refine OpsL.nil ?_; (change Trip _ _ _ _ _)) | (refine z0e ?_))
   refine z2r ?_;refine zfm ?_;refine hQ _ σ e' stp stp stp stp stp stp stp ho hg hd he ?_;rcases halt with ⟨h1, h2⟩ | ⟨q', h1, h2, _⟩
   ·exact .inl ⟨h1, fun h => by cases h⟩
   ·cases h2
  ·repeat (first | (refine zc (by first | exact z3O | exact omv | exact z1j | exact old) ?_) | (refine zB ?_))
   by_cases hneg : z < 0
   ·refine z0y ?_ (c := hneg);refine zeE ?_;refine z07 ?_
    have hno : e' = e1 ∧ ∀ q', q' < q → (z0 m).getD q' false = true → ¬ AlikeP m (fun x => d.getD x 0) p q' := by
     rcases halt with ⟨h1, h2⟩ | ⟨q', h1, h2, h3, h4, rfl⟩
     ·exact ⟨h1, h2 rfl⟩
     ·have h5 := hpos q' (by omega) h3;rw [z2R (by have := hel.down; omega), if_pos rfl] at hzz;omega
    obtain ⟨rfl, hno⟩ := hno;clear halt cg ce;have cq := z3a hg (i := q) (by have := hrl.down; omega);have hbb := hFA ho.ext;obtain ⟨w, hw⟩ : ∃ w, (z0 m).getD q false = w := ⟨_, rfl⟩;rw [hw] at cq;refine zfQ ?_;cases w
    ·repeat (first | (refine zc (by exact z3u) ?_) | (refine OpsL.nil ?_; (change Trip _ _ _ _ _)) | (refine z0e ?_))
     refine z2r ?_;refine z9R ?_;refine ⟨q + 1, ⟨_, σ, _, rfl, stp, stp, stp, stp, stp, stp, stp, stp, by omega, ho, hg, hd, he, .inl ⟨rfl, fun _ q' h1 h2 => ?_⟩⟩, by omega⟩;by_cases e : q' = q
     ·rw [e, hw] at h2; cases h2
     ·exact hno q' (by omega) h2
    ·repeat (first | (refine zB ?_))
     refine zS hbb.1 ?_ evd sdc;refine zcd ?_;refine zbQ sdc evd evd evd evd evd z7l (zcQ W0 hbb.2 hmod (zbx hrl.down hg) (z6I hdl.down hd) hdl.down hy hw) ?_;rintro v1 nx1 H1 ⟨b, rfl, hb, hx⟩;obtain ⟨τ, rfl, rfl, x3, hc3⟩ := z0N .tmp hx;replace ho := ho.keep x3 (by simp);replace hg := hg.keep x3 (by simp);replace hd := hd.keep x3 (by simp);replace he := he.keep x3 (by simp);clear hx x3 hc3 cq hbb;refine zeE ?_;cases b
     ·refine z2d ?_;refine z9R ?_;refine ⟨q + 1, ⟨_, τ, _, rfl, stp, stp, stp, stp, stp, stp, stp, stp, by omega, ho, hg, hd, he, .inl ⟨rfl, fun _ q' h1 h2 => ?_⟩⟩, by omega⟩;by_cases e : q' = q
      ·rw [e]; exact fun h => by have := hb.2 h; cases this
      ·exact hno q' (by omega) h2
     ·refine z07 ?_;have cz := z33 he (i := q) (by have := hel'.down; omega);obtain ⟨x1, hx1⟩ : ∃ x, e'.getD q 0 = x := ⟨_, rfl⟩;rw [hx1] at cz;refine zeL ?_;refine zP (k := p) (v := .int .i64 x1) (cs' := (e'.set p x1).map (.int .i64 ·)) he (by rw [List.length_map]; have := hel'.down; omega) (by rw [List.map_set]) rfl xrf rfl evr evd (by show (⟨bn, 0 + p * 1, none⟩ : Addr) = _; rw [Nat.zero_add, Nat.mul_one]) ?_;intro τ2 he2 x2 _;replace ho := ho.keep x2 (by simp);replace hg := hg.keep x2 (by simp);replace hd := hd.keep x2 (by simp);clear he x2 cz;refine z0n ?_;refine zc4 ?_;exact ⟨q + 1, ⟨_, τ2, _, rfl, stp, stp, stp, stp, stp, stp, stp, stp, by omega, ho, hg, hd, he2, .inr ⟨q, by omega, hy, hw, hb.1 rfl, by rw [hx1]⟩⟩, by omega⟩
   ·refine z0z ?_ (c := hneg);refine zeE ?_;refine z2r ?_;refine zfm ?_;refine hQ _ σ e' stp stp stp stp stp stp stp ho hg hd he ?_;rcases halt with ⟨rfl, h2⟩ | ⟨q', h1, h2, h3, h4, h5⟩
    ·rw [hz] at hzz; omega
    ·exact .inr ⟨q', by omega, h2, h3, h4, h5⟩
 ·refine z0z ?_
  repeat (first | (refine zc (by first | exact z3u | exact omv) ?_) | (refine OpsL.nil ?_; (change Trip _ _ _ _ _)) | (refine z0e ?_))
  refine z2r ?_;refine zeD ?_;have hqe : q = p := by omega
  subst hqe;exact hQ _ σ e' stp stp stp stp stp stp stp ho hg hd he halt
end Go.Proofs.Ytjgbcpagfghfnaa
