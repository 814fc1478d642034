import Derived.Test.YtjgbcpagfghfnaaQYM19
import Derived.Test.YtjgbcpagfghfnaaQYM44
import Derived.Test.YtjgbcpagfghfnaaQYM15
set_option linter.unusedVariables false
set_option linter.unusedSimpArgs false
set_option linter.unnecessarySimpa false
namespace Go.Am
open Go.RowKit
theorem z1V {H : Heap} {a : Option Addr} {n c : Nat} {l : List Int} (h : IntsAt H (.slice a n c) l) (hl : 0 < l.length) : ∃ p : Addr, a = some p ∧ ∀ i, i < l.length → zf H ⟨p.block, p.off + i * 1, p.spot⟩ (.int .i64 (l.getD i 0)) := by
 obtain ⟨p, rfl, _⟩ := IntsAt.atI h (show (0 : Int) ≤ 0 by omega) (show (0 : Int) < l.length by omega);refine ⟨p, rfl, fun i hi => ?_⟩;obtain ⟨q, e, hc⟩ := IntsAt.atI h (show (0 : Int) ≤ i by omega) (show (i : Int) < l.length by omega);cases e;rw [Int.toNat_natCast] at hc;exact hc
theorem z64 {H : Heap} {a : Option Addr} {n c : Nat} {l : List Bool} (h : BoolsAt H (.slice a n c) l) (hl : 0 < l.length) : ∃ p : Addr, a = some p ∧ ∀ i, i < l.length → zf H ⟨p.block, p.off + i * 1, p.spot⟩ (.bool (l.getD i false)) := by
 obtain ⟨p, rfl, _⟩ := BoolsAt.atI h (show (0 : Int) ≤ 0 by omega) (show (0 : Int) < l.length by omega);refine ⟨p, rfl, fun i hi => ?_⟩;obtain ⟨q, e, hc⟩ := BoolsAt.atI h (show (0 : Int) ≤ i by omega) (show (i : Int) < l.length by omega);cases e;rw [Int.toNat_natCast] at hc;exact hc
theorem z6Q {H : Heap} {a : Option Addr} {n c : Nat} {l : List (List Int)} (h : L2At H (.slice a n c) l) (hl : 0 < l.length) : ∃ p : Addr, a = some p ∧ ∀ i, i < l.length → ∃ b k, zf H ⟨p.block, p.off + i * 1, p.spot⟩ (.slice b (l.getD i []).length k) ∧ IntsAt H (.slice b (l.getD i []).length k) (l.getD i []) := by
 obtain ⟨p, _, _, rfl, _, _⟩ := L2At.atI h (show (0 : Int) ≤ 0 by omega) (show (0 : Int) < l.length by omega);refine ⟨p, rfl, fun i hi => ?_⟩;obtain ⟨q, b, k, e, hc, hr⟩ := L2At.atI h (show (0 : Int) ≤ i by omega) (show (i : Int) < l.length by omega);cases e;rw [Int.toNat_natCast] at hc hr;exact ⟨b, k, hc, hr⟩
theorem zdj {H : Heap} {a : Option Addr} {n c : Nat} {l : List (List (List Int))} (h : L3At H (.slice a n c) l) (hl : 0 < l.length) : ∃ p : Addr, a = some p ∧ ∀ i, i < l.length → ∃ b k, zf H ⟨p.block, p.off + i * 1, p.spot⟩ (.slice b (l.getD i []).length k) ∧ L2At H (.slice b (l.getD i []).length k) (l.getD i []) := by
 obtain ⟨p, _, _, rfl, _, _⟩ := L3At.atI h (show (0 : Int) ≤ 0 by omega) (show (0 : Int) < l.length by omega);refine ⟨p, rfl, fun i hi => ?_⟩;obtain ⟨q, b, k, e, hc, hr⟩ := L3At.atI h (show (0 : Int) ≤ i by omega) (show (i : Int) < l.length by omega);cases e;rw [Int.toNat_natCast] at hc hr;exact ⟨b, k, hc, hr⟩
theorem z5d {H : Heap} {a : Addr} {v w : Value} (h : zf H a v) (k : zf H a w) : v = w := by
 unfold zf at h k;rw [h] at k;simpa using k
section
variable {P : Program} {H : Heap} {nx : Nat} {ev : Operand → Option Value} {dst : Option Tmp} {type : TypeId} {pos : String} {after : Array Edge} {guard : Option (Nat × Bool)}
end
end Go.Am
namespace Go.Am
open Go.RowKit
theorem z5y {G : Heap} {m : Mo} {pR : Addr} (hmod : ModOk m) (cR : ∀ i, i < m.ret.length → ∃ b k, zf G ⟨pR.block, pR.off + i * 1, pR.spot⟩ (.slice b (m.ret.getD i []).length k) ∧ L2At G (.slice b (m.ret.getD i []).length k) (m.ret.getD i [])) {s j t : Nat} (hs : s < m.of.length) (hz : m.of.getD s 0 ≠ 0) (hj : (j : Int) < m.closings) (ht : t < m.of.length) :
  ∃ (pa pz : Addr) (kp kj : Nat), zf G ⟨pR.block, pR.off + s * 1, pR.spot⟩ (.slice (some pa) (m.ret.getD s []).length kp) ∧ zf G ⟨pa.block, pa.off + j * 1, pa.spot⟩ (.slice (some pz) ((m.ret.getD s []).getD j []).length kj) ∧ zf G ⟨pz.block, pz.off + t * 1, pz.spot⟩ (.int .i64 (((m.ret.getD s []).getD j []).getD t 0)) ∧ (0 ≤ ((m.ret.getD s []).getD j []).getD t 0 ∧ ((m.ret.getD s []).getD j []).getD t 0 < (m.of.length : Int)) ∧ j < (m.ret.getD s []).length ∧ t < ((m.ret.getD s []).getD j []).length ∧ (m.ret.getD s []).length ≤ 20 ∧ ((m.ret.getD s []).getD j []).length ≤ 60 := by
 obtain ⟨h1, h2⟩ := hmod.ret1 s hs hz;have hjl : j < (m.ret.getD s []).length := by omega
 have h3 := h2 j hjl;have hrl := hmod.rl;have hcl := hmod.cl;have hn := hmod.n;obtain ⟨b, k, c1, r1⟩ := cR s (by omega);obtain ⟨pa, rfl, c2⟩ := z6Q r1 (by omega);obtain ⟨b2, k2, c3, r3⟩ := c2 j hjl;obtain ⟨pz, rfl, c4⟩ := z1V r3 (by omega);exact ⟨pa, pz, k, k2, c1, c3, c4 t (by omega), (h3.2 t ht).1, hjl, by omega, by omega, by omega⟩
end Go.Am
namespace Go.Proofs.Ytjgbcpagfghfnaa
open Go.Am Go.RowKit
attribute [local irreducible] aop OpsL Trip zt z1X z1E OpsR OpsQ
set_option maxRecDepth 20000 in
set_option maxHeartbeats 16000000 in
theorem zbu (W0 : World) {nx n : Nat} {G : Heap} {m : Mo} {of : List Int} {p q x j : Nat} {pg pd pO pR : Addr} {gc dc qOc qRc : Nat} {tm : Nat → Value} (hn0 : n = 206) (hmod : ModOk m) (hp : p < m.of.length) (hq : q < m.of.length) (hx : x < m.of.length) (hj : (j : Int) < m.closings) (k1 : m.of.getD p 0 = m.of.getD q 0) (hol : of.length ≤ m.of.length ∧ m.of.length ≤ of.length ∧ m.ret.length ≤ m.of.length ∧ m.of.length ≤ m.ret.length)
  (cd : ∀ {x : Int}, 0 ≤ x → x < (m.of.length : Int) → zf G ⟨pd.block, pd.off + x.toNat * 1, pd.spot⟩ (.int .i64 (of.getD x.toNat 0))) (g2 : zf G ⟨nx, 2, none⟩ (.slice (some pO) m.of.length qOc)) (g7 : zf G ⟨nx, 7, none⟩ (.slice (some pR) m.ret.length qRc)) (cO : ∀ i, i < m.of.length → zf G ⟨pO.block, pO.off + i * 1, pO.spot⟩ (.int .i64 (m.of.getD i 0)))
  (cR : ∀ i, i < m.ret.length → ∃ b k, zf G ⟨pR.block, pR.off + i * 1, pR.spot⟩ (.slice b (m.ret.getD i []).length k) ∧ L2At G (.slice b (m.ret.getD i []).length k) (m.ret.getD i []))
  (t1 : tm 1 = .slice (some pg) (z0 m).length gc) (t2 : tm 2 = .slice (some pd) of.length dc) (t3 : tm 3 = .int .i64 p) (t4 : tm 4 = .int .i64 q) (t5 : tm 5 = .pointer (some ⟨nx, 0, none⟩)) (t13 : tm 13 = .int .i64 x) (t14 : tm 14 = .int .i64 j)
  {Q : AExit → ASt → Prop} (hQ : ∀ e st, (e = .normal ∧ ∃ (tm' : Nat → Value) (dd : Bool), st = ⟨tm', n, G, nx + 1⟩ ∧ tm' 1 = .slice (some pg) (z0 m).length gc ∧ tm' 2 = .slice (some pd) of.length dc ∧ tm' 3 = .int .i64 p ∧ tm' 4 = .int .i64 q ∧ tm' 5 = .pointer (some ⟨nx, 0, none⟩) ∧ tm' 13 = .int .i64 x ∧ tm' 14 = .int .i64 j ∧ tm' 205 = .bool dd ∧ (dd = false ↔ (m.of.getD p 0 ≠ 0 → of.getD (((m.ret.getD p []).getD j []).getD x 0).toNat 0 = of.getD (((m.ret.getD q []).getD j []).getD x 0).toNat 0) ∧ (m.of.getD x 0 ≠ 0 → of.getD (((m.ret.getD x []).getD j []).getD p 0).toNat 0 = of.getD (((m.ret.getD x []).getD j []).getD q 0).toNat 0))) → Q e st) :
  Trip Try.prog W0 (z3t [1, 1, 1, 1, 0, 1, 2, 2, 1, 0, 2, 1, 2, 2, 1, 0, 2, 0] (z0B Try.f29)) ⟨tm, n, G, nx + 1⟩ Q := by
 refine Trip.mono (Q := fun e st => e = .normal ∧ ∃ (tm' : Nat → Value) (dd : Bool), st = ⟨tm', n, G, nx + 1⟩ ∧ tm' 1 = .slice (some pg) (z0 m).length gc ∧ tm' 2 = .slice (some pd) of.length dc ∧ tm' 3 = .int .i64 p ∧ tm' 4 = .int .i64 q ∧ tm' 5 = .pointer (some ⟨nx, 0, none⟩) ∧ tm' 13 = .int .i64 x ∧ tm' 14 = .int .i64 j ∧ tm' 205 = .bool dd ∧ (dd = false ↔ (m.of.getD p 0 ≠ 0 → of.getD (((m.ret.getD p []).getD j []).getD x 0).toNat 0 = of.getD (((m.ret.getD q []).getD j []).getD x 0).toNat 0) ∧ (m.of.getD x 0 ≠ 0 → of.getD (((m.ret.getD x []).getD j []).getD p 0).toNat 0 = of.getD (((m.ret.getD x []).getD j []).getD q 0).toNat 0))) ?_ hQ;clear hQ;have hn60 := hmod.n.2;have hofp := (hmod.of p hp).1;have hofx := (hmod.of x hx).1;have o1 := cO p hp;have o2 := cO x hx;refine z04 [] (K := fun _ _ => True) zU krf krf [0, 1, 2, 3, 4, 5, 6, 7, 8, 9, 10, 11, 12, 13, 14, 15, 16, 17, 18, 19, 20, 21, 22, 23, 24, 25, 26, 27, 28, 29, 30, 31, 32, 33, 34, 35, 36, 37, 38, 39, 40, 41, 42, 43, 44, 45, 46, 47, 48, 49, 50, 51, 52, 53, 54, 55, 56, 57, 58, 59, 60, 61, 62, 63, 64, 65, 66, 67, 68, 69, 70, 71, 72, 73, 74, 75] krf trivial ?_;refine zaD ?_;refine zg1 ?_;by_cases hz : m.of.getD p 0 > 0
 rotate_left
 ·refine z4f ?_ (c := hz);refine z0n ?_;refine z4G ?_;refine z9P ?_;refine z9P ?_;refine z9P ?_;refine zdp ?_;refine zdm ?_;refine z9W ?_;refine z9Z ?_;refine z6u ?_;by_cases hz2 : m.of.getD x 0 > 0
  rotate_left
  ·refine z4f ?_ (c := hz2);refine z0n ?_;refine z7c ?_;refine z9P ?_;refine z9P ?_;refine z9P ?_;refine zfP ?_;exact ⟨rfl, _, false, rfl, stp, stp, stp, stp, stp, stp, stp, stp, fun _ => ⟨fun h => absurd h (by omega), fun h => absurd h (by omega)⟩, fun _ => rfl⟩
  refine z4e ?_ (c := hz2);refine z0n ?_;obtain ⟨ea, ez, ekp, ekj, u1, u2, u3, ub, uj, ux, ul1, ul2⟩ := z5y hmod cR (s := x) (j := j) (t := p) hx (by omega) hj hp;obtain ⟨ea', ez', ekp', ekj', w1, w2, w3, wb, wj, wx, wl1, wl2⟩ := z5y hmod cR (s := x) (j := j) (t := q) hx (by omega) hj hq;have eA : ea' = ea := by have := z5d w1 u1; simp only [Value.slice.injEq, Option.some.injEq] at this; exact this.1
  subst eA;have eZ : ez' = ez := by have := z5d w2 u2; simp only [Value.slice.injEq, Option.some.injEq] at this; exact this.1
  subst eZ;generalize hy1 : ((m.ret.getD x []).getD j []).getD p 0 = y1 at *;generalize hy2 : ((m.ret.getD x []).getD j []).getD q 0 = y2 at *;have s1 := cd ub.1 ub.2;have s2 := cd wb.1 wb.2;refine z7c ?_;refine zg1 ?_;refine zfn ?_;refine zfn ?_;refine zB ?_;by_cases h2 : of.getD y1.toNat 0 = of.getD y2.toNat 0
  ·refine z02 ?_ (c := h2);refine zgI ?_;exact ⟨rfl, _, false, rfl, stp, stp, stp, stp, stp, stp, stp, stp, fun _ => ⟨fun h => absurd h (by omega), fun _ => h2⟩, fun _ => rfl⟩
  ·refine z08 ?_ (c := h2);refine zgI ?_;exact ⟨rfl, _, true, rfl, stp, stp, stp, stp, stp, stp, stp, stp, (fun h => by cases h), fun h => absurd (h.2 (by omega)) h2⟩
 refine z4e ?_ (c := hz);refine z0n ?_;obtain ⟨fa, fz, fkp, fkj, a1, a2, a3, ab, aj, ax, al1, al2⟩ := z5y hmod cR (s := p) (j := j) (t := x) hp (by omega) hj hx;obtain ⟨fa', fz', fkp', fkj', b1, b2, b3, bb, bj, bx, bl1, bl2⟩ := z5y hmod cR (s := q) (j := j) (t := x) hq (by omega) hj hx;generalize hx1 : ((m.ret.getD p []).getD j []).getD x 0 = x1 at *;generalize hx2 : ((m.ret.getD q []).getD j []).getD x 0 = x2 at *;have r1 := cd ab.1 ab.2;have r2 := cd bb.1 bb.2;refine z4G ?_;refine zg1 ?_;refine zfn ?_;refine zfn ?_;refine zB ?_;by_cases h1 : of.getD x1.toNat 0 = of.getD x2.toNat 0
 rotate_left
 ·refine z08 ?_ (c := h1);refine z0n ?_;refine z7d ?_;refine z4G ?_;refine zg0 ?_;refine zg0 ?_;refine zg1 ?_;refine zdm ?_;refine zhv ?_;refine zg6 ?_;refine zg6 ?_;refine zg6 ?_;refine zg6 ?_;refine zg1 ?_
  repeat (first | (refine OpsL.nil ?_; (skip)) | (refine z58 ?_))
  refine zg1 ?_
  repeat (first | (refine OpsL.nil ?_; (skip)) | (refine z58 ?_))
  refine zdp ?_;refine zc3 ?_;refine OpsR.nil ?_;exact ⟨rfl, _, true, rfl, stp, stp, stp, stp, stp, stp, stp, stp, (fun h => by cases h), fun h => absurd (h.1 (by omega)) h1⟩
 refine z02 ?_ (c := h1);refine z0n ?_;refine z7d ?_;refine z9Z ?_;refine z6u ?_;by_cases hz2 : m.of.getD x 0 > 0
 rotate_left
 ·refine z4f ?_ (c := hz2);refine z0n ?_;refine z7c ?_;refine z9P ?_;refine z9P ?_;refine z9P ?_;refine zfP ?_;exact ⟨rfl, _, false, rfl, stp, stp, stp, stp, stp, stp, stp, stp, fun _ => ⟨fun _ => h1, fun h => absurd h (by omega)⟩, fun _ => rfl⟩
 refine z4e ?_ (c := hz2);refine z0n ?_;obtain ⟨ea, ez, ekp, ekj, u1, u2, u3, ub, uj, ux, ul1, ul2⟩ := z5y hmod cR (s := x) (j := j) (t := p) hx (by omega) hj hp;obtain ⟨ea', ez', ekp', ekj', w1, w2, w3, wb, wj, wx, wl1, wl2⟩ := z5y hmod cR (s := x) (j := j) (t := q) hx (by omega) hj hq;have eA : ea' = ea := by have := z5d w1 u1; simp only [Value.slice.injEq, Option.some.injEq] at this; exact this.1
 subst eA;have eZ : ez' = ez := by have := z5d w2 u2; simp only [Value.slice.injEq, Option.some.injEq] at this; exact this.1
 subst eZ;generalize hy1 : ((m.ret.getD x []).getD j []).getD p 0 = y1 at *;generalize hy2 : ((m.ret.getD x []).getD j []).getD q 0 = y2 at *;have s1 := cd ub.1 ub.2;have s2 := cd wb.1 wb.2;refine z7c ?_;refine zg1 ?_;refine zfn ?_;refine zfn ?_;refine zB ?_;by_cases h2 : of.getD y1.toNat 0 = of.getD y2.toNat 0
 ·refine z02 ?_ (c := h2);refine zgI ?_;exact ⟨rfl, _, false, rfl, stp, stp, stp, stp, stp, stp, stp, stp, fun _ => ⟨fun _ => h1, fun _ => h2⟩, fun _ => rfl⟩
 ·refine z08 ?_ (c := h2);refine zgI ?_;exact ⟨rfl, _, true, rfl, stp, stp, stp, stp, stp, stp, stp, stp, (fun h => by cases h), fun h => absurd (h.2 (by omega)) h2⟩
end Go.Proofs.Ytjgbcpagfghfnaa
namespace Go.Proofs.Ytjgbcpagfghfnaa
open Go.Am Go.RowKit
attribute [local irreducible] aop OpsL Trip zt z1X z1E OpsR OpsQ
def zes (m : Mo) (of : List Int) (p q x j : Nat) : Prop := (m.of.getD p 0 ≠ 0 → of.getD (((m.ret.getD p []).getD j []).getD x 0).toNat 0 = of.getD (((m.ret.getD q []).getD j []).getD x 0).toNat 0) ∧ (m.of.getD x 0 ≠ 0 → of.getD (((m.ret.getD x []).getD j []).getD p 0).toNat 0 = of.getD (((m.ret.getD x []).getD j []).getD q 0).toNat 0)
set_option maxRecDepth 20000 in
set_option maxHeartbeats 16000000 in
theorem zcR (W0 : World) {nx n : Nat} {G : Heap} {m : Mo} {of : List Int} {p q x : Nat} {pg pd pO pR : Addr} {gc dc qOc qRc : Nat} {tm : Nat → Value} (hn0 : n = 206) (hmod : ModOk m) (hp : p < m.of.length) (hq : q < m.of.length) (hx : x < m.of.length) (k1 : m.of.getD p 0 = m.of.getD q 0) (hol : of.length ≤ m.of.length ∧ m.of.length ≤ of.length ∧ m.ret.length ≤ m.of.length ∧ m.of.length ≤ m.ret.length)
  (cd : ∀ {x : Int}, 0 ≤ x → x < (m.of.length : Int) → zf G ⟨pd.block, pd.off + x.toNat * 1, pd.spot⟩ (.int .i64 (of.getD x.toNat 0))) (g1 : zf G ⟨nx, 1, none⟩ (.int .i64 m.closings)) (g2 : zf G ⟨nx, 2, none⟩ (.slice (some pO) m.of.length qOc)) (g7 : zf G ⟨nx, 7, none⟩ (.slice (some pR) m.ret.length qRc)) (cO : ∀ i, i < m.of.length → zf G ⟨pO.block, pO.off + i * 1, pO.spot⟩ (.int .i64 (m.of.getD i 0)))
  (cR : ∀ i, i < m.ret.length → ∃ b k, zf G ⟨pR.block, pR.off + i * 1, pR.spot⟩ (.slice b (m.ret.getD i []).length k) ∧ L2At G (.slice b (m.ret.getD i []).length k) (m.ret.getD i [])) (cg : ∀ i, i < (z0 m).length → zf G ⟨pg.block, pg.off + i * 1, pg.spot⟩ (.bool ((z0 m).getD i false))) (hrl : (z0 m).length ≤ m.of.length ∧ m.of.length ≤ (z0 m).length)
  (t1 : tm 1 = .slice (some pg) (z0 m).length gc) (t2 : tm 2 = .slice (some pd) of.length dc) (t3 : tm 3 = .int .i64 p) (t4 : tm 4 = .int .i64 q) (t5 : tm 5 = .pointer (some ⟨nx, 0, none⟩)) (t13 : tm 13 = .int .i64 x) (t14 : tm 14 = .int .i64 0)
  {Q : AExit → ASt → Prop} (hQ1 : ∀ tm' : Nat → Value, tm' 1 = .slice (some pg) (z0 m).length gc → tm' 2 = .slice (some pd) of.length dc → tm' 3 = .int .i64 p → tm' 4 = .int .i64 q → tm' 5 = .pointer (some ⟨nx, 0, none⟩) → tm' 13 = .int .i64 x → ((z0 m).getD x false = true → ∀ j : Nat, (j : Int) < m.closings → zes m of p q x j) → Q .normal ⟨tm', n, G, nx + 1⟩) (hQ2 : ∀ tm' : Nat → Value, tm' 10 = .bool false → (z0 m).getD x false = true → (∃ j : Nat, (j : Int) < m.closings ∧ ¬ zes m of p q x j) → Q .ret ⟨tm', n, G, nx + 1⟩) :
  Trip Try.prog W0 (z3t [1, 1, 1, 1, 0, 1, 2, 2, 1, 0, 2, 1] (z0B Try.f29)) ⟨tm, n, G, nx + 1⟩ Q := by
 have hcl := hmod.cl;have hn60 := hmod.n.2;have c9 := cg x (by omega);obtain ⟨y, hy⟩ : ∃ y, (z0 m).getD x false = y := ⟨_, rfl⟩;rw [hy] at c9 hQ1 hQ2;refine Trip.block ?_;refine zG (fun (j : Nat) st => ∃ tm : Nat → Value, st = ⟨tm, n, G, nx + 1⟩ ∧ tm 1 = .slice (some pg) (z0 m).length gc ∧ tm 2 = .slice (some pd) of.length dc ∧ tm 3 = .int .i64 p ∧ tm 4 = .int .i64 q ∧ tm 5 = .pointer (some ⟨nx, 0, none⟩) ∧ tm 13 = .int .i64 x ∧ tm 14 = .int .i64 j ∧ (j : Int) ≤ m.closings ∧ ∀ k, k < j → zes m of p q x k) (fun j => m.closings.toNat - j) 0 ?_ ?_
 ·exact ⟨tm, rfl, t1, t2, t3, t4, t5, t13, t14, by omega, fun k hk => by omega⟩
 clear t1 t2 t3 t4 t5 t13 t14;rintro j st ⟨tm, rfl, t1, t2, t3, t4, t5, t13, t14, hj, hall⟩;refine zgE ?_;by_cases hic : (j : Int) < m.closings
 ·refine z0y ?_ (c := hic)
  repeat (first | (refine zc (by first | exact omv | exact z1j | exact old) ?_) | (refine zB ?_))
  cases y
  ·repeat (first | (refine zc (by exact z3O) ?_) | (refine OpsL.nil ?_; (change Trip _ _ _ _ _)))
   refine z2r ?_;refine zfm ?_;exact hQ1 _ stp stp stp stp stp stp (fun h => by cases h)
  ·repeat (first | (refine zc (by exact z3O) ?_) | (refine OpsL.nil ?_; (change Trip _ _ _ _ _)))
   refine z07 ?_
   repeat (first | (refine Trip.seq ?_) | (refine Trip.block ?_) | (refine Trip.skip ?_; (change Trip _ _ _ _ _)))
   refine zbu (j := j) (pg := pg) (pd := pd) (gc := gc) (dc := dc) W0 hn0 hmod hp hq hx hic k1 hol cd g2 g7 cO cR stp stp stp stp stp stp stp ?_;clear t1 t2 t3 t4 t5 t13 t14;rintro e st ⟨rfl, tm, dd, rfl, t1, t2, t3, t4, t5, t13, t14, t205, hdd⟩;dsimp only;cases dd
   ·have hP : zes m of p q x j := hdd.1 rfl;refine z2r ?_;refine z9R ?_;refine ⟨j + 1, ⟨_, rfl, stp, stp, stp, stp, stp, stp, stp, by omega, fun k hk => ?_⟩, by omega⟩;by_cases e : k = j
    ·rw [e]; exact hP
    ·exact hall k (by omega)
   ·refine z07 ?_;refine zfR ?_;exact hQ2 _ (by simp [zb]) rfl ⟨j, hic, fun h => by have := hdd.2 h; cases this⟩
 ·refine z0z ?_ (c := hic)
  repeat (first | (refine zc (by first | exact omv | exact z3u) ?_) | (refine OpsL.nil ?_; (change Trip _ _ _ _ _)) | (refine z0e ?_))
  refine z2r ?_;refine zfm ?_;exact hQ1 _ stp stp stp stp stp stp (fun _ k hk => hall k (by omega))
set_option maxRecDepth 20000 in
set_option maxHeartbeats 16000000 in
theorem zcP (W0 : World) {nx n : Nat} {G : Heap} {m : Mo} {of : List Int} {p q : Nat} {pg pd pO pR : Addr} {gc dc qOc qRc : Nat} {tm : Nat → Value} (hn0 : n = 206) (hmod : ModOk m) (hp : p < m.of.length) (hq : q < m.of.length) (k1 : m.of.getD p 0 = m.of.getD q 0) (hol : of.length ≤ m.of.length ∧ m.of.length ≤ of.length ∧ m.ret.length ≤ m.of.length ∧ m.of.length ≤ m.ret.length)
  (cd : ∀ {x : Int}, 0 ≤ x → x < (m.of.length : Int) → zf G ⟨pd.block, pd.off + x.toNat * 1, pd.spot⟩ (.int .i64 (of.getD x.toNat 0))) (g1 : zf G ⟨nx, 1, none⟩ (.int .i64 m.closings)) (g2 : zf G ⟨nx, 2, none⟩ (.slice (some pO) m.of.length qOc)) (g7 : zf G ⟨nx, 7, none⟩ (.slice (some pR) m.ret.length qRc)) (cO : ∀ i, i < m.of.length → zf G ⟨pO.block, pO.off + i * 1, pO.spot⟩ (.int .i64 (m.of.getD i 0)))
  (cR : ∀ i, i < m.ret.length → ∃ b k, zf G ⟨pR.block, pR.off + i * 1, pR.spot⟩ (.slice b (m.ret.getD i []).length k) ∧ L2At G (.slice b (m.ret.getD i []).length k) (m.ret.getD i [])) (cg : ∀ i, i < (z0 m).length → zf G ⟨pg.block, pg.off + i * 1, pg.spot⟩ (.bool ((z0 m).getD i false))) (hrl : (z0 m).length ≤ m.of.length ∧ m.of.length ≤ (z0 m).length)
  (t1 : tm 1 = .slice (some pg) (z0 m).length gc) (t2 : tm 2 = .slice (some pd) of.length dc) (t3 : tm 3 = .int .i64 p) (t4 : tm 4 = .int .i64 q) (t5 : tm 5 = .pointer (some ⟨nx, 0, none⟩))
  (t13 : tm 13 = .int .i64 0) {Q : AExit → ASt → Prop} (hQ1 : ∀ tm' : Nat → Value, (∀ x : Nat, x < m.of.length → (z0 m).getD x false = true → ∀ j : Nat, (j : Int) < m.closings → zes m of p q x j) → Q .normal ⟨tm', n, G, nx + 1⟩) (hQ2 : ∀ tm' : Nat → Value, tm' 10 = .bool false → ¬ (∀ x : Nat, x < m.of.length → (z0 m).getD x false = true → ∀ j : Nat, (j : Int) < m.closings → zes m of p q x j) → Q .ret ⟨tm', n, G, nx + 1⟩) :
  Trip Try.prog W0 (z3t [1, 1, 1, 1, 0, 1] (z0B Try.f29)) ⟨tm, n, G, nx + 1⟩ Q := by
 have hn60 := hmod.n.2;refine Trip.block ?_;refine zG (fun (x : Nat) st => ∃ tm : Nat → Value, st = ⟨tm, n, G, nx + 1⟩ ∧ tm 1 = .slice (some pg) (z0 m).length gc ∧ tm 2 = .slice (some pd) of.length dc ∧ tm 3 = .int .i64 p ∧ tm 4 = .int .i64 q ∧ tm 5 = .pointer (some ⟨nx, 0, none⟩) ∧ tm 13 = .int .i64 x ∧ x ≤ m.of.length ∧ ∀ y, y < x → (z0 m).getD y false = true → ∀ j : Nat, (j : Int) < m.closings → zes m of p q y j) (fun x => m.of.length - x) 0 ?_ ?_
 ·exact ⟨_, rfl, t1, t2, t3, t4, t5, t13, by omega, fun k hk => by omega⟩
 clear t1 t2 t3 t4 t5 t13;rintro x st ⟨tm, rfl, t1, t2, t3, t4, t5, t13, hx, hall⟩
 repeat (first | (refine zc (by first | exact omv | exact z1g | exact z24) ?_) | (refine Trip.seq ?_) | (refine zd ?_) | (refine Trip.block ?_) | (refine zJ (fun _ => ?_) (fun _ => ?_)) | (refine Trip.skip ?_; (change Trip _ _ _ _ _)) | (refine OpsL.nil ?_; (change Trip _ _ _ _ _)))
 ·have hlt : x < m.of.length := by omega
  repeat fail
  (first | (refine zc (by exact z09) ?_))
  refine z0n ?_
  (change Trip _ _ _ _ _)
  refine zcR (x := x) (pg := pg) (pd := pd) (gc := gc) (dc := dc) W0 hn0 hmod hp hq hlt k1 hol cd g1 g2 g7 cO cR cg hrl stp stp stp stp stp stp stp ?_ ?_
  ·clear t1 t2 t3 t4 t5 t13;intro tm t1 t2 t3 t4 t5 t13 hP;refine zc4 ?_;refine ⟨x + 1, ⟨_, rfl, stp, stp, stp, stp, stp, stp, by omega, fun k hk => ?_⟩, by omega⟩;by_cases e : k = x
   ·rw [e]; exact hP
   ·exact hall k (by omega)
  ·intro tm' h10 hg ⟨j, hj, hn⟩;have H := hQ2 tm' h10 fun h => absurd (h x hlt hg j hj) hn
   first | exact z0h (z0h H) | exact z0h H | exact z0h (z0h (z0h H))
 ·have hie : x = m.of.length := by omega
  refine zeD ?_;exact hQ1 _ fun y hy => hall y (by omega)
end Go.Proofs.Ytjgbcpagfghfnaa
