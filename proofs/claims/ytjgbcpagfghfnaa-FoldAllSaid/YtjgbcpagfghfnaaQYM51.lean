import Derived.Test.YtjgbcpagfghfnaaQYM50
import Derived.Test.YtjgbcpagfghfnaaQYM15
import Derived.Test.YtjgbcpagfghfnaaQYM43
import Derived.Test.YtjgbcpagfghfnaaQYM26
set_option linter.unusedVariables false
set_option linter.unusedSimpArgs false
namespace Go.Proofs.Ytjgbcpagfghfnaa
open Go.Am Go.RowKit
attribute [local irreducible] aop OpsL Trip zt z1X z1E OpsR OpsQ
set_option maxRecDepth 20000 in
set_option maxHeartbeats 16000000 in
theorem zh5 (W0 : World) {σ0 σ : CH} {nx cb O R c P n : Nat} {m : Mo} {V0 : MoV} {lv : Value} {pl cl : Int} {cls L : List Int} {D : Mo} {V : MoV} {tm : Nat → Value} (hn0 : n = 164) (hmod : ModOk m) (hl : cls.length = m.of.length) (ok0 : ∀ id o, σ0.H id = some o → id < σ0.nx) (hFA : ∀ {N : Nat} {H' : Heap}, Ext σ0.nx σ0.H N H' → MoBox H' nx m V0 ∧ MoIn H' m V0) (hP : P < m.of.length) (t1 : tm 1 = .pointer (some ⟨nx, 0, none⟩)) (t2 : tm 2 = .pointer (some ⟨R, 0, none⟩)) (t4 : tm 4 = .slice (some ⟨cb, 0, none⟩) m.of.length m.of.length) (t5 : tm 5 = lv) (t7 : tm 7 = .pointer (some ⟨O, 0, none⟩)) (t9 : tm 9 = .int .i64 (c : Nat)) (t10 : tm 10 = .int .i64 (P : Nat)) (h : SmS σ0 σ cb O R pl cl cls L lv D V) {j : Nat} {v11 : Value} {W : List (List Int)} (hLb : ∀ x ∈ L, 0 ≤ x ∧ x < (m.of.length : Int)) (hLl : L.length ≤ 1000) (hz : m.of.getD P 0 ≠ 0) (hj : j < (m.ret.getD P []).length) (t11 : tm 11 = v11) (t12 : tm 12 = .int .i64 (j : Nat)) (t13 : tm 13 = .slice none 0 0) (t14 : tm 14 = .int .i64 0) (hW : Row2 (.ret2 D.ret.length) (.ret1 D.ret.length) σ v11 W) (hWl : W.length = j)
  {Q : AExit → ASt → Prop} (hQ : ∀ tm' τ v, tm' 1 = .pointer (some ⟨nx, 0, none⟩) → tm' 2 = .pointer (some ⟨R, 0, none⟩) → tm' 4 = .slice (some ⟨cb, 0, none⟩) m.of.length m.of.length → tm' 5 = lv → tm' 7 = .pointer (some ⟨O, 0, none⟩) → tm' 9 = .int .i64 (c : Nat) → tm' 10 = .int .i64 (P : Nat) → tm' 11 = v11 → tm' 12 = .int .i64 (j : Nat) → tm' 13 = v → SmS σ0 τ cb O R pl cl cls L lv D V → Row2 (.ret2 D.ret.length) (.ret1 D.ret.length) τ v11 W → RowI (.ret2 D.ret.length j) τ v (zC cls (zC ((m.ret.getD P []).getD j []) L)) → Q .normal ⟨tm', n, τ.H, τ.nx⟩) : Trip Try.prog W0 (z3t [1, 1, 1, 1, 1, 1, 1, 0, 1, 2, 2, 1, 0, 2, 1, 1, 1, 1, 0, 1, 2, 2, 1, 0, 2, 1, 0, 1] (z0B Try.f9)) ⟨tm, n, σ.H, σ.nx⟩ Q := by
 have hn60 := hmod.n.2;obtain ⟨la, lk, rfl⟩ := OwnC.slice zR h.l;obtain ⟨hr1, hr2⟩ := hmod.ret1 _ hP hz;obtain ⟨hjl, hjq⟩ := hr2 j hj;obtain ⟨r, hr⟩ : ∃ r, (m.ret.getD P []).getD j [] = r := ⟨_, rfl⟩;rw [hr] at hjl hjq hQ;refine Trip.block ?_;refine zG (fun (i : Nat) s => ∃ tm σ v, s = ⟨tm, n, σ.H, σ.nx⟩ ∧ tm 1 = .pointer (some ⟨nx, 0, none⟩) ∧ tm 2 = .pointer (some ⟨R, 0, none⟩) ∧ tm 4 = .slice (some ⟨cb, 0, none⟩) m.of.length m.of.length ∧ tm 5 = .slice la L.length lk ∧ tm 7 = .pointer (some ⟨O, 0, none⟩) ∧ tm 9 = .int .i64 (c : Nat) ∧ tm 10 = .int .i64 (P : Nat) ∧ tm 11 = v11 ∧ tm 12 = .int .i64 (j : Nat) ∧ tm 13 = v ∧ tm 14 = .int .i64 i ∧ i ≤ L.length ∧ SmS σ0 σ cb O R pl cl cls L (.slice la L.length lk) D V ∧ Row2 (.ret2 D.ret.length) (.ret1 D.ret.length) σ v11 W ∧ RowI (.ret2 D.ret.length j) σ v (zC cls (zC r (L.take i)))) (fun i => L.length - i) 0 ?_ ?_
 ·exact ⟨tm, σ, _, rfl, t1, t2, t4, t5, t7, t9, t10, t11, t12, t13, t14, by omega, h, hW, OwnC.nil⟩
 clear t1 t2 t4 t5 t7 t9 t10 t11 t12 t13 t14 h hW;rintro i s ⟨tm, σ, v, rfl, t1, t2, t4, t5, t7, t9, t10, t11, t12, t13, t14, hi, h, hW, hv⟩
 repeat (first | (refine zc (by first | exact omv | exact z1g | exact z24) ?_) | (refine Trip.seq ?_) | (refine zd ?_) | (refine Trip.block ?_) | (refine zJ (fun _ => ?_) (fun _ => ?_)) | (refine Trip.skip ?_; (change Trip _ _ _ _ _)) | (refine OpsL.nil ?_; (change Trip _ _ _ _ _)))
 ·have hlt : i < L.length := by omega
  obtain ⟨hb, hG⟩ := hFA h.old.ext;obtain ⟨ia, ic, iv⟩ := hG.ret.slice;have ih := hG.ret;have g7 := hb.c7;rw [iv] at g7 ih;have hil := Nat.lt_of_lt_of_eq hP hmod.rl.symm;obtain ⟨q1, rb1, rk1, rfl, hc1, hrow⟩ := L3At.atI ih (show (0 : Int) ≤ P by omega) (show (P : Int) < m.ret.length by omega);rw [Int.toNat_natCast] at hc1 hrow;obtain ⟨q2, rb2, rk2, rfl, hc2, hrow2⟩ := L2At.atI hrow (show (0 : Int) ≤ j by omega) (show (j : Int) < (m.ret.getD P []).length by omega);rw [Int.toNat_natCast, hr] at hc2 hrow2;have hm := hLb _ (zM hlt);obtain ⟨qL, hqe, hcL⟩ := h.l.ints.atI (show (0 : Int) ≤ i by omega) (show (i : Int) < L.length by omega);subst hqe;rw [Int.toNat_natCast] at hcL
  have hsn : zC cls (zC r (L.take (i + 1))) = zC cls (zC r (L.take i)) ++ [cls.getD (r.getD (L.getD i 0).toNat 0).toNat 0] := by
   unfold zC;rw [List.take_succ_eq_append_getElem hlt, List.map_append, List.map_append, List.getD_eq_getElem?_getD (l := L), List.getElem?_eq_getElem hlt]; rfl
  have hml : (zC cls (zC r (L.take i))).length ≤ 1000 := by rw [z0r, z0r, List.length_take]; omega
  obtain ⟨x, hx⟩ : ∃ x, L.getD i 0 = x := ⟨_, rfl⟩;rw [hx] at hcL hm hsn;have hm2 := (hjq x.toNat (by omega)).1;obtain ⟨q3, rfl, hc3⟩ := hrow2.atI hm.1 (show x < r.length by omega);obtain ⟨y, hy⟩ : ∃ y, r.getD x.toNat 0 = y := ⟨_, rfl⟩;rw [hy] at hc3 hm2 hsn;have hc4 := h.cell hm2.1 (show y < (cls.length : Int) by omega);have hPr : (P : Int) < m.ret.length := by omega
  have hxr : x < r.length := by omega
  generalize zC cls (zC r (L.take i)) = Z at *;clear hx hy hb hG ih iv hrow hrow2
  repeat fail
  refine Trip.mono (Q := fun e st => e = .normal ∧ ∃ tm' τ v', st = ⟨tm', n, τ.H, τ.nx⟩ ∧ tm' 1 = .pointer (some ⟨nx, 0, none⟩) ∧ tm' 2 = .pointer (some ⟨R, 0, none⟩) ∧ tm' 4 = .slice (some ⟨cb, 0, none⟩) m.of.length m.of.length ∧ tm' 5 = .slice (some qL) L.length lk ∧ tm' 7 = .pointer (some ⟨O, 0, none⟩) ∧ tm' 9 = .int .i64 (c : Nat) ∧ tm' 10 = .int .i64 (P : Nat) ∧ tm' 11 = v11 ∧ tm' 12 = .int .i64 (j : Nat) ∧ tm' 13 = v' ∧ tm' 14 = .int .i64 i ∧ SmS σ0 τ cb O R pl cl cls L (.slice (some qL) L.length lk) D V ∧ Row2 (.ret2 D.ret.length) (.ret1 D.ret.length) τ v11 W ∧ RowI (.ret2 D.ret.length j) τ v' (Z ++ [cls.getD y.toNat 0])) ?_ ?_
  ·refine OpsQ.drawn [18, 19, 20] (K := fun _ _ _ => True) zU krf krf [0, 1, 2, 3, 4, 5, 6, 7, 8, 9, 10, 11, 12, 13, 14, 15, 16, 17, 18, 19, 20] krf (fun _ _ => trivial) ?_;refine zg3 ?_;refine z9X ?_;refine z7e ?_;refine zc2 ?_;refine zg3 ?_;refine z9X ?_;refine z5t ?_;refine z5t ?_;refine z5t ?_;refine z1K ?_;refine z0i (σ := σ) (enc := z1L) (z := cls.getD y.toNat 0) (el := 3) rfl evd krf sdc ?_;intro σ2 x2 hu;replace h := h.loc x2 (by simp);replace hW := ze x2 (by simp) (fun _ _ => by simp) hW;replace hv := zm x2 (by simp) hv;refine OpsL.nil ⟨fun _ _ => trivial, ?_⟩;refine z1K ?_;refine zT (bytes := 8) (z := [.int .i64 0]) zR z0I hv hu xrf xrf xrf xrf xrf rfl (by simp; omega) (by omega) evd evd sdc ?_;intro v3 σ3 hv3 x3;replace h := h.loc x3 (by simp [zeI]);replace hW := ze x3 (by simp) (fun jj hjj => by simp; try omega) hW;refine OpsL.nil ⟨fun _ _ => trivial, ?_⟩;refine z1K ?_
   (first | (refine zc (by exact z09) ?_))
   refine OpsL.nil ⟨fun k hk => absurd hk (by simp), ?_⟩;refine OpsQ.nil ?_;exact ⟨rfl, _, σ3, v3, rfl, stp, stp, stp, stp, stp, stp, stp, stp, stp, stp, stp, h, hW, hv3⟩
  clear t1 t2 t4 t5 t7 t9 t10 t11 t12 t13 t14 h hW hv hc1 hc2 hc3 hc4 hcL g7;rintro e st ⟨rfl, tm, τ, v3, rfl, t1, t2, t4, t5, t7, t9, t10, t11, t12, t13, t14, h, hW, hv3⟩;rw [← hsn] at hv3;refine zc4 ?_;exact ⟨i + 1, ⟨_, τ, v3, rfl, stp, stp, stp, stp, stp, stp, stp, stp, stp, stp, stp, by omega, h, hW, hv3⟩, by omega⟩
 ·have hie : i = L.length := by omega
  rw [hie, List.take_length] at hv;refine zeD ?_;exact hQ _ σ v stp stp stp stp stp stp stp stp stp stp h hW hv
set_option maxRecDepth 20000 in
set_option maxHeartbeats 16000000 in
theorem zh6 (W0 : World) {σ0 σ : CH} {nx cb O R c P n : Nat} {m : Mo} {V0 : MoV} {lv : Value} {pl cl : Int} {cls L : List Int} {D : Mo} {V : MoV} {tm : Nat → Value} (hn0 : n = 164) (hmod : ModOk m) (hl : cls.length = m.of.length) (ok0 : ∀ id o, σ0.H id = some o → id < σ0.nx) (hFA : ∀ {N : Nat} {H' : Heap}, Ext σ0.nx σ0.H N H' → MoBox H' nx m V0 ∧ MoIn H' m V0) (hP : P < m.of.length) (t1 : tm 1 = .pointer (some ⟨nx, 0, none⟩)) (t2 : tm 2 = .pointer (some ⟨R, 0, none⟩)) (t4 : tm 4 = .slice (some ⟨cb, 0, none⟩) m.of.length m.of.length) (t5 : tm 5 = lv) (t7 : tm 7 = .pointer (some ⟨O, 0, none⟩)) (t9 : tm 9 = .int .i64 (c : Nat)) (t10 : tm 10 = .int .i64 (P : Nat)) (h : SmS σ0 σ cb O R pl cl cls L lv D V) (hLb : ∀ x ∈ L, 0 ≤ x ∧ x < (m.of.length : Int)) (hLl : L.length ≤ 1000) (t11 : tm 11 = .slice none 0 0) (t12 : tm 12 = .int .i64 0)
  {Q : AExit → ASt → Prop} (hQ : ∀ tm' τ v, tm' 1 = .pointer (some ⟨nx, 0, none⟩) → tm' 2 = .pointer (some ⟨R, 0, none⟩) → tm' 4 = .slice (some ⟨cb, 0, none⟩) m.of.length m.of.length → tm' 5 = lv → tm' 7 = .pointer (some ⟨O, 0, none⟩) → tm' 9 = .int .i64 (c : Nat) → tm' 10 = .int .i64 (P : Nat) → tm' 11 = v → SmS σ0 τ cb O R pl cl cls L lv D V → Row2 (.ret2 D.ret.length) (.ret1 D.ret.length) τ v ((m.ret.getD P []).map fun row => zC cls (zC row L)) → Q .normal ⟨tm', n, τ.H, τ.nx⟩) : Trip Try.prog W0 (z3t [1, 1, 1, 1, 1, 1, 1, 0, 1, 2, 2, 1, 0, 2, 1, 1, 1, 1, 0, 1] (z0B Try.f9)) ⟨tm, n, σ.H, σ.nx⟩ Q := by
 have hn60 := hmod.n.2
 obtain ⟨hlen, hnz⟩ : (m.ret.getD P []).length ≤ 20 ∧ (0 < (m.ret.getD P []).length → m.of.getD P 0 ≠ 0) := by
  by_cases hz : m.of.getD P 0 = 0
  ·rw [hmod.ret0 _ hP hz]; simp
  ·have := (hmod.ret1 _ hP hz).1; have := hmod.cl;exact ⟨by omega, fun _ => hz⟩
 refine Trip.block ?_;refine zG (fun (i : Nat) s => ∃ tm σ v, s = ⟨tm, n, σ.H, σ.nx⟩ ∧ tm 1 = .pointer (some ⟨nx, 0, none⟩) ∧ tm 2 = .pointer (some ⟨R, 0, none⟩) ∧ tm 4 = .slice (some ⟨cb, 0, none⟩) m.of.length m.of.length ∧ tm 5 = lv ∧ tm 7 = .pointer (some ⟨O, 0, none⟩) ∧ tm 9 = .int .i64 (c : Nat) ∧ tm 10 = .int .i64 (P : Nat) ∧ tm 11 = v ∧ tm 12 = .int .i64 i ∧ i ≤ (m.ret.getD P []).length ∧ SmS σ0 σ cb O R pl cl cls L lv D V ∧ Row2 (.ret2 D.ret.length) (.ret1 D.ret.length) σ v (((m.ret.getD P []).take i).map fun row => zC cls (zC row L))) (fun i => (m.ret.getD P []).length - i) 0 ?_ ?_
 ·exact ⟨tm, σ, _, rfl, t1, t2, t4, t5, t7, t9, t10, t11, t12, by omega, h, OwnLC.nil⟩
 clear t1 t2 t4 t5 t7 t9 t10 t11 t12 h;rintro i s ⟨tm, σ, v, rfl, t1, t2, t4, t5, t7, t9, t10, t11, t12, hi, h, hW⟩;obtain ⟨hb, hG⟩ := hFA h.old.ext;obtain ⟨ia, ic, iv⟩ := hG.ret.slice;have ih := hG.ret;have g7 := hb.c7;rw [iv] at g7 ih;have hil := Nat.lt_of_lt_of_eq hP hmod.rl.symm;obtain ⟨q1, rb1, rk1, rfl, hc1, hrow⟩ := L3At.atI ih (show (0 : Int) ≤ P by omega) (show (P : Int) < m.ret.length by omega);rw [Int.toNat_natCast] at hc1 hrow;have hPr : (P : Int) < m.ret.length := by omega
 clear hb hG iv ih hrow
 repeat (first | (refine zc (by first | exact omv | exact ofa | exact old | exact z1j | exact z1g | exact z24) ?_) | (refine Trip.seq ?_) | (refine zd ?_) | (refine Trip.block ?_) | (refine zJ (fun _ => ?_) (fun _ => ?_)) | (refine Trip.skip ?_; (change Trip _ _ _ _ _)) | (refine OpsL.nil ?_; (change Trip _ _ _ _ _)))
 ·have hlt : i < (m.ret.getD P []).length := by omega
  have hsn : ((m.ret.getD P []).take (i + 1)).map (fun row => zC cls (zC row L)) = ((m.ret.getD P []).take i).map (fun row => zC cls (zC row L)) ++ [zC cls (zC ((m.ret.getD P []).getD i []) L)] := by
   rw [List.take_succ_eq_append_getElem hlt, List.map_append, List.getD_eq_getElem?_getD (l := m.ret.getD P []), List.getElem?_eq_getElem hlt]; rfl
  have hml : (((m.ret.getD P []).take i).map fun row => zC cls (zC row L)).length = i := by rw [List.length_map, List.length_take]; omega
  generalize ((m.ret.getD P []).take i).map (fun row => zC cls (zC row L)) = W at *
  repeat fail
  (first | (refine zc (by exact z09) ?_))
  refine z0n ?_
  (change Trip _ _ _ _ _)
  refine Trip.seq (Trip.seq ?_);refine zd ?_
  (first | (refine zc (by exact z09) ?_))
  refine z0n ?_
  (change Trip _ _ _ _ _)
  refine Trip.mono (zh5 (c := c) (P := P) (j := i) (W := W) (v11 := v) (D := D) (V := V) W0 hn0 hmod hl ok0 hFA hP stp stp stp stp stp stp stp h hLb hLl (hnz (by omega)) hlt stp stp stp stp hW hml (Q := fun e st => e = .normal ∧ ∃ tm' τ v', st = ⟨tm', n, τ.H, τ.nx⟩ ∧ tm' 1 = .pointer (some ⟨nx, 0, none⟩) ∧ tm' 2 = .pointer (some ⟨R, 0, none⟩) ∧ tm' 4 = .slice (some ⟨cb, 0, none⟩) m.of.length m.of.length ∧ tm' 5 = lv ∧ tm' 7 = .pointer (some ⟨O, 0, none⟩) ∧ tm' 9 = .int .i64 (c : Nat) ∧ tm' 10 = .int .i64 (P : Nat) ∧ tm' 11 = v ∧ tm' 12 = .int .i64 (i : Nat) ∧ tm' 13 = v' ∧ SmS σ0 τ cb O R pl cl cls L lv D V ∧ Row2 (.ret2 D.ret.length) (.ret1 D.ret.length) τ v W ∧ RowI (.ret2 D.ret.length i) τ v' (zC cls (zC ((m.ret.getD P []).getD i []) L))) ?_) ?_
  ·intro tm' τ v' a1 a2 a3 a4 a5 a6 a7 a8 a9 a10 a11 a12 a13;exact ⟨rfl, tm', τ, v', rfl, a1, a2, a3, a4, a5, a6, a7, a8, a9, a10, a11, a12, a13⟩
  clear t1 t2 t4 t5 t7 t9 t10 t11 t12 h hW g7 hc1;rintro e st ⟨rfl, tm, σ, vr, rfl, t1, t2, t4, t5, t7, t9, t10, t11, t12, t13, h, hW, hr⟩
  (change Trip _ _ _ _ _)
  obtain ⟨ra, rk, hrv⟩ := OwnC.slice zR hr;generalize zC cls (zC ((m.ret.getD P []).getD i []) L) = Z at *;rw [hrv] at hr t13;obtain ⟨vs, hvs, hall⟩ := hW;have hvl : vs.length = i := by have := hall.1; omega
  refine zfl ?_;refine z0i (σ := σ) (enc := z8E) (z := (ra, Z.length, rk)) (el := 22) rfl evr krf sdc ?_;intro σ2 x2 hu;refine zT (bytes := 24) (z := [.slice none 0 0]) z0b z1n (OwnC.keep x2 (by simp) hvs) hu xrf xrf xrf xrf xrf rfl (by simp; omega) (by omega) evd evd sdc ?_;intro v3 σ3 hvs3 x3;have x23 : Chg [.ret1 D.ret.length] σ σ3 := (x2.mono (by simp)).trans x3;replace h := h.loc x23 (by simp [zeI])
  have hall3 : AllC (fun jj => RowI (.ret2 D.ret.length jj)) σ3 (vs ++ [(ra, Z.length, rk)]) (W ++ [Z]) :=
   AllC.push (hall.keep fun jj _ _ _ hr => zm x23 (by simp) hr) (by rw [hml]; exact zm x23 (by simp) hr)
  have hret3 : Row2 (.ret2 D.ret.length) (.ret1 D.ret.length) σ3 v3 (W ++ [Z]) := ⟨_, hvs3, hall3⟩;rw [← hsn] at hret3;clear hall hall3 hvs hvs3 hu x2 x3 x23 hr;refine zfF ?_;refine zfo ?_;exact ⟨i + 1, ⟨_, σ3, v3, rfl, stp, stp, stp, stp, stp, stp, stp, stp, stp, by omega, h, hret3⟩, by omega⟩
 ·have hie : i = (m.ret.getD P []).length := by omega
  rw [hie, List.take_length] at hW;refine zfm ?_;exact hQ _ σ v stp stp stp stp stp stp stp stp h hW
set_option maxRecDepth 20000 in
set_option maxHeartbeats 16000000 in
theorem zgj (W0 : World) {σ0 σ : CH} {nx cb O R c P n : Nat} {m : Mo} {V0 : MoV} {lv : Value} {pl cl : Int} {cls L : List Int} {D : Mo} {V : MoV} {tm : Nat → Value} (hn0 : n = 164) (hmod : ModOk m) (hl : cls.length = m.of.length) (ok0 : ∀ id o, σ0.H id = some o → id < σ0.nx) (hFA : ∀ {N : Nat} {H' : Heap}, Ext σ0.nx σ0.H N H' → MoBox H' nx m V0 ∧ MoIn H' m V0) (hP : P < m.of.length) (t1 : tm 1 = .pointer (some ⟨nx, 0, none⟩)) (t2 : tm 2 = .pointer (some ⟨R, 0, none⟩)) (t4 : tm 4 = .slice (some ⟨cb, 0, none⟩) m.of.length m.of.length) (t5 : tm 5 = lv) (t7 : tm 7 = .pointer (some ⟨O, 0, none⟩)) (t9 : tm 9 = .int .i64 (c : Nat)) (t10 : tm 10 = .int .i64 (P : Nat)) (h : SmS σ0 σ cb O R pl cl cls L lv D V) {v : Value} {rows : List (List Int)} (t11 : tm 11 = v) (hret : Row2 (.ret2 D.ret.length) (.ret1 D.ret.length) σ v rows) (hlr : D.ret.length ≤ 1000) {Q : AExit → ASt → Prop} (hQ : ∀ tm' τ V', tm' 1 = .pointer (some ⟨nx, 0, none⟩) → tm' 2 = .pointer (some ⟨R, 0, none⟩) → tm' 4 = .slice (some ⟨cb, 0, none⟩) m.of.length m.of.length → tm' 5 = lv → tm' 7 = .pointer (some ⟨O, 0, none⟩) → tm' 9 = .int .i64 (c : Nat) → tm' 10 = .int .i64 (P : Nat) → SmS σ0 τ cb O R pl cl cls L lv { D with ret := D.ret ++ [rows] } V' → Q .normal ⟨tm', n, τ.H, τ.nx⟩) : Trip Try.prog W0 (z3t [1, 1, 1, 1, 1, 1, 1, 0, 1, 2, 2, 1, 0, 2, 1, 1, 1, 1, 1] (z0B Try.f9)) ⟨tm, n, σ.H, σ.nx⟩ Q := by
 have ga : zf σ.H ⟨O, 7, none⟩ V.r := h.a.cell rfl
 obtain ⟨z, hz⟩ : ∃ z : SV, v = slV z := by
  obtain ⟨vs, q1, q2⟩ := hret;obtain ⟨a, k, q3⟩ := OwnC.slice z0b q1;exact ⟨(a, vs.length, k), q3⟩
 subst hz;refine zd ?_
 repeat (first | (refine zc (by first | exact ofa | exact old | exact omv) ?_))
 clear ga;refine z0i (σ := σ) (enc := z8E) (a := slV z) (z := z) (el := 26) rfl evd krf sdc ?_;intro σ2 x2 hu;replace h := h.loc x2 (by simp);replace hret := ze x2 (by simp) (fun _ _ => by simp) hret;obtain ⟨vs, hvs, hall⟩ := h.ret;refine zT (bytes := 24) (z := [.slice none 0 0]) z0b z1n hvs hu xrf xrf xrf xrf xrf rfl (by have := hall.1; simp; omega) (by omega) evd evd sdc ?_;intro v3 σ3 hown x3;have ha3 := h.a.keep x3 (by simp);replace hall := hall.keep (fun i u x _ hr => ze x3 (by simp) (fun _ _ => by simp) hr);replace hret := ze x3 (by simp) (fun _ _ => by simp) hret;obtain ⟨wa, wk, rfl⟩ := OwnC.slice z0b hown
 repeat (first | (refine zc (by exact ofa) ?_))
 refine zP (k := 7) (v := .slice wa (vs ++ [z]).length wk) (cs' := moC pl cl { V with r := .slice wa (vs ++ [z]).length wk }) ha3 (by simp [moC]) rfl xrf rfl rfl evr evd rfl ?_;intro τ hat xt _;replace hown := hown.keep xt (by simp);replace hall := hall.keep (fun i u x _ hr => ze xt (by simp) (fun _ _ => by simp) hr);replace hret := ze xt (by simp) (fun _ _ => by simp) hret;have xx := x3.trans2 (U := [.ret, .self]) xt (fun c hc => by simp at hc; simp [hc]) (fun c hc => by simp at hc; simp [hc]);refine z0n ?_;exact hQ _ τ { V with r := .slice wa (vs ++ [z]).length wk } stp stp stp stp stp stp stp ⟨h.old.keep xx (by simp), h.c.keep xx (by simp), h.l.keep xx (by simp), hat, h.r.keep xx (by simp), h.of.keep xx (by simp), h.en.keep xx (by simp), h.fi.keep xx (by simp), ze xx (by simp) (fun _ _ => by simp) h.inn, ze xx (by simp) (fun _ _ => by simp) h.low, ⟨_, hown, hall.push hret⟩⟩
end Go.Proofs.Ytjgbcpagfghfnaa
namespace Go.Am
theorem z8o {m : Mo} (_hm : ModOk m) : (zx m).length = (z0 m).length := by simp [zx, zZ]
theorem zas {m : Mo} {p : Nat} (hp : p < (z0 m).length) (h : (z0 m).getD p false = false) : (zx m).getD p 0 = -1 := by
 unfold zx;rw [zL _ _ (by simp [zZ]; omega) _ 0, z0G hp, h];rfl
theorem z6Z {m : Mo} (hm : ModOk m) : ∀ i, i ≤ (z0 m).length → z05 (zx m) i = zC (zA (zZ (z0 m))) (z05 (zF (zX m)) (z0w (z0 m) i))
 | 0, _ => by simp [z0w, z05, zC]
 | i + 1, hi => by
  have ih := z6Z hm i (by omega);have hr := z2o (l := z0 m) (i := i) (by omega);have hL : z05 (zx m) (i + 1) = if (zx m).getD i 0 = (z05 (zx m) i).length then z05 (zx m) i ++ [(i : Int)] else z05 (zx m) i := rfl
  rw [hL, ih, z0r, hr];cases h : (z0 m).getD i false
  ·rw [zas (by omega) h, if_neg (by omega)];simp
  ·obtain ⟨r1, r2⟩ := z0o h;have hstep : z05 (zF (zX m)) (z0w (z0 m) i + 1) = if (zF (zX m)).getD (z0w (z0 m) i) 0 = (z05 (zF (zX m)) (z0w (z0 m) i)).length then z05 (zF (zX m)) (z0w (z0 m) i) ++ [(z0w (z0 m) i : Int)] else z05 (zF (zX m)) (z0w (z0 m) i) := rfl
   rw [z1a hm h];simp only [if_true];rw [hstep];split
   ·unfold zC;rw [List.map_append, List.map_singleton, Int.toNat_natCast, r2]
   ·rfl
theorem zcS (is : List Bool) : z0w is is.length = (zA (zZ is)).length := by
 have := z4x is is.length (Nat.le_refl _);have hl : (zZ is).length = is.length := by simp [zZ]
 unfold zA;rw [hl, this]
theorem z22 {m : Mo} (hm : ModOk m) : zA (zx m) = zC (zA (zZ (z0 m))) (zA (zF (zX m))) := by
 obtain ⟨-, c2, -⟩ := z19 (z3x hm);have hbl : (zX m).of.length = (zA (zZ (z0 m))).length := by simp [zX, z06]
 unfold zA;rw [z8o hm, z6Z hm _ (Nat.le_refl _), zcS, c2, hbl];rfl
theorem z4z {m : Mo} (hm : ModOk m) {l : List Int} (hl : ∀ x ∈ l, (z0 m).getD x.toNat false = true) : zC (zx m) l = zC (zF (zX m)) (zC (zZ (z0 m)) l) := by
 unfold zC;rw [List.map_map];refine List.map_congr_left fun x hx => ?_;have h := hl x hx;show _ = (zF (zX m)).getD ((zZ (z0 m)).getD x.toNat 0).toNat 0;rw [z1a hm h, z0G (z0v h), h];simp only [if_true];rw [Int.toNat_natCast]
theorem zcM {m : Mo} (hm : ModOk m) : z06 m (zx m) = z0L m := by
 have hcl := z0W hm.st;have hb := z3x hm;have hbl : (zX m).of.length = (zA (zZ (z0 m))).length := by simp [zX, z06]
 obtain ⟨-, c2, -⟩ := z19 hb
 have hlt : ∀ u ∈ zA (zF (zX m)), 0 ≤ u ∧ u.toNat < (zA (zZ (z0 m))).length := fun u hu => by
  obtain ⟨i, hi, rfl⟩ := z83 hu;obtain ⟨⟨h1, h2⟩, -⟩ := z2Y (zF (zX m)) _ (Nat.le_refl _) i hi;exact ⟨h1, by have h3 : (zA (zF (zX m))).getD i 0 < ((zF (zX m)).length : Int) := h2; omega⟩
 have hre : ∀ u ∈ zA (zF (zX m)), (z0 m).getD ((zA (zZ (z0 m))).getD u.toNat 0).toNat false = true := fun u hu => by
  obtain ⟨x, hx, -, e⟩ := z2P (hlt u hu).2;rw [e, Int.toNat_natCast]; exact hx
 have hrow : ∀ u ∈ zA (zF (zX m)), ∀ row ∈ m.ret.getD ((zA (zZ (z0 m))).getD u.toNat 0).toNat [], zC (zx m) (zC row (zA (zx m))) = zC (zF (zX m)) (zC (zC (zZ (z0 m)) (zC row (zA (zZ (z0 m))))) (zA (zF (zX m)))) := fun u hu row hr => by
  rw [z22 hm];obtain ⟨j, hj, ej⟩ := List.getElem_of_mem hr
  have hrj : row = (m.ret.getD ((zA (zZ (z0 m))).getD u.toNat 0).toNat []).getD j [] := by
   rw [List.getD_eq_getElem?_getD, List.getElem?_eq_getElem hj, ej]; rfl
  have hin : ∀ x ∈ zC row (zC (zA (zZ (z0 m))) (zA (zF (zX m)))), (z0 m).getD x.toNat false = true := fun x hx => by
   obtain ⟨y, hy, rfl⟩ := z6k hx;obtain ⟨v, hv, rfl⟩ := z6k hy;rw [hrj];exact hcl.ret _ _ (hre u hu) (hre v hv) _ (z2a hj)
  rw [z4z hm hin];congr 1;unfold zC;rw [List.map_map, List.map_map];refine List.map_congr_left fun v hv => ?_;show (zZ (z0 m)).getD (row.getD ((zA (zZ (z0 m))).getD v.toNat 0).toNat 0).toNat 0 = _;rw [zL _ _ (by rw [List.length_map]; exact (hlt v hv).2) _ 0, zL _ _ (hlt v hv).2 _ 0]
 unfold z0L;show z06 m (zx m) = z06 (z06 m (zZ (z0 m))) (zF (zX m));unfold z06;simp only;congr 1
 ·rw [z22 hm];unfold zC;rw [List.map_map];refine List.map_congr_left fun u hu => ?_;rw [zL _ _ (hlt u hu).2 _ 0]; rfl
 ·exact z4z hm fun x hx => hcl.entry x hx
 ·rw [z22 hm];unfold zC;rw [List.map_map];refine List.map_congr_left fun u hu => ?_;rw [zL _ _ (hlt u hu).2 _ 0]; rfl
 ·rw [z22 hm, zC, List.map_map];refine List.map_congr_left fun u hu => ?_;rw [zL _ _ (hlt u hu).2 _ 0];exact z4z hm fun x hx => hcl.inn _ (hre u hu) x hx
 ·rw [z22 hm, zC, List.map_map];refine List.map_congr_left fun u hu => ?_;rw [zL _ _ (hlt u hu).2 _ 0];exact z4z hm fun x hx => hcl.low _ (hre u hu) x hx
 ·have e : (zA (zx m)).map (fun p => (m.ret.getD p.toNat []).map fun row => zC (zx m) (zC row (zA (zx m)))) = (zA (zF (zX m))).map (fun u => (m.ret.getD ((zA (zZ (z0 m))).getD u.toNat 0).toNat []).map fun row => zC (zx m) (zC row (zA (zx m)))) := by
   rw [show (zA (zx m)).map (fun p => (m.ret.getD p.toNat []).map fun row => zC (zx m) (zC row (zA (zx m)))) = (zC (zA (zZ (z0 m))) (zA (zF (zX m)))).map (fun p => (m.ret.getD p.toNat []).map fun row => zC (zx m) (zC row (zA (zx m)))) from by rw [← z22 hm]];unfold zC;rw [List.map_map]; rfl
  rw [e];refine List.map_congr_left fun u hu => ?_;rw [zL _ _ (hlt u hu).2 _ 0, List.map_map];exact List.map_congr_left fun row hr => hrow u hu row hr
end Go.Am
namespace Go.Am
open Go.RowKit
end Go.Am
namespace Go.Proofs.Ytjgbcpagfghfnaa
open Go.Am Go.RowKit
attribute [local irreducible] aop OpsL Trip zt z1X z1E OpsR
theorem z7I : Am.z1G Try.prog 53 := ⟨Try.f53, Try.func53, by kernel_rfl, by kernel_rfl⟩
set_option maxRecDepth 20000 in
set_option maxHeartbeats 16000000 in
theorem zfY (W0 : World) {nx : Nat} {H : Heap} {m : Mo} {V : MoV} (hm : MoIn H m V) (hn : MoLen m) {lv : Value} {l : List Int} (hl : IntsAt H lv l) (hll : l.length ≤ 100000) (w k : Int) : ACalls Try.prog W0 53 [.agg (moV m V).toArray, lv, .int .i64 w, .int .i64 k] nx H fun v nx' H' => v = .bool (decide ((l.length : Int) = w) && zc1 m l k) ∧ Ext nx H nx' H' := by
 refine zg (fn := Try.f53) (c := _) Try.func53 rfl (fun tm n hn0 htm => ?_);have e0 : tm 0 = .agg (moV m V).toArray := htm 0;have e1 : tm 1 = lv := htm 1;have e2 : tm 2 = .int .i64 w := htm 2;have e3 : tm 3 = .int .i64 k := htm 3;clear htm;replace hn0 : n = 46 := hn0;refine Trip.ok fun hok => ?_;replace hok : ∀ id o, H id = some o → id < nx := hok;refine z2k ?_;refine zY hm hok ?_ evd sdc;intro G x0 okG hb hG;clear e0;obtain ⟨oa, oc, ov⟩ := hG.of.slice;have oh := hG.of;have g2 := hb.c2;rw [ov] at oh g2;obtain ⟨la, lc, rfl⟩ := hl.slice;have hlG := hl.ext x0 hok;have q0 := hn.of;refine zgP ?_;by_cases hw : ¬ (l.length : Int) = w
 ·refine z08 ?_ (c := hw);rw [decide_eq_false hw];clear hw;refine z9O ?_;refine zc7 ?_;exact ⟨.inr rfl, _, zn, rfl, x0⟩
 replace hw := Decidable.not_not.1 hw;refine z02 ?_ (c := hw);rw [decide_eq_true hw, Bool.true_and];subst hw;refine z68 ?_;refine zc5 ?_;refine zG (fun (i : Nat) s => ∃ (tm : Nat → Value), s = ⟨tm, n, G, nx + 1⟩ ∧ tm 1 = .slice la l.length lc ∧ tm 2 = .int .i64 l.length ∧ tm 3 = .int .i64 k ∧ tm 4 = .pointer (some ⟨nx, 0, none⟩) ∧ tm 9 = .int .i64 i ∧ i ≤ l.length ∧ z4H i (fun i => inF m (l.getD i 0) k) = true) (fun i => l.length - i) 0 ?_ ?_
 ·exact ⟨_, rfl, stp, stp, stp, stp, stp, by omega, z1e⟩
 clear e1 e2 e3;rintro i s ⟨tm, rfl, e1, e2, e3, e4, e9, hi, hall⟩
 repeat (first | (refine zc (by first | exact omv | exact z24) ?_) | (refine Trip.seq ?_) | (refine zd ?_) | (refine Trip.block ?_) | (refine zJ (fun _ => ?_) (fun _ => ?_)) | (refine Trip.skip ?_; (change Trip _ _ _ _ _)) | (refine OpsL.nil ?_; (change Trip _ _ _ _ _)))
 ·have hlt : i < l.length := by omega
  obtain ⟨q, rfl, hc⟩ := IntsAt.atI hlG (show (0 : Int) ≤ i by omega) (show (i : Int) < l.length by omega);rw [Int.toNat_natCast] at hc
  repeat fail
  refine Trip.mono (Q := fun e st => e = .normal ∧ ∃ tm' : Nat → Value, st = ⟨tm', n, G, nx + 1⟩ ∧ tm' 1 = .slice (some q) l.length lc ∧ tm' 2 = .int .i64 l.length ∧ tm' 3 = .int .i64 k ∧ tm' 4 = .pointer (some ⟨nx, 0, none⟩) ∧ tm' 9 = .int .i64 i ∧ tm' 45 = .bool (!inF m (l.getD i 0) k)) ?_ ?_
  ·obtain ⟨x, hx⟩ : ∃ x, l.getD i 0 = x := ⟨_, rfl⟩;rw [hx] at hc ⊢;refine z04 [] (K := fun _ _ => True) zU krf krf [0, 1, 2, 3, 4, 5, 6, 7, 8, 9, 10, 11, 12, 13, 14, 15, 16, 17, 18, 19, 20, 21, 22, 23, 24, 25, 26] krf trivial ?_;refine z4G ?_;refine zg7 ?_;refine zg1 ?_;by_cases h0 : x < 0
   ·refine z0y ?_ (c := h0);have hF : inF m x k = false := decide_eq_false fun q => by omega
    refine z0n ?_;refine z4G ?_;refine zg0 ?_;refine zg0 ?_;refine zdp ?_;refine zdm ?_;refine z7d ?_;refine z4G ?_;refine z9P ?_;refine zdp ?_;refine zc3 ?_;refine OpsR.nil ?_;exact ⟨rfl, _, rfl, stp, stp, stp, stp, stp, stp⟩
   refine z0z ?_ (c := h0);refine z0n ?_;refine z4G ?_;refine z7c ?_;refine zg2 ?_;refine zg9 ?_;refine zgD ?_;refine z6u ?_;by_cases h1 : (m.of.length : Int) ≤ x
   ·refine z5f ?_ (c := h1);have hF : inF m x k = false := decide_eq_false fun q => by omega
    refine z0n ?_;refine z9W ?_;refine z4G ?_;refine z9P ?_;refine zdp ?_;refine zc3 ?_;refine OpsR.nil ?_;exact ⟨rfl, _, rfl, stp, stp, stp, stp, stp, stp⟩
   refine z5g ?_ (c := h1);refine z0n ?_;obtain ⟨q5, rfl, hc5⟩ := IntsAt.atI oh (show 0 ≤ x by omega) (show x < m.of.length by omega);refine z9W ?_;refine z4G ?_;refine zg9 ?_;refine z7c ?_;refine zgY ?_;refine zfI ?_;refine z6u ?_;by_cases h2 : m.of.getD x.toNat 0 = k
   ·refine z02 ?_ (c := h2);have hF : inF m x k = true := decide_eq_true ⟨⟨by omega, by omega⟩, h2⟩;clear h2;refine zdl ?_;exact ⟨rfl, _, rfl, stp, stp, stp, stp, stp, stp⟩
   ·refine z08 ?_ (c := h2);have hF : inF m x k = false := decide_eq_false fun q => h2 q.2;clear h2;refine zdl ?_;exact ⟨rfl, _, rfl, stp, stp, stp, stp, stp, stp⟩
  clear e1 e2 e3 e4 e9;rintro e st ⟨rfl, tm, rfl, e1, e2, e3, e4, e9, e45⟩
  (change Trip _ _ _ _ _)
  cases hs : inF m (l.getD i 0) k
  ·rw [hs] at e45;replace e45 : tm 45 = .bool true := e45
   repeat fail
   refine z9U ?_;exact ⟨.inr rfl, _, zn, by rw [show zc1 m l k = false from z1D hlt hs]; rfl, x0⟩
  ·rw [hs] at e45;replace e45 : tm 45 = .bool false := e45
   repeat fail
   refine zfH ?_;exact ⟨i + 1, ⟨_, rfl, stp, stp, stp, stp, stp, by omega, z1N hall hs⟩, by omega⟩
 ·repeat (first | (refine zc (by exact z09) ?_) | (refine Trip.seq ?_) | (refine zd ?_) | (refine Trip.exit ?_; ((repeat (refine zD ?_)); change Trip _ _ _ _ _)) | (refine Trip.ret ?_; (dsimp only)) | (refine OpsL.nil ?_; (change Trip _ _ _ _ _)))
  have hi2 : i = l.length := by omega
  subst hi2;exact ⟨.inr rfl, _, zn, by rw [show zc1 m l k = true from hall]; rfl, x0⟩
end Go.Proofs.Ytjgbcpagfghfnaa
