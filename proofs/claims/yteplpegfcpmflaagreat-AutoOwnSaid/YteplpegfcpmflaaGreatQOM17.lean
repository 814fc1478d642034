import Derived.Test.YteplpegfcpmflaaGreatQOM16
set_option linter.unusedSimpArgs false
set_option linter.unusedVariables false
set_option maxRecDepth 100000
set_option maxHeartbeats 64000000
namespace Go.Am
theorem zfK {P : Nat} {S : Int → Prop} : (∃ p1 : Int, 0 ≤ p1 ∧ p1 < ((P + 1 : Nat) : Int) ∧ S p1) ↔ (∃ p1 : Int, 0 ≤ p1 ∧ p1 < (P : Int) ∧ S p1) ∨ S (P : Int) := by
 constructor
 ·rintro ⟨p1, q0, q1, h⟩;by_cases e : p1 = P
  ·subst e; exact .inr h
  ·exact .inl ⟨p1, q0, zom, h⟩
 ·rintro (⟨p1, q0, q1, h⟩ | h)
  ·exact ⟨p1, q0, zom, h⟩
  ·exact ⟨P, zom, zom, h⟩
end Go.Am
namespace Go.Proofs.YteplpegfcpmflaaGreat
open Go.RowKit Go.Am
attribute [local irreducible] aop OpsL Trip zI z2r OpsK OpsR
theorem z5r : Am.z0O Tryz.prog 20 := ⟨Tryz.f20, Tryz.func20, by kernel_rfl, by kernel_rfl⟩
def zf2 (u : Nat × Nat × Int) : List Value := lvV u.1 u.2.1 u.2.2
theorem z5K (u : Nat × Nat × Int) : (zf2 u).length = 2 := rfl
theorem zeD (u : Nat × Nat × Int) : (zf2 u).all (·.oneCell') = true := rfl
def UndIn (H : Heap) (N M : Nat) (U : List (Nat × Nat × Int)) (l : List LvT) : Prop := AllR (fun u (lv : LvT) => u.2.1 = M ∧ u.2.2 = lv.by_ ∧ z0L H u.1 N lv.row) U.reverse l
theorem UndIn.same {H H' : Heap} {N M : Nat} {U : List (Nat × Nat × Int)} {l : List LvT} (h : UndIn H N M U l) (hs : ∀ u ∈ U, H' u.1 = H u.1) : UndIn H' N M U l := by
 unfold UndIn at *;have hs' : ∀ u ∈ U.reverse, H' u.1 = H u.1 := fun u hu => hs u (List.mem_reverse.1 hu);generalize U.reverse = V at *;clear hs
 induction h with
 | nil => exact .nil
 | cons h1 _ ih => exact .cons ⟨h1.1, h1.2.1, h1.2.2.same (hs' _ (by simp))⟩ (ih fun u hu => hs' u (by simp [hu]))
theorem UndIn.push {H : Heap} {N M : Nat} {U : List (Nat × Nat × Int)} {l : List LvT} {b : Nat} {lv : LvT} (h : UndIn H N M U l) (hr : z0L H b N lv.row) : UndIn H N M (U ++ [(b, M, lv.by_)]) (lv :: l) := by
 unfold UndIn at *;rw [List.reverse_append];exact .cons ⟨rfl, rfl, hr⟩ h
theorem UndIn.pop {H : Heap} {N M : Nat} {U : List (Nat × Nat × Int)} {l : List LvT} {u : Nat × Nat × Int} (h : UndIn H N M (U ++ [u]) l) : ∃ lv l', l = lv :: l' ∧ u.2.1 = M ∧ u.2.2 = lv.by_ ∧ z0L H u.1 N lv.row ∧ UndIn H N M U l' := by
 unfold UndIn at *;rw [List.reverse_append] at h;cases h with
 | cons h1 h2 => exact ⟨_, _, rfl, h1.1, h1.2.1, h1.2.2, h2⟩
theorem UndIn.empty {H : Heap} {N M : Nat} {l : List LvT} (h : UndIn H N M [] l) : l = [] := by
 unfold UndIn at h;cases h;rfl
abbrev zgu (H : Heap) (ob : Option (Nat × Nat)) (v : Value) (U : List (Nat × Nat × Int)) : Prop := OwnOf zf2 2 90 H ob v U
theorem zen {H : Heap} {b t : Nat} {l : List (Nat × Nat × Int)} {x : Nat × Nat × Int} {v : Value} (h : zgu H (some (b, t)) v (l ++ [x])) : zgu H (some (b, t)) (.slice (some ⟨b, 0 + 0 * 2, some t⟩) (l.length - 0) (l.length - 0)) l := by
 obtain ⟨_, _, rest, ho⟩ := h;refine ⟨by simp, by rw [z0j z5K], zf2 x ++ rest, ?_⟩;rw [ho, List.flatMap_append, List.append_assoc];simp
theorem ze4 {ss : List (ByteArray × Int)} {x k : Int} (h0 : 0 ≤ x) (h1 : x < ss.length) : kdF ss x k = decide (ss[x.toNat].2 = k) := by
 have h2 : x.toNat < ss.length := by omega
 unfold kdF;rw [List.getElem?_eq_getElem h2];simp [h0, h1]
theorem zcL (W0 : World) {nx : Nat} {H : Heap} {a : Aut} {lv wv vi vf vo vc vn : Value} {ss : List (ByteArray × Int)} {w : List Int} {N : Nat} (hl : SymsAt H lv ss) (hss : ss.length ≤ 1000) (ha : AutIn H a vi vf vo vc vn) (hn : AutLen a) (hin : z51 a = true) (hN : a.N = (N : Int)) (hN1 : 1 ≤ N) (hN2 : N ≤ 200) (hwv : IntsAt H wv w) (hw : ∀ x ∈ w, 0 ≤ x ∧ x < ss.length) (hwl : w.length ≤ 100000) :
  ACalls Tryz.prog W0 20 [lv, .agg (zz a vi vf vo vc vn).toArray, wv] nx H fun v nx' H' => (∃ b : Bool, v = .bool b ∧ (b = true ↔ zgX ss a w)) ∧ Ext nx H nx' H' := by
 obtain ⟨ia, ic, rfl⟩ := ha.init.slice;obtain ⟨fa, fc, rfl⟩ := ha.final.slice;obtain ⟨oa, oc, rfl⟩ := ha.opens.slice;obtain ⟨ca, cc, rfl⟩ := ha.closes.slice;obtain ⟨na, nc, rfl⟩ := ha.inners.slice;obtain ⟨la, lc, rfl, hl⟩ := hl;obtain ⟨wa, wc, rfl⟩ := hwv.slice;obtain ⟨ii, iff_, io, ic0, inn⟩ := z8I hin;rw [hN] at ii iff_ io ic0 inn;obtain ⟨M, hM⟩ : ∃ M, N * N = M := ⟨_, rfl⟩;have hMi : (N : Int) * (N : Int) = (M : Int) := by rw [← hM]; simp
 have hM2 : M ≤ 40000 := by rw [← hM]; exact Nat.mul_le_mul hN2 hN2
 have q2 := hn.init;have q3 := hn.final;have q4 := hn.opens;have q5 := hn.closes;have q6 := hn.inners;refine zm (fn := Tryz.f20) (c := _) Tryz.func20 rfl (fun tm n hn0 htm => ?_);have e0 : tm 0 = .slice (some la) ss.length lc := htm 0;have e1 : tm 1 = .agg (zz a (.slice ia a.init.length ic) (.slice fa a.final.length fc) (.slice oa a.opens.length oc) (.slice ca a.closes.length cc) (.slice na a.inners.length nc)).toArray := htm 1;have e2 : tm 2 = .slice wa w.length wc := htm 2;clear htm;replace hn0 : n = 301 := hn0;refine Trip.ok fun hok => ?_;replace hok : ∀ id o, H id = some o → id < nx := hok;refine z5h ?_;refine OpsL.new zsd (z0a evr) ?_;obtain ⟨G, hG⟩ : ∃ G, G = H.put nx (.cells (Value.agg (zz a (.slice ia a.init.length ic) (.slice fa a.final.length fc) (.slice oa a.opens.length oc) (.slice ca a.closes.length cc) (.slice na a.inners.length nc)).toArray).cells.toList 0 none false (some 30)) := ⟨_, rfl⟩;have hx0 : Ext nx H (nx + 1) G := by rw [hG]; exact zj
 have ok0 : ∀ id o, G id = some o → id < nx + 1 := by rw [hG]; exact zF hok
 have g0 : G nx = some (.cells (zz a (.slice ia a.init.length ic) (.slice fa a.final.length fc) (.slice oa a.opens.length oc) (.slice ca a.closes.length cc) (.slice na a.inners.length nc)) 0 none false (some 30)) := by rw [hG, zb]; rfl
 rw [← hG];clear hG e1;have c0 : zh G ⟨nx, 0, none⟩ (.int .i64 (N : Int)) := by rw [← hN]; exact ze g0 rfl
 repeat (first | (refine zd (by first | exact omv | exact ofa | exact old | exact z0y) ?_) | refine Trip.seq ?_ | refine zk ?_ | (refine OpsL.nil ?_; (change Trip _ _ _ _ _)))
 refine z0H ?_
 repeat (first | refine zd (by exact omv) ?_ | refine zA ?_)
 refine z1L ?_
 repeat (first | (refine zd (by first | exact omv | exact z2Y) ?_) | refine zA ?_)
 refine zd (zg (k := 7) (vs := (zz a (.slice ia a.init.length ic) (.slice fa a.final.length fc) (.slice oa a.opens.length oc) (.slice ca a.closes.length cc) (.slice na a.inners.length nc))) evd zxr rfl zxr (zH g0 rfl)) ?_;refine zA ?_;refine z0c (hf := z95) (hc := (zgb W0 (ha.ext hx0 hok) hn).ok) (h := ?_);rintro v1 n1 H1 ⟨⟨rfl, x1⟩, ok1⟩;rw [hin];have g1 := (x1.2 nx zom).trans g0;have hx1 := hx0.trans x1;have hle1 := x1.1;clear g0 c0 hx0 ok0 x1
 repeat (first | (refine zd (by first | exact z7e | exact z2Y) ?_) | (refine OpsL.nil ?_; (change Trip _ _ _ _ _)) | refine zA ?_)
 refine z0h ?_;refine zdV ?_;refine zd (v := .int .i64 (M : Int)) (by rw [← hMi]; exact z7m evd evd (by rw [hMi]; omega)) ?_;refine OpsL.new (v := .slice (some ⟨n1, 0, none⟩) M M) (o := .cells (rep M [.bool false]) 1 none false (some 4)) zsd (z0l evd evd (z09 (el := 4) zxr zxr zxr zxr zom)) ?_;refine zd (zC (v := .agg (lvV n1 M 0).toArray) (l := [(0, .slice (some ⟨n1, 0, none⟩) M M)]) zep krf) ?_;refine OpsL.new zsd (zD (l := z19) krf) ?_;refine OpsL.upd (zw (k := 2) (u := .agg (lvV n1 M 0).toArray) evd evd zxr rfl (o := .cells (lvV n1 M 0) 0 none false (some 90)) (zE (vs := lvV n1 M 0) zb rfl rfl)) ?_;obtain ⟨C, hC⟩ : ∃ C, C = n1 + 1 := ⟨_, rfl⟩;obtain ⟨R0, hR0⟩ : ∃ R, R = n1 := ⟨_, rfl⟩;obtain ⟨G2, hG2⟩ : ∃ G, G = ((H1.put n1 (.cells (rep M [.bool false]) 1 none false (some 4))).put (n1 + 1) (.cells z19 0 none false (some 90))).put (n1 + 1) (.cells (lvV n1 M 0) 0 none false (some 90)) := ⟨_, rfl⟩;obtain ⟨n2, hn2⟩ : ∃ q, q = n1 + 1 + 1 := ⟨_, rfl⟩;have hx2 : Ext nx H n2 G2 := ⟨zom, fun j hj => by rw [hG2, za zom, za zom, za zom]; exact hx1.2 j hj⟩;have ok2 : ∀ id o, G2 id = some o → id < n2 := by rw [hG2, hn2]; exact zV (zF (zF ok1)) zb
 have g2 : G2 nx = some (.cells (zz a (.slice ia a.init.length ic) (.slice fa a.final.length fc) (.slice oa a.opens.length oc) (.slice ca a.closes.length cc) (.slice na a.inners.length nc)) 0 none false (some 30)) := by rw [hG2, za zom, za zom, za zom]; exact g1
 have gC : G2 C = some (.cells (lvV R0 M 0) 0 none false (some 90)) := by rw [hG2, hC, hR0, zb]
 have hr2 : z0L G2 R0 N (fun _ _ => False) := by rw [hR0]; exact (LRow.new (H := H1) hM.symm).same (by rw [hG2, za zom, za zom])
 rw [← hG2, ← hn2, ← hC, ← hR0];have hRC : R0 ≠ C := by omega
 have hR1 : R0 < n2 := by omega
 have hC1 : C < n2 := by omega
 have hR3 : nx < R0 := by omega
 have hC3 : nx < C := by omega
 have hle2 : nx + 1 ≤ n2 := by omega
 clear hG2 hn2 hC hR0 g1 hx1 ok1 hle1;refine zg9 ?_;refine Trip.mono (Q := fun e st => e = .exit 0 ∧ ∃ (tm' : Nat → Value) (J : Heap), st = ⟨tm', n, J, n2⟩ ∧ (∀ j, j ≠ R0 → J j = G2 j) ∧ (∀ id o, J id = some o → id < n2) ∧ z0L J R0 N (fun p q => p = q ∧ p ∈ a.init) ∧ tm' 0 = .slice (some la) ss.length lc ∧ tm' 2 = .slice wa w.length wc ∧ tm' 4 = .pointer (some ⟨nx, 0, none⟩) ∧ tm' 6 = .bool false ∧ tm' 7 = .int .i64 (N : Int) ∧ tm' 8 = .pointer (some ⟨C, 0, none⟩)) ?_ ?_
 ·refine zu (fun (i : Nat) st => ∃ (tm' : Nat → Value) (J : Heap), st = ⟨tm', n, J, n2⟩ ∧ (∀ j, j ≠ R0 → J j = G2 j) ∧ (∀ id o, J id = some o → id < n2) ∧ z0L J R0 N (fun p q => p = q ∧ p ∈ a.init.take i) ∧ tm' 0 = .slice (some la) ss.length lc ∧ tm' 2 = .slice wa w.length wc ∧ tm' 4 = .pointer (some ⟨nx, 0, none⟩) ∧ tm' 6 = .bool false ∧ tm' 7 = .int .i64 (N : Int) ∧ tm' 8 = .pointer (some ⟨C, 0, none⟩) ∧ tm' 9 = .int .i64 i ∧ i ≤ a.init.length) (fun i => a.init.length - i) 0 ?_ ?_
  ·exact ⟨_, _, rfl, fun _ _ => rfl, ok2, hr2.iff fun p q _ _ _ _ => by simp, stp, stp, stp, stp, stp, stp, stp, Nat.zero_le _⟩
  ·rintro i st ⟨tm', J, rfl, fr, okJ, hr, e0, e2, e4, e6, e7, e8, e9, hi⟩;have gJ := (fr nx zom).trans g2;have ca2 : zh J ⟨nx, 2, none⟩ (.slice ia a.init.length ic) := ze gJ rfl;by_cases hlt : i < a.init.length
   ·obtain ⟨pi, hpi, gi⟩ := z0g (ha.init.ext (⟨zom, fun j hj => (fr j zom).trans (hx2.2 j hj)⟩ : Ext nx H n2 J) hok) hlt;subst hpi;obtain ⟨s, hs⟩ : ∃ s, a.init[i] = s := ⟨_, rfl⟩;obtain ⟨s0, s1⟩ := ii s (by rw [← hs]; exact List.getElem_mem hlt);rw [hs] at gi;obtain ⟨i1, i2, i3, -⟩ := z33 hN2 s0 s1 s0 s1;rw [hM] at i3;have cC : zh J ⟨C, 0, none⟩ (.slice (some ⟨R0, 0, none⟩) M M) := ze ((fr C hRC.symm).trans gC) rfl;refine zgw ?_;refine z9r ?_;refine zG [16] (K := fun _ HH => HH nx = J nx) z1n krf krf [0, 1, 2, 3, 4, 5, 6, 7, 8, 9, 10, 11, 12, 13, 14, 15, 16] krf rfl ?_;refine z9A ?_;refine zg1 ?_;refine zx (v := .slice (some pi) a.init.length ic) rfl krf zsd rfl (fun HH nn hK => zp evr zxr rfl (by rw [Nat.zero_add]; exact ze (hK.trans gJ) rfl)) ?_;refine zg0 ?_;refine zcm ?_;refine zg5 ?_;refine z9v ?_;refine zg0 ?_
    repeat (first | refine zd (by exact zgq) ?_ | (refine OpsL.nil ?_; (skip)))
    refine zg1 ?_;refine zx (v := .slice (some pi) a.init.length ic) rfl krf zsd rfl (fun HH nn hK => zp evr zxr rfl (by rw [Nat.zero_add]; exact ze (hK.trans gJ) rfl)) ?_;refine zg0 ?_;refine zcm ?_;refine zg5 ?_;refine z9v ?_;refine zfC ?_;refine zcm ?_;refine zg6 ?_;refine z3J (b := R0) (N := N) (p := s) (q := s) evr evr zxr hr hN2 s0 s1 s0 s1 fun J7 hr7 fr7 ok7 => ?_;refine OpsL.nil ⟨fr7 nx zom, ?_⟩;refine zbm ?_;refine ⟨i + 1, ⟨_, _, rfl, fun j hj => (fr7 j hj).trans (fr j hj), ok7 _ okJ, hr7.iff fun p q _ _ _ _ => ?_, stp, stp, stp, stp, stp, stp, stp, zom⟩, zom⟩;rw [List.take_succ_eq_append_getElem hlt, hs];simp only [List.mem_append, List.mem_singleton];constructor
    ·rintro (⟨rfl, rfl⟩ | ⟨rfl, h⟩)
     ·exact ⟨rfl, .inr rfl⟩
     ·exact ⟨rfl, .inl h⟩
    ·rintro ⟨rfl, h | rfl⟩
     ·exact .inr ⟨rfl, h⟩
     ·exact .inl ⟨rfl, rfl⟩
   ·have hie : i = a.init.length := by omega
    subst hie;refine z7b ?_;rw [List.take_length] at hr;exact ⟨rfl, _, _, rfl, fr, okJ, hr, stp, stp, stp, stp, stp, stp⟩
 clear e0 e2;rintro e st ⟨rfl, tm1, J, rfl, fr, okJ, hr, e0, e2, e4, e6, e7, e8⟩;refine z4r ?_;have gJ := (fr nx zom).trans g2;have gCJ := (fr C hRC.symm).trans gC;have hxJ : Ext nx H n2 J := ⟨zom, fun j hj => (fr j zom).trans (hx2.2 j hj)⟩;clear g2 gC hr2 hx2 ok2 fr;refine zg9 ?_;refine Trip.mono (Q := fun e st => e = .exit 2 ∧ ∃ (tm' : Nat → Value) (J : Heap) (m rb : Nat), st = ⟨tm', n, J, m⟩ ∧ Ext nx H m J ∧ (∀ id o, J id = some o → id < m) ∧ J nx = some (.cells (zz a (.slice ia a.init.length ic) (.slice fa a.final.length fc) (.slice oa a.opens.length oc) (.slice ca a.closes.length cc) (.slice na a.inners.length nc)) 0 none false (some 30)) ∧ C < m ∧ rb < m ∧ J C = some (.cells (lvV rb M (z7d ss a w).1.by_) 0 none false (some 90)) ∧ z0L J rb N (z7d ss a w).1.row ∧ tm' 0 = .slice (some la) ss.length lc ∧ tm' 2 = .slice wa w.length wc ∧ tm' 4 = .pointer (some ⟨nx, 0, none⟩) ∧ tm' 6 = .bool false ∧ tm' 7 = .int .i64 (N : Int) ∧ tm' 8 = .pointer (some ⟨C, 0, none⟩)) ?_ ?_
 ·refine zu (fun (i : Nat) st => ∃ (tm' : Nat → Value) (J : Heap) (m rb : Nat) (ob : Option (Nat × Nat)) (uv : Value) (U : List (Nat × Nat × Int)), st = ⟨tm', n, J, m⟩ ∧ Ext nx H m J ∧ nx + 1 ≤ m ∧ (∀ id o, J id = some o → id < m) ∧ J nx = some (.cells (zz a (.slice ia a.init.length ic) (.slice fa a.final.length fc) (.slice oa a.opens.length oc) (.slice ca a.closes.length cc) (.slice na a.inners.length nc)) 0 none false (some 30)) ∧ nx < rb ∧ rb < m ∧ rb ≠ C ∧ C < m ∧ J C = some (.cells (lvV rb M (z7d ss a (w.take i)).1.by_) 0 none false (some 90)) ∧ z0L J rb N (z7d ss a (w.take i)).1.row ∧ zgu J ob uv U ∧ (∀ b t, ob = some (b, t) → nx < b ∧ b < m ∧ b ≠ C ∧ b ≠ rb ∧ ∀ u ∈ U, u.1 ≠ b) ∧ (∀ u ∈ U, nx < u.1 ∧ u.1 < m ∧ u.1 ≠ C) ∧ UndIn J N M U (z7d ss a (w.take i)).2 ∧ U.length ≤ i ∧ tm' 0 = .slice (some la) ss.length lc ∧ tm' 2 = .slice wa w.length wc ∧ tm' 4 = .pointer (some ⟨nx, 0, none⟩) ∧ tm' 6 = .bool false ∧ tm' 7 = .int .i64 (N : Int) ∧ tm' 8 = .pointer (some ⟨C, 0, none⟩) ∧ tm' 10 = uv ∧ tm' 11 = .int .i64 (i : Int) ∧ i ≤ w.length) (fun i => w.length - i) 0 ?_ ?_
  ·exact ⟨_, J, n2, R0, none, .slice none 0 0, [], rfl, hxJ, zom, okJ, gJ, hR3, hR1, hRC, hC1, gCJ, hr, ⟨rfl, rfl, rfl⟩, fun _ _ h => (by cases h), fun _ h => (by cases h), AllR.nil, by simp, stp, stp, stp, stp, stp, stp, stp, stp, Nat.zero_le _⟩
  ·clear e0 e2 e4 e6 e7 e8 hr gJ gCJ hxJ okJ hR3 hR1 hRC hC1 hle2;rintro i st ⟨tm', J, m, rb, ob, uv, U, rfl, hxJ, hlem, okJ, gJ, hrb3, hrb1, hrbC, hC1, gCJ, hr, hU, hob, hUb, hUn, hUl, e0, e2, e4, e6, e7, e8, e10, e11, hi⟩;by_cases hlw : i < w.length
   ·obtain ⟨pw, hpw, cw⟩ := z0g (hwv.ext hxJ hok) hlw;obtain ⟨x, hx⟩ : ∃ x, w[i] = x := ⟨_, rfl⟩;obtain ⟨y0, y1⟩ := hw x (by rw [← hx]; exact List.getElem_mem hlw);rw [hx] at cw;have hstep : z7d ss a (w.take (i + 1)) = z4y ss a (z7d ss a (w.take i)) x := by rw [List.take_succ_eq_append_getElem hlw, zdg, hx]
    obtain ⟨cur, hcur⟩ : ∃ c, z7d ss a (w.take i) = c := ⟨_, rfl⟩;rw [hcur] at hr hUn hstep gCJ;obtain ⟨now, und⟩ := cur;dsimp only at hr hUn gCJ;have hls := z1r hxJ hok (hl x.toNat zom);have hk1 : zh J ⟨la.block, la.off + x.toNat * 2 + 1, la.spot⟩ (.int .i64 ss[x.toNat].2) := z2W hls;refine z4s ?_;refine z6z ?_;refine zgE ?_;refine z0H ?_
    repeat (first | (refine zd (by first | exact omv | exact z2Z | exact old | exact z1D) ?_) | refine zA ?_)
    refine z3K ?_;refine zcx ?_;refine z0h ?_
    repeat (first | refine Trip.seq ?_ | (refine Trip.skip ?_; (change Trip _ _ _ _ _)))
    refine Trip.mono (Q := fun e st => e = .normal ∧ ∃ (tm' : Nat → Value) (X B m2 : Nat) (J2 : Heap), st = ⟨tm', n, J2, m2⟩ ∧ Ext m J m2 J2 ∧ (∀ id o, J2 id = some o → id < m2) ∧ m ≤ X ∧ X < m2 ∧ m ≤ B ∧ B < m2 ∧ X ≠ B ∧ J2 X = some (.cells (lvV B M now.by_) 0 none false (some 90)) ∧ z0L J2 B N (fun _ _ => False) ∧ tm' 0 = .slice (some la) ss.length lc ∧ tm' 2 = .slice wa w.length wc ∧ tm' 4 = .pointer (some ⟨nx, 0, none⟩) ∧ tm' 6 = .bool false ∧ tm' 7 = .int .i64 (N : Int) ∧ tm' 8 = .pointer (some ⟨C, 0, none⟩) ∧ tm' 10 = uv ∧ tm' 11 = .int .i64 (i : Int) ∧ tm' 12 = .pointer (some ⟨X, 0, none⟩)) ?_ ?_
    ·refine zG [3, 6, 7, 8] (K := fun nx1 H1 => Ext m J nx1 H1) z1n krf krf [0, 1, 2, 4, 5, 3, 7, 6, 8] krf Ext.refl ?_;refine z5w ?_;refine zg0 ?_;refine zd (v := .int .i64 (M : Int)) (by rw [← hMi]; exact z7m evd evd (by rw [hMi]; omega)) ?_;refine OpsL.nil ?_;refine zg1 ?_;refine zx (v := .int .i64 now.by_) rfl krf zsd Ext.refl (fun HH nn hK => zp evr zxr rfl (by rw [Nat.zero_add]; exact ze ((hK.2 C hC1).trans gCJ) rfl)) ?_;refine z07 krf ?_ ?_
     ·refine zt rfl rfl ?_;refine OpsL.new (v := .slice (some ⟨m, 0, none⟩) M M) (o := (.cells (rep M [.bool false]) 1 none false (some 4))) zsd (z0l evd evd (z09 (el := 4) zxr zxr zxr zxr zom)) ?_;obtain ⟨HL1, hHL1⟩ : ∃ Q, Q = J.put m (.cells (rep M [.bool false]) 1 none false (some 4)) := ⟨_, rfl⟩;obtain ⟨nL1, hnL1⟩ : ∃ q, q = m + 1 := ⟨_, rfl⟩;have xL1 : Ext m J nL1 HL1 := by rw [hnL1, hHL1]; exact zj
      have kL1 : ∀ id o, HL1 id = some o → id < nL1 := by rw [hHL1, hnL1]; exact zF okJ
      have fL1 : Ext m J nL1 HL1 := (Ext.refl : Ext m J m J).trans xL1;have lL1 := xL1.1;have rL1 : z0L HL1 m N (fun _ _ => False) := by rw [hHL1]; exact LRow.new hM.symm
      rw [← hHL1, ← hnL1];clear hHL1;refine OpsL.nil ⟨fL1, ?_⟩;refine z07 krf ?_ ?_
      ·refine zt rfl rfl ?_;refine OpsL.new zsd (zD (l := z19) krf) ?_;obtain ⟨HL2, hHL2⟩ : ∃ Q, Q = HL1.put nL1 (.cells z19 0 none false (some 90)) := ⟨_, rfl⟩;obtain ⟨nL2, hnL2⟩ : ∃ q, q = nL1 + 1 := ⟨_, rfl⟩;have xL2 : Ext nL1 HL1 nL2 HL2 := by rw [hnL2, hHL2]; exact zj
       have kL2 : ∀ id o, HL2 id = some o → id < nL2 := by rw [hHL2, hnL2]; exact zF kL1
       have fL2 : Ext m J nL2 HL2 := fL1.trans xL2;have lL2 := xL2.1;have gL2 : HL2 nL1 = some (.cells z19 0 none false (some 90)) := by rw [hHL2, zb]
       have rL2 := rL1.same (xL2.2 m zom);rw [← hHL2, ← hnL2];clear hHL2;refine OpsL.nil ⟨fL2, ?_⟩;refine zg6 ?_;refine zd (zC (v := .agg (lvV m M now.by_).toArray) (l := [(0, .slice (some ⟨m, 0, none⟩) M M), (1, .int .i64 now.by_)]) zep krf) ?_;refine OpsL.nil ⟨fL2, ?_⟩;refine zg6 ?_;refine OpsL.upd (zw (k := 2) (u := .agg (lvV m M now.by_).toArray) evd evd zxr rfl (o := .cells (lvV m M now.by_) 0 none false (some 90)) (zE (vs := lvV m M now.by_) gL2 rfl rfl)) ?_;have eS : Ext m J nL2 (HL2.put nL1 (.cells (lvV m M now.by_) 0 none false (some 90))) := ⟨zom, fun j hj => by rw [za zom]; exact fL2.2 j hj⟩;refine OpsL.nil ⟨eS, ?_⟩;refine z0M ?_;exact ⟨rfl, _, nL1, m, _, _, rfl, eS, zV kL2 gL2, zom, zom, zom, zom, zom, zb, rL2.same (za (by first | omega | (dsimp only; omega))), stp, stp, stp, stp, stp, stp, stp, stp, stp⟩
      ·refine zt rfl rfl ?_;refine zd (zC (v := .agg (lvV m M now.by_).toArray) (l := [(0, .slice (some ⟨m, 0, none⟩) M M), (1, .int .i64 now.by_)]) zep krf) ?_;refine OpsL.nil ⟨fL1, ?_⟩;refine zg6 ?_;refine OpsL.new zsd (zD (l := z19) krf) ?_;obtain ⟨HL3, hHL3⟩ : ∃ Q, Q = HL1.put nL1 (.cells z19 0 none false (some 90)) := ⟨_, rfl⟩;obtain ⟨nL3, hnL3⟩ : ∃ q, q = nL1 + 1 := ⟨_, rfl⟩;have xL3 : Ext nL1 HL1 nL3 HL3 := by rw [hnL3, hHL3]; exact zj
       have kL3 : ∀ id o, HL3 id = some o → id < nL3 := by rw [hHL3, hnL3]; exact zF kL1
       have fL3 : Ext m J nL3 HL3 := fL1.trans xL3;have lL3 := xL3.1;have gL3 : HL3 nL1 = some (.cells z19 0 none false (some 90)) := by rw [hHL3, zb]
       have rL3 := rL1.same (xL3.2 m zom);rw [← hHL3, ← hnL3];clear hHL3;refine OpsL.nil ⟨fL3, ?_⟩;refine zg6 ?_;refine OpsL.upd (zw (k := 2) (u := .agg (lvV m M now.by_).toArray) evd evd zxr rfl (o := .cells (lvV m M now.by_) 0 none false (some 90)) (zE (vs := lvV m M now.by_) gL3 rfl rfl)) ?_;have eS : Ext m J nL3 (HL3.put nL1 (.cells (lvV m M now.by_) 0 none false (some 90))) := ⟨zom, fun j hj => by rw [za zom]; exact fL3.2 j hj⟩;refine OpsL.nil ⟨eS, ?_⟩;refine z0M ?_;exact ⟨rfl, _, nL1, m, _, _, rfl, eS, zV kL3 gL3, zom, zom, zom, zom, zom, zb, rL3.same (za (by first | omega | (dsimp only; omega))), stp, stp, stp, stp, stp, stp, stp, stp, stp⟩
     ·refine zt rfl rfl ?_;refine OpsL.new zsd (zD (l := z19) krf) ?_;obtain ⟨HL4, hHL4⟩ : ∃ Q, Q = J.put m (.cells z19 0 none false (some 90)) := ⟨_, rfl⟩;obtain ⟨nL4, hnL4⟩ : ∃ q, q = m + 1 := ⟨_, rfl⟩;have xL4 : Ext m J nL4 HL4 := by rw [hnL4, hHL4]; exact zj
      have kL4 : ∀ id o, HL4 id = some o → id < nL4 := by rw [hHL4, hnL4]; exact zF okJ
      have fL4 : Ext m J nL4 HL4 := (Ext.refl : Ext m J m J).trans xL4;have lL4 := xL4.1;have gL4 : HL4 m = some (.cells z19 0 none false (some 90)) := by rw [hHL4, zb]
      rw [← hHL4, ← hnL4];clear hHL4;refine OpsL.nil ⟨fL4, ?_⟩;refine zg6 ?_;refine OpsL.new (v := .slice (some ⟨nL4, 0, none⟩) M M) (o := (.cells (rep M [.bool false]) 1 none false (some 4))) zsd (z0l evd evd (z09 (el := 4) zxr zxr zxr zxr zom)) ?_;obtain ⟨HL5, hHL5⟩ : ∃ Q, Q = HL4.put nL4 (.cells (rep M [.bool false]) 1 none false (some 4)) := ⟨_, rfl⟩;obtain ⟨nL5, hnL5⟩ : ∃ q, q = nL4 + 1 := ⟨_, rfl⟩;have xL5 : Ext nL4 HL4 nL5 HL5 := by rw [hnL5, hHL5]; exact zj
      have kL5 : ∀ id o, HL5 id = some o → id < nL5 := by rw [hHL5, hnL5]; exact zF kL4
      have fL5 : Ext m J nL5 HL5 := fL4.trans xL5;have lL5 := xL5.1;have rL5 : z0L HL5 nL4 N (fun _ _ => False) := by rw [hHL5]; exact LRow.new hM.symm
      have gL5 := (xL5.2 m zom).trans gL4;rw [← hHL5, ← hnL5];clear hHL5;refine OpsL.nil ⟨fL5, ?_⟩;refine zg6 ?_;refine zd (zC (v := .agg (lvV nL4 M now.by_).toArray) (l := [(0, .slice (some ⟨nL4, 0, none⟩) M M), (1, .int .i64 now.by_)]) zep krf) ?_;refine OpsL.nil ⟨fL5, ?_⟩;refine zg6 ?_;refine OpsL.upd (zw (k := 2) (u := .agg (lvV nL4 M now.by_).toArray) evd evd zxr rfl (o := .cells (lvV nL4 M now.by_) 0 none false (some 90)) (zE (vs := lvV nL4 M now.by_) gL5 rfl rfl)) ?_;have eS : Ext m J nL5 (HL5.put m (.cells (lvV nL4 M now.by_) 0 none false (some 90))) := ⟨zom, fun j hj => by rw [za zom]; exact fL5.2 j hj⟩;refine OpsL.nil ⟨eS, ?_⟩;refine z0M ?_;exact ⟨rfl, _, m, nL4, _, _, rfl, eS, zV kL5 gL5, zom, zom, zom, zom, zom, zb, rL5.same (za (by first | omega | (dsimp only; omega))), stp, stp, stp, stp, stp, stp, stp, stp, stp⟩
    clear e0 e2 e4 e6 e7 e8 e10 e11;rintro e st ⟨rfl, tm2, X, B, m2, J2, rfl, x2, ok2, hX0, hX1, hB0, hB1, hXB, hX2, hB2, e0, e2, e4, e6, e7, e8, e10, e11, e12⟩
    (change Trip _ _ _ _ _)
    have hlem2 := x2.1;have h02 := (x2.2 nx zom).trans gJ;have hC2 := (x2.2 C hC1).trans gCJ;have hrow2 := hr.same (x2.2 rb hrb1);have hx2 := hxJ.trans x2;have hCB : C ≠ B := by omega
    have hrbB : rb ≠ B := by omega
    have hU2 : zgu J2 ob uv U := OwnOf.ext x2 (fun b t h => (hob b t h).2.1) hU;have hUn2 : UndIn J2 N M U und := hUn.same fun u hu => x2.2 _ (hUb u hu).2.1;have cw2 : zh J2 ⟨pw.block, pw.off + (i : Int).toNat * 1, pw.spot⟩ (.int .i64 x) := zN x2 okJ cw;have hk2 : zh J2 ⟨la.block, la.off + x.toNat * 2 + 1, la.spot⟩ (.int .i64 ss[x.toNat].2) := zN x2 okJ hk1;clear gJ gCJ hr hU hUn hxJ okJ hk1 hls cw;refine zfl ?_;refine zd (zp evr zxr rfl cw2) ?_
    repeat (refine zd (by first | exact z2Z | exact ofa) ?_)
    refine zd (zp evr zxr rfl hk2) ?_;refine OpsL.nil ?_
    (change Trip _ _ _ _ _)
    refine Trip.mono (Q := fun e st => e = .normal ∧ ∃ (tm' : Nat → Value) (J3 : Heap) (m3 : Nat) (ob' : Option (Nat × Nat)) (uv' : Value) (U' : List (Nat × Nat × Int)) (Bn : Nat), st = ⟨tm', n, J3, m3⟩ ∧ Ext nx H m3 J3 ∧ m2 ≤ m3 ∧ (∀ id o, J3 id = some o → id < m3) ∧ J3 nx = some (.cells (zz a (.slice ia a.init.length ic) (.slice fa a.final.length fc) (.slice oa a.opens.length oc) (.slice ca a.closes.length cc) (.slice na a.inners.length nc)) 0 none false (some 30)) ∧ J3 C = some (.cells (lvV rb M now.by_) 0 none false (some 90)) ∧ J3 X = some (.cells (lvV Bn M (z4y ss a (now, und) x).1.by_) 0 none false (some 90)) ∧ nx < Bn ∧ Bn < m3 ∧ Bn ≠ C ∧ z0L J3 Bn N (z4y ss a (now, und) x).1.row ∧ zgu J3 ob' uv' U' ∧ (∀ b t, ob' = some (b, t) → nx < b ∧ b < m3 ∧ b ≠ C ∧ b ≠ Bn ∧ ∀ u ∈ U', u.1 ≠ b) ∧ (∀ u ∈ U', nx < u.1 ∧ u.1 < m3 ∧ u.1 ≠ C) ∧ UndIn J3 N M U' (z4y ss a (now, und) x).2 ∧ U'.length ≤ i + 1 ∧ tm' 0 = .slice (some la) ss.length lc ∧ tm' 2 = .slice wa w.length wc ∧ tm' 4 = .pointer (some ⟨nx, 0, none⟩) ∧ tm' 6 = .bool false ∧ tm' 7 = .int .i64 (N : Int) ∧ tm' 8 = .pointer (some ⟨C, 0, none⟩) ∧ tm' 10 = uv' ∧ tm' 11 = .int .i64 (i : Int) ∧ tm' 12 = .pointer (some ⟨X, 0, none⟩)) ?_ ?_
    ·by_cases k1 : ss[x.toNat].2 = 1
     ·have kk : z4y ss a (now, und) x = (zfG a now x, now :: und) := by
       have h1 : kdF ss x 1 = true := by rw [ze4 y0 y1]; simpa using k1
       simp only [z4y, h1, if_true]
      rw [kk]
      repeat (first | refine Trip.seq ?_ | refine zk ?_ | refine Trip.block ?_)
      refine z0d ?_ (c := k1);refine zdW ?_;refine z11 ?_;refine zg9 ?_;refine Trip.mono (Q := fun e st => e = .exit 9 ∧ ∃ (tm' : Nat → Value) (m' : Nat) (J' : Heap), st = ⟨tm', n, J', m'⟩ ∧ m2 ≤ m' ∧ (∀ j, j < m2 → j ≠ B → J' j = J2 j) ∧ (∀ id o, J' id = some o → id < m') ∧ z0L J' B N (fun p q => (∃ r ∈ a.opens, (r.2.1 = x ∧ p = r.2.2.1 ∧ r.2.2.1 = q ∧ ∃ p1 : Int, 0 ≤ p1 ∧ p1 < (N : Int) ∧ now.row p1 r.1))) ∧ tm' 0 = .slice (some la) ss.length lc ∧ tm' 2 = .slice wa w.length wc ∧ tm' 4 = .pointer (some ⟨nx, 0, none⟩) ∧ tm' 6 = .bool false ∧ tm' 7 = .int .i64 (N : Int) ∧ tm' 8 = .pointer (some ⟨C, 0, none⟩) ∧ tm' 10 = uv ∧ tm' 11 = .int .i64 (i : Int) ∧ tm' 12 = .pointer (some ⟨X, 0, none⟩)) ?_ ?_
      ·refine zu (fun (k : Nat) st => ∃ (tm' : Nat → Value) (m' : Nat) (J' : Heap), st = ⟨tm', n, J', m'⟩ ∧ m2 ≤ m' ∧ (∀ j, j < m2 → j ≠ B → J' j = J2 j) ∧ (∀ id o, J' id = some o → id < m') ∧ z0L J' B N (fun p q => (∃ r ∈ a.opens.take k, (r.2.1 = x ∧ p = r.2.2.1 ∧ r.2.2.1 = q ∧ ∃ p1 : Int, 0 ≤ p1 ∧ p1 < (N : Int) ∧ now.row p1 r.1))) ∧ tm' 0 = .slice (some la) ss.length lc ∧ tm' 2 = .slice wa w.length wc ∧ tm' 4 = .pointer (some ⟨nx, 0, none⟩) ∧ tm' 6 = .bool false ∧ tm' 7 = .int .i64 (N : Int) ∧ tm' 8 = .pointer (some ⟨C, 0, none⟩) ∧ tm' 10 = uv ∧ tm' 11 = .int .i64 (i : Int) ∧ tm' 12 = .pointer (some ⟨X, 0, none⟩) ∧ tm' 13 = .int .i64 k ∧ k ≤ a.opens.length) (fun k => a.opens.length - k) 0 ?_ ?_
       ·exact ⟨_, _, _, rfl, Nat.le_refl _, fun _ _ _ => rfl, ok2, hB2.iff fun p q _ _ _ _ => by simp, stp, stp, stp, stp, stp, stp, stp, stp, stp, stp, Nat.zero_le _⟩
       ·clear e0 e2 e4 e6 e7 e8 e10 e11 e12;rintro k st ⟨tm', m', J', rfl, hm', fr', okJ', hr', e0, e2, e4, e6, e7, e8, e10, e11, e12, e13, hk⟩;have hJ0 := (fr' nx zom zom).trans h02;have caf : zh J' ⟨nx, 4, none⟩ (.slice oa a.opens.length oc) := ze hJ0 rfl;by_cases hlk : k < a.opens.length
        ·have hxJ' : Ext nx H m' J' := ⟨zom, fun j hj => (fr' j zom zom).trans (hx2.2 j hj)⟩;obtain ⟨pr, hpr, gr⟩ := zX (ha.ext hxJ' hok).opens hlk;subst hpr;obtain ⟨r, hrr⟩ : ∃ r, a.opens[k] = r := ⟨_, rfl⟩;have hrm : r ∈ a.opens := by rw [← hrr]; exact List.getElem_mem hlk
         obtain ⟨⟨f0, f1⟩, t0, t1⟩ := io r hrm;rw [hrr] at gr;refine zg8 ?_;refine zd (zg (k := 4) (vs := Go.Am.e4 r) evr zxr rfl zxr gr) ?_;refine OpsL.new zsd (zD (l := [.int .i64 0, .int .i64 0, .int .i64 0, .int .i64 0]) krf) ?_;refine OpsL.upd (zw (k := 4) (u := .agg (Go.Am.e4 r).toArray) evd evd zxr rfl (o := .cells (Go.Am.e4 r) 0 none false (some 43)) (zE (vs := (Go.Am.e4 r)) zb rfl rfl)) ?_;obtain ⟨G5, hG5⟩ : ∃ G0, G0 = (J'.put m' (.cells [.int .i64 0, .int .i64 0, .int .i64 0, .int .i64 0] 0 none false (some 43))).put m' (.cells (Go.Am.e4 r) 0 none false (some 43)) := ⟨_, rfl⟩;have xG5 : Ext m' J' (m' + 1) G5 := ⟨Nat.le_succ _, fun j hj => by rw [hG5, za zom, za zom]⟩;have kG5 : ∀ id o, G5 id = some o → id < m' + 1 := by rw [hG5]; exact zV (zF okJ') zb
         have bG5 : G5 m' = some (.cells (Go.Am.e4 r) 0 none false (some 43)) := by rw [hG5, zb]
         first | rw [← hG5] | skip
         clear hG5;clear gr caf;have hX5 := (xG5.2 X zom).trans ((fr' X zom hXB).trans hX2);have h05 := (xG5.2 nx zom).trans hJ0;have hC5 := (xG5.2 C zom).trans ((fr' C zom hCB).trans hC2);have hr5 := hr'.same (xG5.2 B zom);have hx5 := hxJ'.trans xG5;have fr5 : ∀ j, j < m2 → j ≠ B → G5 j = J2 j := fun j h1 h2 => (xG5.2 j zom).trans (fr' j h1 h2);have hw5 : z0L G5 rb N now.row := hrow2.same (fr5 rb zom hrbB);clear hr' hJ0 hxJ';refine zg9 ?_;refine Trip.mono (Q := fun e st => e = .exit 11 ∧ ∃ (tm' : Nat → Value) (J6 : Heap), st = ⟨tm', n, J6, m' + 1⟩ ∧ (∀ j, j ≠ B → J6 j = G5 j) ∧ (∀ id o, J6 id = some o → id < m' + 1) ∧ z0L J6 B N (fun p q => (∃ r ∈ a.opens.take k, (r.2.1 = x ∧ p = r.2.2.1 ∧ r.2.2.1 = q ∧ ∃ p1 : Int, 0 ≤ p1 ∧ p1 < (N : Int) ∧ now.row p1 r.1)) ∨ (r.2.1 = x ∧ p = r.2.2.1 ∧ r.2.2.1 = q ∧ ∃ p1 : Int, 0 ≤ p1 ∧ p1 < (N : Int) ∧ now.row p1 r.1)) ∧ tm' 0 = .slice (some la) ss.length lc ∧ tm' 2 = .slice wa w.length wc ∧ tm' 4 = .pointer (some ⟨nx, 0, none⟩) ∧ tm' 6 = .bool false ∧ tm' 7 = .int .i64 (N : Int) ∧ tm' 8 = .pointer (some ⟨C, 0, none⟩) ∧ tm' 10 = uv ∧ tm' 11 = .int .i64 (i : Int) ∧ tm' 12 = .pointer (some ⟨X, 0, none⟩) ∧ tm' 13 = .int .i64 (k : Int) ∧ tm' 14 = .pointer (some ⟨m', 0, none⟩)) ?_ ?_
         ·refine zu (fun (P : Nat) st => ∃ (tm' : Nat → Value) (J6 : Heap), st = ⟨tm', n, J6, m' + 1⟩ ∧ (∀ j, j ≠ B → J6 j = G5 j) ∧ (∀ id o, J6 id = some o → id < m' + 1) ∧ z0L J6 B N (fun p q => (∃ r ∈ a.opens.take k, (r.2.1 = x ∧ p = r.2.2.1 ∧ r.2.2.1 = q ∧ ∃ p1 : Int, 0 ≤ p1 ∧ p1 < (N : Int) ∧ now.row p1 r.1)) ∨ (r.2.1 = x ∧ p = r.2.2.1 ∧ r.2.2.1 = q ∧ ∃ p1 : Int, 0 ≤ p1 ∧ p1 < (P : Int) ∧ now.row p1 r.1)) ∧ tm' 0 = .slice (some la) ss.length lc ∧ tm' 2 = .slice wa w.length wc ∧ tm' 4 = .pointer (some ⟨nx, 0, none⟩) ∧ tm' 6 = .bool false ∧ tm' 7 = .int .i64 (N : Int) ∧ tm' 8 = .pointer (some ⟨C, 0, none⟩) ∧ tm' 10 = uv ∧ tm' 11 = .int .i64 (i : Int) ∧ tm' 12 = .pointer (some ⟨X, 0, none⟩) ∧ tm' 13 = .int .i64 (k : Int) ∧ tm' 14 = .pointer (some ⟨m', 0, none⟩) ∧ tm' 15 = .int .i64 P ∧ P ≤ N) (fun P => N - P) 0 ?_ ?_
          ·refine ⟨_, _, rfl, fun _ _ => rfl, kG5, hr5.iff fun p q p0 _ _ _ => ?_, stp, stp, stp, stp, stp, stp, stp, stp, stp, stp, stp, stp, Nat.zero_le _⟩;have hno : ¬ ∃ p1 : Int, 0 ≤ p1 ∧ p1 < ((0 : Nat) : Int) ∧ now.row p1 r.1 := fun ⟨p1, q0, q1, _⟩ => by omega
           simp only [hno, and_false, or_false]
          ·clear e0 e2 e4 e6 e7 e8 e10 e11 e12;rintro P st ⟨tm', J6, rfl, fr6, ok6, hr6, e0, e2, e4, e6, e7, e8, e10, e11, e12, e13, e14, e15, hP⟩;have c6C : zh J6 ⟨C, 0, none⟩ (.slice (some ⟨rb, 0, none⟩) M M) := ze ((fr6 C hCB).trans hC5) rfl;have c6X : zh J6 ⟨X, 0, none⟩ (.slice (some ⟨B, 0, none⟩) M M) := ze ((fr6 X hXB).trans hX5) rfl;have c60 : zh J6 ⟨m', 0, none⟩ (.int .i64 r.1) := ze ((fr6 m' zom).trans bG5) rfl;have c61 : zh J6 ⟨m', 1, none⟩ (.int .i64 r.2.1) := ze ((fr6 m' zom).trans bG5) rfl;have c6t : zh J6 ⟨m', 2, none⟩ (.int .i64 r.2.2.1) := ze ((fr6 m' zom).trans bG5) rfl;obtain ⟨pw', hpw', cw⟩ := z0g (hwv.ext (⟨zom, fun j hj => (fr6 j zom).trans (hx5.2 j hj)⟩ : Ext nx H (m' + 1) J6) hok) hlw;obtain rfl : pw' = pw := by rw [hpw] at hpw'; exact (Option.some.inj hpw').symm
           rw [hx] at cw;by_cases hlp : P < N
           case neg =>
            have hPN : P = N := by omega
            subst hPN;refine z41 ?_;refine OpsK.drawn (K := fun _ _ => True) z1n krf krf trivial ?_;refine zfw ?_;refine zaC ?_;refine OpsK.nil ?_
            (change Trip _ _ _ _ _)
            repeat fail
            refine z6y ?_;exact ⟨rfl, _, _, rfl, fr6, ok6, hr6, stp, stp, stp, stp, stp, stp, stp, stp, stp, stp, stp⟩
           case pos =>
            by_cases hs : r.2.1 = x
            case neg =>
             refine z41 ?_;refine OpsK.drawn (K := fun _ _ => True) z1n krf krf trivial ?_;refine zfj ?_;refine z0e ?_ (c := hs);refine z9B ?_
             (change Trip _ _ _ _ _)
             repeat fail
             refine z6y ?_;exact ⟨rfl, _, _, rfl, fr6, ok6, hr6.iff fun p q _ _ _ _ => by simp only [hs, false_and], stp, stp, stp, stp, stp, stp, stp, stp, stp, stp, stp⟩
            case pos =>
             obtain ⟨y, hyc, hyS⟩ := (hw5.same (fr6 rb hrbB)).get (p := (P : Int)) hN2 zom zom f0 f1;obtain ⟨j1, j2, j3, -⟩ := z33 (p := (P : Int)) hN2 zom zom f0 f1;obtain ⟨k1, k2, k3, -⟩ := z33 (p := r.2.2.1) hN2 t0 t1 t0 t1;rw [hM] at j3 k3;refine z41 ?_;refine OpsK.drawn (K := fun _ _ => True) z1n krf krf trivial ?_;refine zfj ?_;refine z0d ?_ (c := hs);refine z9B ?_
             (change Trip _ _ _ _ _)
             repeat fail
             refine zhR ?_;cases y with
             | false =>
              have hno : ¬ now.row (P : Int) r.1 := fun q => by have := hyS.2 q; cases this
              refine zg4 ?_;exact ⟨P + 1, ⟨_, _, rfl, fr6, ok6, hr6.iff fun p q p0 _ _ _ => by rw [zfK]; simp only [hno, or_false], stp, stp, stp, stp, stp, stp, stp, stp, stp, stp, stp, stp, zom⟩, zom⟩
             | true =>
              have hys : now.row (P : Int) r.1 := hyS.1 rfl;refine zhJ ?_;refine z3J (b := B) (N := N) (p := r.2.2.1) (q := r.2.2.1) evr evr zxr hr6 hN2 t0 t1 t0 t1 fun J7 hr7 fr7 ok7 => ?_;refine zg7 ?_;refine ⟨P + 1, ⟨_, _, rfl, fun j hj => (fr7 j hj).trans (fr6 j hj), ok7 _ ok6, hr7.iff fun p q p0 _ _ _ => ?_, stp, stp, stp, stp, stp, stp, stp, stp, stp, stp, stp, stp, zom⟩, zom⟩;rw [zfK];constructor
              ·rintro (⟨h1, h2⟩ | hb | ⟨h1, h2, h3, h4⟩)
               ·exact .inr ⟨hs, h1, h2.symm, .inr hys⟩
               ·exact .inl hb
               ·exact .inr ⟨h1, h2, h3, .inl h4⟩
              ·rintro (hb | ⟨h1, h2, h3, h4⟩)
               ·exact .inr (.inl hb)
               ·exact .inl ⟨h2, h3.symm⟩
         rintro e st ⟨rfl, tm6, J6, rfl, fr6, ok6, hr6, e0, e2, e4, e6, e7, e8, e10, e11, e12, e13, e14⟩;refine zgx ?_;exact ⟨k + 1, ⟨_, _, _, rfl, zom, fun j h1 h2 => (fr6 j h2).trans (fr5 j h1 h2), ok6, hr6.iff fun p q _ _ _ _ => by rw [z2S hlk, hrr], stp, stp, stp, stp, stp, stp, stp, stp, stp, stp, zom⟩, zom⟩
        ·have hke : k = a.opens.length := by omega
         subst hke;refine z7b ?_;rw [List.take_length] at hr';exact ⟨rfl, _, _, _, rfl, hm', fr', okJ', hr', stp, stp, stp, stp, stp, stp, stp, stp, stp⟩
      rintro e st ⟨rfl, tm3, m3, J3, rfl, hm3, fr3, ok3, hr3, e0, e2, e4, e6, e7, e8, e10, e11, e12⟩;refine z4r ?_
      repeat fail
      have hX3 := (fr3 X zom hXB).trans hX2;have hC3 := (fr3 C zom hCB).trans hC2;have h03 := (fr3 nx zom zom).trans h02;have hU3 : zgu J3 ob uv U := OwnRow.same (fun b t h => fr3 b (by have := hob b t h; omega) (by have := hob b t h; omega)) hU2;have hUn3 : UndIn J3 N M U und := hUn2.same fun u hu => fr3 _ (by have := hUb u hu; omega) (by have := hUb u hu; omega);have hrow3 := hrow2.same (fr3 rb zom hrbB);have hx3 : Ext nx H m3 J3 := ⟨zom, fun j hj => (fr3 j zom zom).trans (hx2.2 j hj)⟩
      have cw3 : zh H ⟨pw.block, pw.off + (i : Int).toNat * 1, pw.spot⟩ (.int .i64 x) := by
       obtain ⟨p', hp', cw'⟩ := z0g hwv hlw;obtain rfl : p' = pw := by rw [hpw] at hp'; exact (Option.some.inj hp').symm
       rw [← hx]; exact cw'
      refine zG [2, 3, 8, 10] (K := fun _ HH => ∀ j, j < nx → HH j = H j) z1n krf krf [0, 1, 4, 5, 6, 7, 2, 3, 8, 9, 10] krf hx3.2 ?_;refine z5w ?_;refine zg5 ?_;refine zd (zg (k := 2) (vs := lvV rb M now.by_) evd zxr rfl zxr (zH hC3 rfl)) ?_;refine OpsL.nil ?_;refine z5z ?_;refine z3C ?_;refine zx (v := .int .i64 x) rfl krf zsd hx3.2 (fun HH nn hK => zp evr zxr rfl (zN (⟨Nat.le_refl _, hK⟩ : Ext nx H nx HH) hok cw3)) ?_;refine zg6 ?_;refine OpsL.new zsd (zq (l := [(0, .agg (lvV rb M now.by_).toArray)]) (r := (.slice (some ⟨m3, 0, none⟩) 1 1, .new (.cells (lvV rb M now.by_) 2 none false (some 90)))) zep krf) ?_;have hx4 : Ext m3 J3 (m3 + 1) (J3.put m3 (.cells (lvV rb M now.by_) 2 none false (some 90))) := zj;have ok4 := zF (o := .cells (lvV rb M now.by_) 2 none false (some 90)) ok3
      have hone : RowsAt zf2 2 (J3.put m3 (.cells (lvV rb M now.by_) 2 none false (some 90))) (.slice (some ⟨m3, 0, none⟩) 1 1) [(rb, M, now.by_)] := by
       refine .inr ⟨⟨m3, 0, none⟩, 1, rfl, fun j hj => ?_⟩;have : j = 0 := by simpa using hj
       subst this;exact z01 (by show 0 + 2 ≤ 2; decide)
      generalize J3.put m3 (.cells (lvV rb M now.by_) 2 none false (some 90)) = J4 at *;refine OpsL.nil ⟨(hx3.trans hx4).2, ?_⟩;refine zg6 ?_;refine zO (bytes := 32) (z := [.slice none 0 0, .int .i64 0]) z5K zeD zom zsd (OwnOf.ext hx4 (fun b t h => by have := (hob b t h).2; omega) hU3) hone evd evd (fun b t h => by have := (hob b t h).2; omega) zxr zxr zxr zxr zxr rfl (by simp; omega) zom ?_;intro uv5 m5 J5 ob5 hA5;have hle5 := hA5.le;have hs5 : ∀ j, j < m3 → (∀ b t, ob = some (b, t) → j ≠ b) → J5 j = J3 j := fun j h1 h2 => (hA5.same j zom h2).trans (hx4.2 j zom);have hx5 : Ext nx H m5 J5 := ⟨zom, fun j hj => (hs5 j zom (fun b t h => by have := hob b t h; omega)).trans (hx3.2 j hj)⟩;refine OpsL.nil ⟨hx5.2, ?_⟩;refine zg6 ?_;refine zd z0y ?_;refine OpsL.nil ⟨hx5.2, ?_⟩;have hXo : ∀ b t, ob = some (b, t) → X ≠ b := fun b t h => by have := hob b t h; omega
      have hBo : ∀ b t, ob = some (b, t) → B ≠ b := fun b t h => by have := hob b t h; omega
      have hX5 := (hs5 X zom hXo).trans hX3;refine zbl ?_;refine OpsL.storeAt 1 (cs' := lvV B M x) evr evr zxr rfl rfl hX5 rfl (by simp [lvV]) rfl ?_;refine OpsL.nil ⟨fun j hj => by dsimp only; rw [za zom]; exact hx5.2 j hj, ?_⟩;refine z0M ?_
      ((repeat (refine zQ ?_)); dsimp only)
      repeat fail
      have hb5 : ∀ b t, ob5 = some (b, t) → b < m5 ∧ (b = m3 + 1 ∨ ∃ t', ob = some (b, t')) := hA5.blk
      have hb5' : ∀ b t, ob5 = some (b, t) → nx < b ∧ b < m5 ∧ b ≠ C ∧ b ≠ B ∧ b ≠ X ∧ ∀ u ∈ U ++ [(rb, M, now.by_)], u.1 ≠ b := fun b t h => by
       obtain ⟨i1, i2⟩ := hb5 b t h;rcases i2 with rfl | ⟨t', h'⟩
       ·refine ⟨zom, i1, zom, zom, zom, fun u hu => ?_⟩;rcases List.mem_append.1 hu with hu | hu
        ·have := hUb u hu; omega
        ·rw [List.mem_singleton] at hu; subst hu; show rb ≠ _; omega
       ·obtain ⟨j1, j2, j3, j4, j5⟩ := hob b t' h';refine ⟨j1, i1, j3, zom, zom, fun u hu => ?_⟩;rcases List.mem_append.1 hu with hu | hu
        ·exact j5 u hu
        ·rw [List.mem_singleton] at hu; subst hu; exact fun e => j4 e.symm
      refine ⟨rfl, _, _, m5, ob5, uv5, U ++ [(rb, M, now.by_)], B, rfl, ⟨zom, fun j hj => by rw [za zom]; exact hx5.2 j hj⟩, zom, zV (hA5.ok (fun b t h => by have := hob b t h; omega) ok4) hX5, ?_, ?_, zb, zom, zom, zom, ?_, OwnRow.same (fun b t h => za (by have := hb5' b t h; omega)) hA5.own, fun b t h => by have := hb5' b t h; exact ⟨this.1, this.2.1, this.2.2.1, this.2.2.2.1, this.2.2.2.2.2⟩, ?_, ?_, by rw [List.length_append, List.length_singleton]; omega, stp, stp, stp, stp, stp, stp, stp, stp, stp⟩
      ·rw [za zom, hs5 nx zom (fun b t h => by have := hob b t h; omega)]; exact h03
      ·rw [za zom, hs5 C zom (fun b t h => by have := hob b t h; omega)]; exact hC3
      ·refine LRow.iff (LRow.same hr3 (by rw [za zom, hs5 B zom hBo])) fun p q _ _ _ _ => ?_;simp only [zfG, ← hN];constructor
       ·rintro ⟨r, hr, h1, h2, h3, h4⟩;exact ⟨zom, r, hr, h1, h3, h4⟩
       ·rintro ⟨h0, r, hr, h1, h3, h4⟩;exact ⟨r, hr, h1, zom, h3, h4⟩
      ·intro u hu;rcases List.mem_append.1 hu with hu | hu
       ·have := hUb u hu; exact ⟨this.1, zom, this.2.2⟩
       ·rw [List.mem_singleton] at hu; subst hu; exact ⟨hrb3, by show rb < m5; omega, hrbC⟩
      ·have hU5 : UndIn J5 N M U und := hUn3.same fun u hu => hs5 _ (by have := hUb u hu; omega) (fun b t h e => (hob b t h).2.2.2.2 u hu e);have hr5 : z0L J5 rb N now.row := hrow3.same (hs5 rb zom (fun b t h e => (hob b t h).2.2.2.1 e.symm));refine (hU5.push hr5).same fun u hu => za ?_;rcases List.mem_append.1 hu with hu | hu
       ·have := hUb u hu; omega
       ·rw [List.mem_singleton] at hu; subst hu; show rb ≠ X; omega
     ·have h1 : kdF ss x 1 = false := by rw [ze4 y0 y1]; simpa using k1
      repeat (first | refine Trip.seq ?_ | refine zk ?_ | refine Trip.block ?_)
      refine z0e ?_ (c := k1);refine z8d ?_;refine zcj ?_;by_cases k2 : ss[x.toNat].2 = 2
      ·have h2 : kdF ss x 2 = true := by rw [ze4 y0 y1]; simpa using k2
       refine z0d ?_ (c := k2);refine zdW ?_;refine z11 ?_;obtain ⟨ua, uc, hue⟩ := (hU2.at z5K).slice;rcases List.eq_nil_or_concat U with hUe | ⟨U0, u, hUe⟩
       ·subst hUe;have hund := hUn2.empty;subst hund;have kk : z4y ss a (now, []) x = (zcA a now x, []) := by simp only [z4y, h1, h2, if_true, if_false, Bool.false_eq_true]
        rw [kk];subst hue;refine z4s ?_;refine z1L ?_ (c := by simp);refine z8e ?_;refine zdM ?_;refine Trip.mono (Q := fun e st => e = .exit 13 ∧ ∃ (tm' : Nat → Value) (m' : Nat) (J' : Heap), st = ⟨tm', n, J', m'⟩ ∧ m2 ≤ m' ∧ (∀ j, j < m2 → j ≠ B → J' j = J2 j) ∧ (∀ id o, J' id = some o → id < m') ∧ z0L J' B N (fun p q => (∃ r ∈ a.closes, (r.2.1 = x ∧ r.2.2.1 = 0 ∧ p < (N : Int) ∧ r.2.2.2 = q ∧ now.row p r.1))) ∧ tm' 0 = .slice (some la) ss.length lc ∧ tm' 2 = .slice wa w.length wc ∧ tm' 4 = .pointer (some ⟨nx, 0, none⟩) ∧ tm' 6 = .bool false ∧ tm' 7 = .int .i64 (N : Int) ∧ tm' 8 = .pointer (some ⟨C, 0, none⟩) ∧ tm' 10 = .slice ua 0 uc ∧ tm' 11 = .int .i64 (i : Int) ∧ tm' 12 = .pointer (some ⟨X, 0, none⟩)) ?_ ?_
        ·refine zu (fun (k : Nat) st => ∃ (tm' : Nat → Value) (m' : Nat) (J' : Heap), st = ⟨tm', n, J', m'⟩ ∧ m2 ≤ m' ∧ (∀ j, j < m2 → j ≠ B → J' j = J2 j) ∧ (∀ id o, J' id = some o → id < m') ∧ z0L J' B N (fun p q => (∃ r ∈ a.closes.take k, (r.2.1 = x ∧ r.2.2.1 = 0 ∧ p < (N : Int) ∧ r.2.2.2 = q ∧ now.row p r.1))) ∧ tm' 0 = .slice (some la) ss.length lc ∧ tm' 2 = .slice wa w.length wc ∧ tm' 4 = .pointer (some ⟨nx, 0, none⟩) ∧ tm' 6 = .bool false ∧ tm' 7 = .int .i64 (N : Int) ∧ tm' 8 = .pointer (some ⟨C, 0, none⟩) ∧ tm' 10 = .slice ua 0 uc ∧ tm' 11 = .int .i64 (i : Int) ∧ tm' 12 = .pointer (some ⟨X, 0, none⟩) ∧ tm' 16 = .int .i64 k ∧ k ≤ a.closes.length) (fun k => a.closes.length - k) 0 ?_ ?_
         ·exact ⟨_, _, _, rfl, Nat.le_refl _, fun _ _ _ => rfl, ok2, hB2.iff fun p q _ _ _ _ => by simp, stp, stp, stp, stp, stp, stp, stp, stp, stp, stp, Nat.zero_le _⟩
         ·clear e0 e2 e4 e6 e7 e8 e10 e11 e12;rintro k st ⟨tm', m', J', rfl, hm', fr', okJ', hr', e0, e2, e4, e6, e7, e8, e10, e11, e12, e16, hk⟩;have hJ0 := (fr' nx zom zom).trans h02;have caf : zh J' ⟨nx, 5, none⟩ (.slice ca a.closes.length cc) := ze hJ0 rfl;by_cases hlk : k < a.closes.length
          ·have hxJ' : Ext nx H m' J' := ⟨zom, fun j hj => (fr' j zom zom).trans (hx2.2 j hj)⟩;obtain ⟨pr, hpr, gr⟩ := zX (ha.ext hxJ' hok).closes hlk;subst hpr;obtain ⟨r, hrr⟩ : ∃ r, a.closes[k] = r := ⟨_, rfl⟩;have hrm : r ∈ a.closes := by rw [← hrr]; exact List.getElem_mem hlk
           obtain ⟨⟨f0, f1⟩, t0, t1⟩ := ic0 r hrm;rw [hrr] at gr;refine zg8 ?_;refine zd (zg (k := 4) (vs := Go.Am.e4 r) evr zxr rfl zxr gr) ?_;refine OpsL.new zsd (zD (l := [.int .i64 0, .int .i64 0, .int .i64 0, .int .i64 0]) krf) ?_;refine OpsL.upd (zw (k := 4) (u := .agg (Go.Am.e4 r).toArray) evd evd zxr rfl (o := .cells (Go.Am.e4 r) 0 none false (some 45)) (zE (vs := (Go.Am.e4 r)) zb rfl rfl)) ?_;obtain ⟨G5, hG5⟩ : ∃ G0, G0 = (J'.put m' (.cells [.int .i64 0, .int .i64 0, .int .i64 0, .int .i64 0] 0 none false (some 45))).put m' (.cells (Go.Am.e4 r) 0 none false (some 45)) := ⟨_, rfl⟩;have xG5 : Ext m' J' (m' + 1) G5 := ⟨Nat.le_succ _, fun j hj => by rw [hG5, za zom, za zom]⟩;have kG5 : ∀ id o, G5 id = some o → id < m' + 1 := by rw [hG5]; exact zV (zF okJ') zb
           have bG5 : G5 m' = some (.cells (Go.Am.e4 r) 0 none false (some 45)) := by rw [hG5, zb]
           first | rw [← hG5] | skip
           clear hG5;clear gr caf;have hX5 := (xG5.2 X zom).trans ((fr' X zom hXB).trans hX2);have h05 := (xG5.2 nx zom).trans hJ0;have hC5 := (xG5.2 C zom).trans ((fr' C zom hCB).trans hC2);have hr5 := hr'.same (xG5.2 B zom);have hx5 := hxJ'.trans xG5;have fr5 : ∀ j, j < m2 → j ≠ B → G5 j = J2 j := fun j h1 h2 => (xG5.2 j zom).trans (fr' j h1 h2);have hw5 : z0L G5 rb N now.row := hrow2.same (fr5 rb zom hrbB);clear hr' hJ0 hxJ';refine zg9 ?_;refine Trip.mono (Q := fun e st => e = .exit 15 ∧ ∃ (tm' : Nat → Value) (J6 : Heap), st = ⟨tm', n, J6, m' + 1⟩ ∧ (∀ j, j ≠ B → J6 j = G5 j) ∧ (∀ id o, J6 id = some o → id < m' + 1) ∧ z0L J6 B N (fun p q => (∃ r ∈ a.closes.take k, (r.2.1 = x ∧ r.2.2.1 = 0 ∧ p < (N : Int) ∧ r.2.2.2 = q ∧ now.row p r.1)) ∨ (r.2.1 = x ∧ r.2.2.1 = 0 ∧ p < (N : Int) ∧ r.2.2.2 = q ∧ now.row p r.1)) ∧ tm' 0 = .slice (some la) ss.length lc ∧ tm' 2 = .slice wa w.length wc ∧ tm' 4 = .pointer (some ⟨nx, 0, none⟩) ∧ tm' 6 = .bool false ∧ tm' 7 = .int .i64 (N : Int) ∧ tm' 8 = .pointer (some ⟨C, 0, none⟩) ∧ tm' 10 = .slice ua 0 uc ∧ tm' 11 = .int .i64 (i : Int) ∧ tm' 12 = .pointer (some ⟨X, 0, none⟩) ∧ tm' 16 = .int .i64 (k : Int) ∧ tm' 17 = .pointer (some ⟨m', 0, none⟩)) ?_ ?_
           ·refine zu (fun (P : Nat) st => ∃ (tm' : Nat → Value) (J6 : Heap), st = ⟨tm', n, J6, m' + 1⟩ ∧ (∀ j, j ≠ B → J6 j = G5 j) ∧ (∀ id o, J6 id = some o → id < m' + 1) ∧ z0L J6 B N (fun p q => (∃ r ∈ a.closes.take k, (r.2.1 = x ∧ r.2.2.1 = 0 ∧ p < (N : Int) ∧ r.2.2.2 = q ∧ now.row p r.1)) ∨ (r.2.1 = x ∧ r.2.2.1 = 0 ∧ p < (P : Int) ∧ r.2.2.2 = q ∧ now.row p r.1)) ∧ tm' 0 = .slice (some la) ss.length lc ∧ tm' 2 = .slice wa w.length wc ∧ tm' 4 = .pointer (some ⟨nx, 0, none⟩) ∧ tm' 6 = .bool false ∧ tm' 7 = .int .i64 (N : Int) ∧ tm' 8 = .pointer (some ⟨C, 0, none⟩) ∧ tm' 10 = .slice ua 0 uc ∧ tm' 11 = .int .i64 (i : Int) ∧ tm' 12 = .pointer (some ⟨X, 0, none⟩) ∧ tm' 16 = .int .i64 (k : Int) ∧ tm' 17 = .pointer (some ⟨m', 0, none⟩) ∧ tm' 18 = .int .i64 P ∧ P ≤ N) (fun P => N - P) 0 ?_ ?_
            ·refine ⟨_, _, rfl, fun _ _ => rfl, kG5, hr5.iff fun p q p0 _ _ _ => ?_, stp, stp, stp, stp, stp, stp, stp, stp, stp, stp, stp, stp, Nat.zero_le _⟩;have hno : ¬ p < ((0 : Nat) : Int) := by omega
             simp only [hno, false_and, and_false, or_false]
            ·clear e0 e2 e4 e6 e7 e8 e10 e11 e12;rintro P st ⟨tm', J6, rfl, fr6, ok6, hr6, e0, e2, e4, e6, e7, e8, e10, e11, e12, e16, e17, e18, hP⟩;have c6C : zh J6 ⟨C, 0, none⟩ (.slice (some ⟨rb, 0, none⟩) M M) := ze ((fr6 C hCB).trans hC5) rfl;have c6X : zh J6 ⟨X, 0, none⟩ (.slice (some ⟨B, 0, none⟩) M M) := ze ((fr6 X hXB).trans hX5) rfl;have c60 : zh J6 ⟨m', 0, none⟩ (.int .i64 r.1) := ze ((fr6 m' zom).trans bG5) rfl;have c61 : zh J6 ⟨m', 1, none⟩ (.int .i64 r.2.1) := ze ((fr6 m' zom).trans bG5) rfl;have c62 : zh J6 ⟨m', 2, none⟩ (.int .i64 r.2.2.1) := ze ((fr6 m' zom).trans bG5) rfl;have c6t : zh J6 ⟨m', 3, none⟩ (.int .i64 r.2.2.2) := ze ((fr6 m' zom).trans bG5) rfl;obtain ⟨pw', hpw', cw⟩ := z0g (hwv.ext (⟨zom, fun j hj => (fr6 j zom).trans (hx5.2 j hj)⟩ : Ext nx H (m' + 1) J6) hok) hlw;obtain rfl : pw' = pw := by rw [hpw] at hpw'; exact (Option.some.inj hpw').symm
             rw [hx] at cw;by_cases hlp : P < N
             case neg =>
              have hPN : P = N := by omega
              subst hPN;refine z41 ?_;refine OpsK.drawn (K := fun _ _ => True) z1n krf krf trivial ?_;refine zfw ?_;refine zaC ?_;refine zg2 ?_;refine zg3 ?_;refine zaC ?_;refine OpsK.nil ?_
              (change Trip _ _ _ _ _)
              repeat fail
              refine z6y ?_;exact ⟨rfl, _, _, rfl, fr6, ok6, hr6, stp, stp, stp, stp, stp, stp, stp, stp, stp, stp, stp⟩
             case pos =>
              by_cases hs : r.2.1 = x
              case neg =>
               refine z41 ?_;refine OpsK.drawn (K := fun _ _ => True) z1n krf krf trivial ?_;refine zfj ?_;refine z0e ?_ (c := hs);refine z88 ?_;refine z9p ?_;refine zg2 ?_;refine zg3 ?_;refine zaC ?_;refine OpsK.nil ?_
               (change Trip _ _ _ _ _)
               repeat fail
               refine z6y ?_;exact ⟨rfl, _, _, rfl, fr6, ok6, hr6.iff fun p q _ _ _ _ => by simp only [hs, false_and], stp, stp, stp, stp, stp, stp, stp, stp, stp, stp, stp⟩
              case pos =>
               by_cases ht : r.2.2.1 = 0
               case neg =>
                refine z41 ?_;refine OpsK.drawn (K := fun _ _ => True) z1n krf krf trivial ?_;refine zfj ?_;refine z0d ?_ (c := hs);refine z88 ?_;refine z9p ?_;refine zib ?_;refine zA ?_;refine z0e ?_ (c := ht);refine z9B ?_
                (change Trip _ _ _ _ _)
                repeat fail
                refine z6y ?_;exact ⟨rfl, _, _, rfl, fr6, ok6, hr6.iff fun p q _ _ _ _ => by simp only [ht, false_and, and_false], stp, stp, stp, stp, stp, stp, stp, stp, stp, stp, stp⟩
               case pos =>
                obtain ⟨y, hyc, hyS⟩ := (hw5.same (fr6 rb hrbB)).get (p := (P : Int)) hN2 zom zom f0 f1;obtain ⟨j1, j2, j3, -⟩ := z33 (p := (P : Int)) hN2 zom zom f0 f1;obtain ⟨k1, k2, k3, -⟩ := z33 (p := (P : Int)) hN2 zom zom t0 t1;rw [hM] at j3 k3;refine z41 ?_;refine OpsK.drawn (K := fun _ _ => True) z1n krf krf trivial ?_;refine zfj ?_;refine z0d ?_ (c := hs);refine z88 ?_;refine z9p ?_;refine zib ?_;refine zA ?_;refine z0d ?_ (c := ht);refine z9B ?_
                (change Trip _ _ _ _ _)
                repeat fail
                refine zhR ?_;cases y with
                | false =>
                 have hno : ¬ now.row (P : Int) r.1 := fun q => by have := hyS.2 q; cases this
                 refine zg4 ?_;refine ⟨P + 1, ⟨_, _, rfl, fr6, ok6, hr6.iff fun p q p0 _ _ _ => ?_, stp, stp, stp, stp, stp, stp, stp, stp, stp, stp, stp, stp, zom⟩, zom⟩;by_cases hpP : p = P
                 ·subst hpP; simp only [hno, and_false]
                 ·have : p < ((P + 1 : Nat) : Int) ↔ p < P := by omega
                  rw [this]
                | true =>
                 have hys : now.row (P : Int) r.1 := hyS.1 rfl;refine zhJ ?_;refine z3J (b := B) (N := N) (p := (P : Int)) (q := r.2.2.2) evr evr zxr hr6 hN2 zom zom t0 t1 fun J7 hr7 fr7 ok7 => ?_;refine zg7 ?_;refine ⟨P + 1, ⟨_, _, rfl, fun j hj => (fr7 j hj).trans (fr6 j hj), ok7 _ ok6, hr7.iff fun p q p0 _ _ _ => ?_, stp, stp, stp, stp, stp, stp, stp, stp, stp, stp, stp, stp, zom⟩, zom⟩;by_cases hpP : p = P
                 ·subst hpP;have h1 : (P : Int) < ((P + 1 : Nat) : Int) := by omega
                  have h2 : ¬ (P : Int) < P := by omega
                  simp only [hs, ht, h1, h2, hys, true_and, false_and, and_false, and_true, or_false, eq_comm (a := q)];exact or_comm
                 ·have : p < ((P + 1 : Nat) : Int) ↔ p < P := by omega
                  simp only [this, hpP, false_and, false_or]
           rintro e st ⟨rfl, tm6, J6, rfl, fr6, ok6, hr6, e0, e2, e4, e6, e7, e8, e10, e11, e12, e16, e17⟩;refine zgx ?_;exact ⟨k + 1, ⟨_, _, _, rfl, zom, fun j h1 h2 => (fr6 j h2).trans (fr5 j h1 h2), ok6, hr6.iff fun p q _ _ _ _ => by rw [z2S hlk, hrr], stp, stp, stp, stp, stp, stp, stp, stp, stp, stp, zom⟩, zom⟩
          ·have hke : k = a.closes.length := by omega
           subst hke;refine z7b ?_;rw [List.take_length] at hr';exact ⟨rfl, _, _, _, rfl, hm', fr', okJ', hr', stp, stp, stp, stp, stp, stp, stp, stp, stp⟩
        rintro e st ⟨rfl, tm3, m3, J3, rfl, hm3, fr3, ok3, hr3, e0, e2, e4, e6, e7, e8, e10, e11, e12⟩;refine zcw ?_
        repeat fail
        exact ⟨rfl, _, J3, m3, ob, _, [], B, rfl, ⟨zom, fun j hj => (fr3 j zom zom).trans (hx2.2 j hj)⟩, zom, ok3, (fr3 nx zom zom).trans h02, (fr3 C zom hCB).trans hC2, (fr3 X zom hXB).trans hX2, zom, zom, zom, hr3.iff fun p q _ hp _ _ => by simp only [zcA, hp, true_and], OwnRow.same (fun b t h => fr3 b (by have := hob b t h; omega) (by have := hob b t h; omega)) hU2, fun b t h => by have := hob b t h; exact ⟨this.1, zom, this.2.2.1, zom, this.2.2.2.2⟩, fun u hu => (by cases hu), AllR.nil, by simp, stp, stp, stp, stp, stp, stp, stp, stp, stp⟩
       ·rw [List.concat_eq_append] at hUe;subst hUe;obtain ⟨below, u', hund, hu1, hu2, hbelow, hUn0⟩ := hUn2.pop;subst hund;have kk : z4y ss a (now, below :: u') x = (ze6 a below now x, u') := by simp only [z4y, h1, h2, if_true, if_false, Bool.false_eq_true]
        rw [kk];have hml : U0.length + 1 ≤ 100000 := by rw [List.length_append, List.length_singleton] at hUl; omega
        cases ob with
        | none => obtain ⟨_, _, h2⟩ := hU2; simp at h2
        | some bt =>
         obtain ⟨b, tg⟩ := bt;have hpop := zen hU2;obtain ⟨hv, _, rest, hH⟩ := hU2;have hl1 : (U0 ++ [u]).length = U0.length + 1 := by simp
         rw [hl1] at hv;clear hue;subst hv;have hbb := hob b tg rfl
         have hg : z0A J2 ⟨b, 0 + (((U0.length + 1 : Nat) : Int) - 1).toNat * 2, some tg⟩ 2 = some (zf2 u) := by
          rw [show (((U0.length + 1 : Nat) : Int) - 1).toNat = U0.length by omega];have := z6X z5K hH (i := U0.length) (by simp);simpa using this
         have hue : zf2 u = lvV u.1 M below.by_ := by unfold zf2; rw [hu1, hu2]
         rw [hue] at hg
         have hsl : ∀ GG : Heap, GG b = J2 b → z0E Tryz.prog GG 91 (.slice (some ⟨b, 0, some tg⟩) (U0.length + 1) (U0.length + 1)) none (some (.int .i64 (((U0.length + 1 : Nat) : Int) - 1))) none = some (.slice (some ⟨b, 0 + 0 * 2, some tg⟩) (U0.length - 0) (U0.length - 0)) := fun GG hGG => by
          have := z03 (P := Tryz.prog) (H := GG) (t := 91) (el := 90) (sz := 2) (a := ⟨b, 0, some tg⟩) (len := U0.length + 1) (cap := U0.length + 1) (l := 0) (h := U0.length) (tg := tg) (lo := none) (hi := some (.int .i64 (((U0.length + 1 : Nat) : Int) - 1))) zxr zxr (hGG.trans hH) rfl rfl rfl (.inl ⟨rfl, rfl⟩) (.inr ⟨.i64, by congr 2; omega⟩) (Nat.zero_le _) (Nat.le_succ _)
          rwa [if_neg zom] at this
         have hum : u ∈ U0 ++ [u] := by simp
         have huB := hUb u hum;refine z4s ?_;refine z2y ?_;refine z9o ?_;refine z41 ?_;refine zG [12, 13] (K := fun _ _ => True) z1n krf krf [0, 1, 2, 3, 4, 5, 6, 7, 8, 9, 10, 11, 12, 13] krf trivial ?_;refine zg5 ?_;refine zd (zg (k := 7) (vs := (zz a (.slice ia a.init.length ic) (.slice fa a.final.length fc) (.slice oa a.opens.length oc) (.slice ca a.closes.length cc) (.slice na a.inners.length nc))) evd zxr rfl zxr (zH h02 rfl)) ?_;refine OpsL.nil ?_;refine z5w ?_;refine zg0 ?_
         repeat (first | refine zd (by exact z1D) ?_ | (refine OpsL.nil ?_; (skip)))
         refine zg5 ?_
         repeat (first | refine zd (by exact zct) ?_ | (refine OpsL.nil ?_; (skip)))
         refine z3C ?_;refine zg5 ?_;refine zd (zg (k := 2) (vs := lvV u.1 M below.by_) evr zxr rfl zxr hg) ?_;refine OpsL.nil ?_;refine zg5 ?_;refine zd (zg (k := 2) (vs := lvV rb M now.by_) evd zxr rfl zxr (zH hC2 rfl)) ?_;refine OpsL.nil ?_;refine zbn ?_;refine z9v ?_;refine zg6 ?_;refine z9P (hf := zaq) (hc := (zhE W0 x (ha.ext hx2 hok) hn hin hN hN2 hM hbelow hrow2).ok) (h := ?_);rintro vb m3 J3 ⟨⟨Bn, rfl, hBn0, hBn1, hr3, x3⟩, ok3⟩;refine OpsL.nil ⟨trivial, ?_⟩;have hle3 := x3.1;have hX3 := (x3.2 X hX1).trans hX2;refine zg6 ?_;refine OpsL.upd (zw (k := 2) (u := .agg (lvV Bn M below.by_).toArray) evd evd zxr rfl (o := .cells (lvV Bn M below.by_) 0 none false (some 90)) (zE (vs := lvV Bn M below.by_) hX3 rfl rfl)) ?_;refine OpsL.nil ⟨trivial, ?_⟩;refine z0M ?_
         (change Trip _ _ _ _ _)
         repeat (first | (refine zd (by first | exact omv | exact z1D | exact zct) ?_) | refine Trip.seq ?_ | refine zk ?_)
         refine zd (z06 (r := .slice (some ⟨b, 0 + 0 * 2, some tg⟩) (U0.length - 0) (U0.length - 0)) (a := none) (b := some (.int .i64 (((U0.length + 1 : Nat) : Int) - 1))) (c := none) evd rfl zer rfl (hsl _ (by show Heap.put _ X _ b = _; rw [za zom, x3.2 b zom]))) ?_
         repeat (first | refine zd (by exact z0y) ?_ | (refine Trip.exit ?_; ((repeat (refine zY ?_)); dsimp only)) | (refine OpsL.nil ?_; (change Trip _ _ _ _ _)))
         refine ⟨rfl, _, _, m3, some (b, tg), .slice (some ⟨b, 0 + 0 * 2, some tg⟩) (U0.length - 0) (U0.length - 0), U0, Bn, rfl, ⟨by have := hx2.1; omega, fun j hj => by rw [za zom, x3.2 j zom]; exact hx2.2 j hj⟩, zom, zV ok3 hX3, ?_, ?_, zb, zom, zom, zom, hr3.same (za zom), ?_, ?_, ?_, ?_, by rw [List.length_append, List.length_singleton] at hUl; omega, stp, stp, stp, stp, stp, stp, stp, stp, stp⟩
         ·rw [za zom, x3.2 nx zom]; exact h02
         ·rw [za zom, x3.2 C zom]; exact hC2
         ·exact OwnRow.same (fun b' t' h => by cases h; rw [za zom, x3.2 b zom]) hpop
         ·intro b' t' h;cases h;exact ⟨hbb.1, zom, hbb.2.2.1, zom, fun u1 hu1 => hbb.2.2.2.2 u1 (List.mem_append.2 (.inl hu1))⟩
         ·intro u1 hu1;have := hUb u1 (List.mem_append.2 (.inl hu1));exact ⟨this.1, zom, this.2.2⟩
         ·exact hUn0.same fun u1 hu1 => by
           have := hUb u1 (List.mem_append.2 (.inl hu1));rw [za zom, x3.2 u1.1 zom]
      ·have h2 : kdF ss x 2 = false := by rw [ze4 y0 y1]; simpa using k2
       have kk : z4y ss a (now, und) x = (zfD a now x, und) := by simp only [z4y, h1, h2, if_false, Bool.false_eq_true]
       rw [kk];refine z0e ?_ (c := k2);refine z8d ?_;refine zg9 ?_;refine Trip.mono (Q := fun e st => e = .exit 5 ∧ ∃ (tm' : Nat → Value) (m' : Nat) (J' : Heap), st = ⟨tm', n, J', m'⟩ ∧ m2 ≤ m' ∧ (∀ j, j < m2 → j ≠ B → J' j = J2 j) ∧ (∀ id o, J' id = some o → id < m') ∧ z0L J' B N (fun p q => (∃ r ∈ a.inners, (r.2.1 = x ∧ p < (N : Int) ∧ r.2.2 = q ∧ now.row p r.1))) ∧ tm' 0 = .slice (some la) ss.length lc ∧ tm' 2 = .slice wa w.length wc ∧ tm' 4 = .pointer (some ⟨nx, 0, none⟩) ∧ tm' 6 = .bool false ∧ tm' 7 = .int .i64 (N : Int) ∧ tm' 8 = .pointer (some ⟨C, 0, none⟩) ∧ tm' 10 = uv ∧ tm' 11 = .int .i64 (i : Int) ∧ tm' 12 = .pointer (some ⟨X, 0, none⟩)) ?_ ?_
       ·refine zu (fun (k : Nat) st => ∃ (tm' : Nat → Value) (m' : Nat) (J' : Heap), st = ⟨tm', n, J', m'⟩ ∧ m2 ≤ m' ∧ (∀ j, j < m2 → j ≠ B → J' j = J2 j) ∧ (∀ id o, J' id = some o → id < m') ∧ z0L J' B N (fun p q => (∃ r ∈ a.inners.take k, (r.2.1 = x ∧ p < (N : Int) ∧ r.2.2 = q ∧ now.row p r.1))) ∧ tm' 0 = .slice (some la) ss.length lc ∧ tm' 2 = .slice wa w.length wc ∧ tm' 4 = .pointer (some ⟨nx, 0, none⟩) ∧ tm' 6 = .bool false ∧ tm' 7 = .int .i64 (N : Int) ∧ tm' 8 = .pointer (some ⟨C, 0, none⟩) ∧ tm' 10 = uv ∧ tm' 11 = .int .i64 (i : Int) ∧ tm' 12 = .pointer (some ⟨X, 0, none⟩) ∧ tm' 19 = .int .i64 k ∧ k ≤ a.inners.length) (fun k => a.inners.length - k) 0 ?_ ?_
        ·exact ⟨_, _, _, rfl, Nat.le_refl _, fun _ _ _ => rfl, ok2, hB2.iff fun p q _ _ _ _ => by simp, stp, stp, stp, stp, stp, stp, stp, stp, stp, stp, Nat.zero_le _⟩
        ·clear e0 e2 e4 e6 e7 e8 e10 e11 e12;rintro k st ⟨tm', m', J', rfl, hm', fr', okJ', hr', e0, e2, e4, e6, e7, e8, e10, e11, e12, e19, hk⟩;have hJ0 := (fr' nx zom zom).trans h02;have caf : zh J' ⟨nx, 6, none⟩ (.slice na a.inners.length nc) := ze hJ0 rfl;by_cases hlk : k < a.inners.length
         ·have hxJ' : Ext nx H m' J' := ⟨zom, fun j hj => (fr' j zom zom).trans (hx2.2 j hj)⟩;obtain ⟨pr, hpr, gr⟩ := zX (ha.ext hxJ' hok).inners hlk;subst hpr;obtain ⟨r, hrr⟩ : ∃ r, a.inners[k] = r := ⟨_, rfl⟩;have hrm : r ∈ a.inners := by rw [← hrr]; exact List.getElem_mem hlk
          obtain ⟨⟨f0, f1⟩, t0, t1⟩ := inn r hrm;rw [hrr] at gr;refine zg8 ?_;refine zd (zg (k := 3) (vs := Go.Am.e3 r) evr zxr rfl zxr gr) ?_;refine OpsL.new zsd (zD (l := [.int .i64 0, .int .i64 0, .int .i64 0]) krf) ?_;refine OpsL.upd (zw (k := 3) (u := .agg (Go.Am.e3 r).toArray) evd evd zxr rfl (o := .cells (Go.Am.e3 r) 0 none false (some 51)) (zE (vs := (Go.Am.e3 r)) zb rfl rfl)) ?_;obtain ⟨G5, hG5⟩ : ∃ G0, G0 = (J'.put m' (.cells [.int .i64 0, .int .i64 0, .int .i64 0] 0 none false (some 51))).put m' (.cells (Go.Am.e3 r) 0 none false (some 51)) := ⟨_, rfl⟩;have xG5 : Ext m' J' (m' + 1) G5 := ⟨Nat.le_succ _, fun j hj => by rw [hG5, za zom, za zom]⟩;have kG5 : ∀ id o, G5 id = some o → id < m' + 1 := by rw [hG5]; exact zV (zF okJ') zb
          have bG5 : G5 m' = some (.cells (Go.Am.e3 r) 0 none false (some 51)) := by rw [hG5, zb]
          first | rw [← hG5] | skip
          clear hG5;clear gr caf;have hX5 := (xG5.2 X zom).trans ((fr' X zom hXB).trans hX2);have h05 := (xG5.2 nx zom).trans hJ0;have hC5 := (xG5.2 C zom).trans ((fr' C zom hCB).trans hC2);have hr5 := hr'.same (xG5.2 B zom);have hx5 := hxJ'.trans xG5;have fr5 : ∀ j, j < m2 → j ≠ B → G5 j = J2 j := fun j h1 h2 => (xG5.2 j zom).trans (fr' j h1 h2);have hw5 : z0L G5 rb N now.row := hrow2.same (fr5 rb zom hrbB);clear hr' hJ0 hxJ';refine zg9 ?_;refine Trip.mono (Q := fun e st => e = .exit 7 ∧ ∃ (tm' : Nat → Value) (J6 : Heap), st = ⟨tm', n, J6, m' + 1⟩ ∧ (∀ j, j ≠ B → J6 j = G5 j) ∧ (∀ id o, J6 id = some o → id < m' + 1) ∧ z0L J6 B N (fun p q => (∃ r ∈ a.inners.take k, (r.2.1 = x ∧ p < (N : Int) ∧ r.2.2 = q ∧ now.row p r.1)) ∨ (r.2.1 = x ∧ p < (N : Int) ∧ r.2.2 = q ∧ now.row p r.1)) ∧ tm' 0 = .slice (some la) ss.length lc ∧ tm' 2 = .slice wa w.length wc ∧ tm' 4 = .pointer (some ⟨nx, 0, none⟩) ∧ tm' 6 = .bool false ∧ tm' 7 = .int .i64 (N : Int) ∧ tm' 8 = .pointer (some ⟨C, 0, none⟩) ∧ tm' 10 = uv ∧ tm' 11 = .int .i64 (i : Int) ∧ tm' 12 = .pointer (some ⟨X, 0, none⟩) ∧ tm' 19 = .int .i64 (k : Int) ∧ tm' 20 = .pointer (some ⟨m', 0, none⟩)) ?_ ?_
          ·refine zu (fun (P : Nat) st => ∃ (tm' : Nat → Value) (J6 : Heap), st = ⟨tm', n, J6, m' + 1⟩ ∧ (∀ j, j ≠ B → J6 j = G5 j) ∧ (∀ id o, J6 id = some o → id < m' + 1) ∧ z0L J6 B N (fun p q => (∃ r ∈ a.inners.take k, (r.2.1 = x ∧ p < (N : Int) ∧ r.2.2 = q ∧ now.row p r.1)) ∨ (r.2.1 = x ∧ p < (P : Int) ∧ r.2.2 = q ∧ now.row p r.1)) ∧ tm' 0 = .slice (some la) ss.length lc ∧ tm' 2 = .slice wa w.length wc ∧ tm' 4 = .pointer (some ⟨nx, 0, none⟩) ∧ tm' 6 = .bool false ∧ tm' 7 = .int .i64 (N : Int) ∧ tm' 8 = .pointer (some ⟨C, 0, none⟩) ∧ tm' 10 = uv ∧ tm' 11 = .int .i64 (i : Int) ∧ tm' 12 = .pointer (some ⟨X, 0, none⟩) ∧ tm' 19 = .int .i64 (k : Int) ∧ tm' 20 = .pointer (some ⟨m', 0, none⟩) ∧ tm' 21 = .int .i64 P ∧ P ≤ N) (fun P => N - P) 0 ?_ ?_
           ·refine ⟨_, _, rfl, fun _ _ => rfl, kG5, hr5.iff fun p q p0 _ _ _ => ?_, stp, stp, stp, stp, stp, stp, stp, stp, stp, stp, stp, stp, Nat.zero_le _⟩;have hno : ¬ p < ((0 : Nat) : Int) := by omega
            simp only [hno, false_and, and_false, or_false]
           ·clear e0 e2 e4 e6 e7 e8 e10 e11 e12;rintro P st ⟨tm', J6, rfl, fr6, ok6, hr6, e0, e2, e4, e6, e7, e8, e10, e11, e12, e19, e20, e21, hP⟩;have c6C : zh J6 ⟨C, 0, none⟩ (.slice (some ⟨rb, 0, none⟩) M M) := ze ((fr6 C hCB).trans hC5) rfl;have c6X : zh J6 ⟨X, 0, none⟩ (.slice (some ⟨B, 0, none⟩) M M) := ze ((fr6 X hXB).trans hX5) rfl;have c60 : zh J6 ⟨m', 0, none⟩ (.int .i64 r.1) := ze ((fr6 m' zom).trans bG5) rfl;have c61 : zh J6 ⟨m', 1, none⟩ (.int .i64 r.2.1) := ze ((fr6 m' zom).trans bG5) rfl;have c6t : zh J6 ⟨m', 2, none⟩ (.int .i64 r.2.2) := ze ((fr6 m' zom).trans bG5) rfl;obtain ⟨pw', hpw', cw⟩ := z0g (hwv.ext (⟨zom, fun j hj => (fr6 j zom).trans (hx5.2 j hj)⟩ : Ext nx H (m' + 1) J6) hok) hlw;obtain rfl : pw' = pw := by rw [hpw] at hpw'; exact (Option.some.inj hpw').symm
            rw [hx] at cw;by_cases hlp : P < N
            case neg =>
             have hPN : P = N := by omega
             subst hPN;refine z41 ?_;refine OpsK.drawn (K := fun _ _ => True) z1n krf krf trivial ?_;refine zfw ?_;refine zaC ?_;refine OpsK.nil ?_
             (change Trip _ _ _ _ _)
             repeat fail
             refine z6y ?_;exact ⟨rfl, _, _, rfl, fr6, ok6, hr6, stp, stp, stp, stp, stp, stp, stp, stp, stp, stp, stp⟩
            case pos =>
             by_cases hs : r.2.1 = x
             case neg =>
              refine z41 ?_;refine OpsK.drawn (K := fun _ _ => True) z1n krf krf trivial ?_;refine zfj ?_;refine z0e ?_ (c := hs);refine z9B ?_
              (change Trip _ _ _ _ _)
              repeat fail
              refine z6y ?_;exact ⟨rfl, _, _, rfl, fr6, ok6, hr6.iff fun p q _ _ _ _ => by simp only [hs, false_and], stp, stp, stp, stp, stp, stp, stp, stp, stp, stp, stp⟩
             case pos =>
              obtain ⟨y, hyc, hyS⟩ := (hw5.same (fr6 rb hrbB)).get (p := (P : Int)) hN2 zom zom f0 f1;obtain ⟨j1, j2, j3, -⟩ := z33 (p := (P : Int)) hN2 zom zom f0 f1;obtain ⟨k1, k2, k3, -⟩ := z33 (p := (P : Int)) hN2 zom zom t0 t1;rw [hM] at j3 k3;refine z41 ?_;refine OpsK.drawn (K := fun _ _ => True) z1n krf krf trivial ?_;refine zfj ?_;refine z0d ?_ (c := hs);refine z9B ?_
              (change Trip _ _ _ _ _)
              repeat fail
              refine zhR ?_;cases y with
              | false =>
               have hno : ¬ now.row (P : Int) r.1 := fun q => by have := hyS.2 q; cases this
               refine zg4 ?_;refine ⟨P + 1, ⟨_, _, rfl, fr6, ok6, hr6.iff fun p q p0 _ _ _ => ?_, stp, stp, stp, stp, stp, stp, stp, stp, stp, stp, stp, stp, zom⟩, zom⟩;by_cases hpP : p = P
               ·subst hpP; simp only [hno, and_false]
               ·have : p < ((P + 1 : Nat) : Int) ↔ p < P := by omega
                rw [this]
              | true =>
               have hys : now.row (P : Int) r.1 := hyS.1 rfl;refine zhJ ?_;refine z3J (b := B) (N := N) (p := (P : Int)) (q := r.2.2) evr evr zxr hr6 hN2 zom zom t0 t1 fun J7 hr7 fr7 ok7 => ?_;refine zg7 ?_;refine ⟨P + 1, ⟨_, _, rfl, fun j hj => (fr7 j hj).trans (fr6 j hj), ok7 _ ok6, hr7.iff fun p q p0 _ _ _ => ?_, stp, stp, stp, stp, stp, stp, stp, stp, stp, stp, stp, stp, zom⟩, zom⟩;by_cases hpP : p = P
               ·subst hpP;have h1 : (P : Int) < ((P + 1 : Nat) : Int) := by omega
                have h2 : ¬ (P : Int) < P := by omega
                simp only [hs, h1, h2, hys, true_and, false_and, and_false, and_true, or_false, eq_comm (a := q)];exact or_comm
               ·have : p < ((P + 1 : Nat) : Int) ↔ p < P := by omega
                simp only [this, hpP, false_and, false_or]
          rintro e st ⟨rfl, tm6, J6, rfl, fr6, ok6, hr6, e0, e2, e4, e6, e7, e8, e10, e11, e12, e19, e20⟩;refine zgx ?_;exact ⟨k + 1, ⟨_, _, _, rfl, zom, fun j h1 h2 => (fr6 j h2).trans (fr5 j h1 h2), ok6, hr6.iff fun p q _ _ _ _ => by rw [z2S hlk, hrr], stp, stp, stp, stp, stp, stp, stp, stp, stp, stp, zom⟩, zom⟩
         ·have hke : k = a.inners.length := by omega
          subst hke;refine z7b ?_;rw [List.take_length] at hr';exact ⟨rfl, _, _, _, rfl, hm', fr', okJ', hr', stp, stp, stp, stp, stp, stp, stp, stp, stp⟩
       rintro e st ⟨rfl, tm3, m3, J3, rfl, hm3, fr3, ok3, hr3, e0, e2, e4, e6, e7, e8, e10, e11, e12⟩;refine zcw ?_
       repeat fail
       exact ⟨rfl, _, J3, m3, ob, uv, U, B, rfl, ⟨zom, fun j hj => (fr3 j zom zom).trans (hx2.2 j hj)⟩, zom, ok3, (fr3 nx zom zom).trans h02, (fr3 C zom hCB).trans hC2, (fr3 X zom hXB).trans hX2, zom, zom, zom, hr3.iff fun p q _ hp _ _ => by simp only [zfD, hp, true_and], OwnRow.same (fun b t h => fr3 b (by have := hob b t h; omega) (by have := hob b t h; omega)) hU2, fun b t h => by have := hob b t h; exact ⟨this.1, zom, this.2.2.1, zom, this.2.2.2.2⟩, fun u hu => by have := hUb u hu; exact ⟨this.1, zom, this.2.2⟩, hUn2.same fun u hu => fr3 _ (by have := hUb u hu; omega) (by have := hUb u hu; omega), zom, stp, stp, stp, stp, stp, stp, stp, stp, stp⟩
    clear e0 e2 e4 e6 e7 e8 e10 e11 e12;rintro e st ⟨rfl, tm3, J3, m3, ob3, uv3, U3, Bn, rfl, hx3, hlem3, ok3, h03, hC3, hX3, hn1, hn2, hn3, hr3, hU3, hob3, hUb3, hUn3, hUl3, e0, e2, e4, e6, e7, e8, e10, e11, e12⟩
    (change Trip _ _ _ _ _)
    rw [← hstep] at hX3 hr3 hUn3
    repeat (refine zk ?_)
    refine zd (zg (k := 2) (vs := lvV Bn M (z7d ss a (w.take (i + 1))).1.by_) evd zxr rfl zxr (zH hX3 rfl)) ?_;refine OpsL.upd (zw (k := 2) (u := .agg (lvV Bn M (z7d ss a (w.take (i + 1))).1.by_).toArray) evd evd zxr rfl (o := .cells (lvV Bn M (z7d ss a (w.take (i + 1))).1.by_) 0 none false (some 90)) (zE (vs := lvV Bn M (z7d ss a (w.take (i + 1))).1.by_) hC3 rfl rfl)) ?_;refine zg7 ?_;exact ⟨i + 1, ⟨_, _, m3, Bn, ob3, uv3, U3, rfl, ⟨hx3.1, fun j hj => by rw [za zom]; exact hx3.2 j hj⟩, zom, zV ok3 hC3, by rw [za zom]; exact h03, hn1, hn2, hn3, zom, zb, hr3.same (za hn3), OwnRow.same (fun b t h => za (by have := hob3 b t h; omega)) hU3, fun b t h => by have := hob3 b t h; exact ⟨this.1, this.2.1, this.2.2.1, this.2.2.2.1, this.2.2.2.2⟩, hUb3, hUn3.same fun u hu => za (hUb3 u hu).2.2, hUl3, stp, stp, stp, stp, stp, stp, stp, stp, zom⟩, zom⟩
   ·have hiw : i = w.length := by omega
    subst hiw;rw [List.take_length] at hr gCJ;refine z4s ?_;refine z5y ?_;exact ⟨rfl, _, J, m, rb, rfl, hxJ, okJ, gJ, hC1, zom, gCJ, hr, stp, stp, stp, stp, stp, stp⟩
 clear e0 e2 e4 e6 e7 e8;rintro e st ⟨rfl, tm2, J, m, rb, rfl, hxJ, okJ, gJ, hC1, hrb1, gCJ, hr, e0, e2, e4, e6, e7, e8⟩;refine z4r ?_;have haJ := ha.ext hxJ hok;have cC : zh J ⟨C, 0, none⟩ (.slice (some ⟨rb, 0, none⟩) M M) := ze gCJ rfl;have c3 : zh J ⟨nx, 3, none⟩ (.slice fa a.final.length fc) := ze gJ rfl;refine zg9 ?_;refine zu (fun (i : Nat) st => ∃ (tm' : Nat → Value), st = ⟨tm', n, J, m⟩ ∧ (¬ ∃ f ∈ a.final.take i, ∃ p : Int, 0 ≤ p ∧ p < (N : Int) ∧ (z7d ss a w).1.row p f) ∧ tm' 0 = .slice (some la) ss.length lc ∧ tm' 2 = .slice wa w.length wc ∧ tm' 4 = .pointer (some ⟨nx, 0, none⟩) ∧ tm' 6 = .bool false ∧ tm' 7 = .int .i64 (N : Int) ∧ tm' 8 = .pointer (some ⟨C, 0, none⟩) ∧ tm' 22 = .int .i64 i ∧ i ≤ a.final.length) (fun i => a.final.length - i) 0 ?_ ?_
 ·exact ⟨_, rfl, by simp, stp, stp, stp, stp, stp, stp, stp, Nat.zero_le _⟩
 ·clear e0 e2 e4 e6 e7 e8;rintro i st ⟨tm', rfl, hno, e0, e2, e4, e6, e7, e8, e22, hi⟩;by_cases hlt : i < a.final.length
  ·obtain ⟨pf, hpf, cf⟩ := z0g haJ.final hlt;subst hpf;obtain ⟨f, hf⟩ : ∃ f, a.final[i] = f := ⟨_, rfl⟩;have hfm : f ∈ a.final := by rw [← hf]; exact List.getElem_mem hlt
   obtain ⟨f0, f1⟩ := iff_ f hfm;rw [hf] at cf;refine zgw ?_;refine z6z ?_;refine zdM ?_;refine zu (fun (p : Nat) st => ∃ (tm' : Nat → Value), st = ⟨tm', n, J, m⟩ ∧ (¬ ∃ p1 : Int, 0 ≤ p1 ∧ p1 < (p : Int) ∧ (z7d ss a w).1.row p1 f) ∧ tm' 0 = .slice (some la) ss.length lc ∧ tm' 2 = .slice wa w.length wc ∧ tm' 4 = .pointer (some ⟨nx, 0, none⟩) ∧ tm' 6 = .bool false ∧ tm' 7 = .int .i64 (N : Int) ∧ tm' 8 = .pointer (some ⟨C, 0, none⟩) ∧ tm' 22 = .int .i64 i ∧ tm' 23 = .int .i64 p ∧ p ≤ N) (fun p => N - p) 0 ?_ ?_
   ·exact ⟨_, rfl, fun ⟨p1, q0, q1, _⟩ => by omega, stp, stp, stp, stp, stp, stp, stp, stp, Nat.zero_le _⟩
   ·clear e0 e2 e4 e6 e7 e8 e22;rintro p st ⟨tm', rfl, hnp, e0, e2, e4, e6, e7, e8, e22, e23, hp⟩;by_cases hlp : p < N
    ·obtain ⟨y, hyc, hyS⟩ := hr.get (p := (p : Int)) hN2 zom zom f0 f1;obtain ⟨j1, j2, j3, -⟩ := z33 (p := (p : Int)) hN2 zom zom f0 f1;rw [hM] at j3;refine zaD ?_;refine z9r ?_;refine OpsK.drawn (K := fun _ _ => True) z1n krf krf trivial ?_;refine z2P ?_;refine zi9 ?_;refine z2P ?_;refine z9v ?_;refine zg2 ?_;refine zdO ?_;refine z2P ?_
     repeat (first | refine zd (by exact zgq) ?_ | (refine OpsL.nil ?_; (skip)))
     refine zfi ?_;refine z2P ?_;refine z9v ?_;refine z2P ?_
     repeat (first | refine zd (by exact z5G) ?_ | (refine OpsL.nil ?_; (skip)))
     refine z2P ?_;refine zcm ?_;refine z2P ?_;refine z9v ?_;refine OpsK.nil ?_
     (change Trip _ _ _ _ _)
     repeat fail
     cases y with
     | false =>
      have hn1 : ¬ (z7d ss a w).1.row (p : Int) f := fun q => by have := hyS.2 q; cases this
      refine zg4 ?_;exact ⟨p + 1, ⟨_, rfl, by rw [zfK]; exact fun h => h.elim hnp hn1, stp, stp, stp, stp, stp, stp, stp, stp, zom⟩, zom⟩
     | true =>
      refine zdN ?_;exact ⟨.inr rfl, _, zy, ⟨true, stp, ⟨fun _ => ⟨f, hfm, p, zom, by rw [hN]; omega, hyS.1 rfl⟩, fun _ => rfl⟩⟩, hxJ⟩
    ·have hpN : p = N := by omega
     subst hpN;refine zaD ?_;refine z7a ?_
     repeat (first | (refine zd (by first | exact omv | exact z0y | exact z5G) ?_) | refine zk ?_ | (refine Trip.exit ?_; ((repeat (first | refine zY ?_ | refine zQ ?_)); change Trip _ _ _ _ _)) | (refine OpsL.nil ?_; (dsimp only)))
     exact ⟨i + 1, ⟨_, rfl, by rw [z2S hlt, hf]; exact fun h => h.elim hno hnp, stp, stp, stp, stp, stp, stp, stp, zom⟩, zom⟩
  ·have hie : i = a.final.length := by omega
   subst hie;rw [List.take_length] at hno;refine zgw ?_;refine z7a ?_;refine zhQ ?_;refine ⟨.inr rfl, _, zy, ⟨false, stp, ⟨fun h => absurd h (by decide), fun h => ?_⟩⟩, hxJ⟩;obtain ⟨f, hf, p, p0, p1, hrw⟩ := h;rw [hN] at p1;exact absurd ⟨f, hf, p, p0, p1, hrw⟩ hno
end Go.Proofs.YteplpegfcpmflaaGreat
namespace Go.Proofs.YteplpegfcpmflaaGreat
open Go.RowKit Go.Am
theorem zfh {a : Aut} {A U : Int → Prop} (hI : ∀ s ∈ a.init, A s) (hB : U 0) (hc : ∀ m ∈ z0b a, A m.1 → U m.2.1 → A m.2.2.1 ∧ U m.2.2.2) {t : Thg} (ht : ReachT a t) : (t.1 = 0 → A t.2) ∧ (t.1 = 1 → U t.2) := by
 induction ht with
 | bot => exact ⟨fun h => absurd h (by decide), fun _ => hB⟩
 | @init s hs => exact ⟨fun _ => hI s hs, fun h => absurd h (by decide : ¬ (0 : Int) = 1)⟩
 | @step m t hm hn hg ih =>
  have h1 := (ih (0, m.1) (by simp [z08])).1 rfl;have h2 := (ih (1, m.2.1) (by simp [z08])).2 rfl;obtain ⟨c1, c2⟩ := hc m hm h1 h2;simp only [z0t, List.mem_cons, List.not_mem_nil, or_false] at hg;rcases hg with rfl | rfl
  ·exact ⟨fun _ => c1, fun h => absurd h (by decide : ¬ (0 : Int) = 1)⟩
  ·exact ⟨fun h => absurd h (by decide : ¬ (1 : Int) = 0), fun _ => c2⟩
def z8c (L : List Int) (x : Int) : Nat := (L.filter fun y => decide (y < x)).length
theorem zdv {L : List Int} (h : ∀ y ∈ L, 0 ≤ y) : z8c L 0 = 0 := by
 unfold z8c;rw [List.filter_eq_nil_iff.2 fun y hy => by have := h y hy; simpa using this];rfl
theorem zdw : ∀ {L : List Int}, L.Pairwise (· < ·) → ∀ (x : Int), z8c L (x + 1) = z8c L x + (if x ∈ L then 1 else 0) := by
 intro L
 induction L with
 | nil => intro _ x; rfl
 | cons y L ih =>
  intro hp x;obtain ⟨h1, h2⟩ := List.pairwise_cons.1 hp;have := ih h2 x;unfold z8c at *;rw [List.filter_cons, List.filter_cons];by_cases hxy : x = y
  ·subst hxy;have hnot : x ∉ L := fun hm => by have := h1 x hm; omega
   rw [if_neg hnot] at this;rw [if_pos (by simp; omega), if_neg (by simp), if_pos (by simp)];simp only [List.length_cons];omega
  ·have hm : (x ∈ y :: L) ↔ x ∈ L := by simp [hxy]
   by_cases hlt : y < x
   ·rw [if_pos (by simp; omega), if_pos (by simpa using hlt)];simp only [List.length_cons, hm];omega
   ·rw [if_neg (by simp; omega), if_neg (by simpa using hlt)];simp only [hm];omega
theorem zeE {L : List Int} {n : Int} (h : ∀ y ∈ L, y < n) : z8c L n = L.length := by
 unfold z8c;rw [List.filter_eq_self.2 fun y hy => by simpa using h y hy]
theorem zel : ∀ (L : List Int) (x : Int) (i : Nat), L.Pairwise (· < ·) → x ∈ L → z8b L x i = some (i + z8c L x) := by
 intro L
 induction L with
 | nil => intro x i _ h; cases h
 | cons y L ih =>
  intro x i hp hx;obtain ⟨h1, h2⟩ := List.pairwise_cons.1 hp;by_cases e : x = y
  ·subst e
   have : z8c (x :: L) x = 0 := by
    unfold z8c
    rw [List.filter_eq_nil_iff.2 fun z hz => by
     rcases List.mem_cons.1 hz with rfl | hz
     ·simp
     ·have := h1 z hz; simp; omega]
    rfl
   simp [z8b, this]
  ·have hm : x ∈ L := by
    rcases List.mem_cons.1 hx with q | q
    ·exact absurd q e
    ·exact q
   have hlt := h1 x hm
   have hc : z8c (y :: L) x = z8c L x + 1 := by
    unfold z8c;rw [List.filter_cons, if_pos (by simpa using hlt)];rfl
   simp only [z8b, e, if_false];rw [ih x (i + 1) h2 hm, hc];congr 1;omega
theorem z7y {L : List Int} {x : Int} (hL : L.Pairwise (· < ·)) (hx : x ∈ L) : z0T L x = some (z8c L x : Int) := by
 simp [z0T, zel L x 0 hL hx]
theorem z8F (S : Int → Prop) (n : Nat) : ∃ L : List Int, L.Pairwise (· < ·) ∧ ∀ x, x ∈ L ↔ (0 ≤ x ∧ x < n) ∧ S x := by
 refine ⟨((List.range n).map fun (j : Nat) => (j : Int)).filter fun x => @decide (S x) (Classical.propDecidable _), ?_, fun x => ?_⟩
 ·refine List.Pairwise.filter _ ?_;rw [List.pairwise_map];exact List.pairwise_lt_range.imp fun {x y} hlt => by omega
 ·rw [List.mem_filter];refine and_congr ?_ (by simp);constructor
  ·intro h;obtain ⟨j, hj, rfl⟩ := List.mem_map.1 h;have := List.mem_range.1 hj;omega
  ·rintro ⟨p0, p1⟩;exact List.mem_map.2 ⟨x.toNat, List.mem_range.2 zom, zom⟩
theorem z8E {a : Aut} {k : Int} {L L' : List Int} (h : z1E a k L) (h' : z1E a k L') : L = L' :=
 z4i zbq _ _ h.1 h'.1 fun x => (h.2 x).trans (h'.2 x).symm
end Go.Proofs.YteplpegfcpmflaaGreat
