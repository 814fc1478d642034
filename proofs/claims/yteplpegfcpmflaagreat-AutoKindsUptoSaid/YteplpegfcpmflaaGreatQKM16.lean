import Derived.Test.YteplpegfcpmflaaGreatQKM15
set_option linter.unusedSimpArgs false
set_option linter.unusedVariables false
set_option maxRecDepth 100000
set_option maxHeartbeats 32000000
namespace Go.Proofs.YteplpegfcpmflaaGreat
open Go.RowKit Go.Am
attribute [local irreducible] aop OpsL Trip zI z2w OpsK OpsR
theorem z58 : Am.z0U Tryz.prog 32 := ⟨Tryz.f32, Tryz.func32, by kernel_rfl, by kernel_rfl⟩
theorem z7k {L : List Int} {x : Int} (h : x ∉ L) : z0p L x = none := by
 cases e : z0p L x with
 | none => rfl
 | some y => exact absurd (z2A e).1 h
theorem zbn (W0 : World) {nx : Nat} {H : Heap} {b n0 : Nat} {L : List Int} (hb : BRow H 4 b n0 fun i => (i : Int) ∈ L) (hL : L.Pairwise (· < ·)) (hB : ∀ y ∈ L, 0 ≤ y ∧ y < n0) (hn0 : n0 ≤ 100000) :
  ACalls Tryz.prog W0 32 [.slice (some ⟨b, 0, none⟩) n0 n0, .int .i64 0] nx H fun v nx' H' => ∃ B, v = .tuple #[.slice (some ⟨B, 0, none⟩) n0 n0, .int .i64 (L.length : Int)] ∧ nx ≤ B ∧ B < nx' ∧ IRow H' 3 B n0 (fun i => (z0p L (i : Int)).getD 0) ∧ Ext nx H nx' H' := by
 refine zl (fn := Tryz.f32) (c := _) Tryz.func32 rfl (fun tm n hn htm => ?_);have q0 : tm 0 = .slice (some ⟨b, 0, none⟩) n0 n0 := htm 0;have q1 : tm 1 = .int .i64 0 := htm 1;clear htm;replace hn : n = 31 := hn;refine Trip.ok fun hok => ?_;replace hok : ∀ id o, H id = some o → id < nx := hok;have hbn : b < nx := by obtain ⟨cs, q, _⟩ := hb; exact hok _ _ q
 refine zgL ?_;refine OpsL.new (v := .slice (some ⟨nx, 0, none⟩) n0 n0) (o := .cells (rep n0 [.int .i64 0]) 1 none false (some 3)) zsd (z1v evd evd (z6O (el := 3) zxr zxr zxr zxr zom)) ?_;obtain ⟨G, hG⟩ : ∃ G, G = H.put nx (.cells (rep n0 [.int .i64 0]) 1 none false (some 3)) := ⟨_, rfl⟩;have x0 : Ext nx H (nx + 1) G := by rw [hG]; exact zh
 have r0 : IRow G 3 nx n0 (fun _ => 0) := by rw [hG]; exact ⟨_, zb, ICells.zero n0⟩
 have hb0 : BRow G 4 b n0 (fun i => (i : Int) ∈ L) := hb.ext x0 hbn;rw [← hG];clear hG;have c0 : z8x L 0 = 0 := ze5 fun y hy => (hB y hy).1
 repeat (first | (refine zd (by first | exact omv | exact z0E) ?_) | refine Trip.seq ?_ | refine zm ?_ | refine Trip.block ?_ | (refine OpsL.nil ?_; (change Trip _ _ _ _ _)))
 refine Trip.mono (Q := fun e st => e = .exit 0 ∧ ∃ (tm' : Nat → Value) (J : Heap), st = ⟨tm', n, J, nx + 1⟩ ∧ (∀ j, j ≠ nx → J j = G j) ∧ IRow J 3 nx n0 (fun k => (z0p L (k : Int)).getD 0) ∧ tm' 6 = .slice (some ⟨nx, 0, none⟩) n0 n0 ∧ tm' 7 = .int .i64 (L.length : Int)) ?_ ?_
 ·refine zD (fun (i : Nat) st => ∃ (tm' : Nat → Value) (J : Heap), st = ⟨tm', n, J, nx + 1⟩ ∧ (∀ j, j ≠ nx → J j = G j) ∧ IRow J 3 nx n0 (fun k => if k < i then (z0p L (k : Int)).getD 0 else 0) ∧ tm' 0 = .slice (some ⟨b, 0, none⟩) n0 n0 ∧ tm' 6 = .slice (some ⟨nx, 0, none⟩) n0 n0 ∧ tm' 7 = .int .i64 (z8x L (i : Int) : Int) ∧ tm' 8 = .int .i64 (i : Int) ∧ i ≤ n0) (fun i => n0 - i) 0 ?_ ?_
  ·exact ⟨_, _, rfl, fun _ _ => rfl, r0.iff fun k _ => by simp, stp, stp, stp, stp, Nat.zero_le _⟩
  ·clear q0 q1;rintro i st ⟨tm', J, rfl, fr, hr, q0, q6, q7, q8, hi⟩;by_cases hlt : i < n0
   ·obtain ⟨x, hx, hxS⟩ := (hb0.same (fr b zom)).get (j := (i : Int)) zom zom;have hs := ze6 hL (i : Int);have hcn : z8x L (i : Int) ≤ 100000 := Nat.le_trans (List.length_filter_le _ _) (Nat.le_trans (z4Q hL hB) hn0);refine z5f ?_;refine z8C ?_
    repeat (first | (refine zd (by first | exact omv | exact z45 | exact old) ?_) | refine Trip.seq ?_ | refine zm ?_ | refine Trip.block ?_ | (refine Trip.skip ?_; (change Trip _ _ _ _ _)) | (refine OpsL.nil ?_; (change Trip _ _ _ _ _)))
    rw [Int.toNat_natCast] at hxS;cases x with
    | false =>
     have hno : ¬ (i : Int) ∈ L := fun q => by have := hxS.2 q; cases this
     rw [if_neg hno, Nat.add_zero] at hs;refine zg3 ?_;refine ⟨i + 1, ⟨_, _, rfl, fr, hr.iff fun k hk => ?_, stp, stp, ?_, stp, zom⟩, zom⟩
     ·by_cases e : k = i
      ·subst e;rw [if_neg zom, if_pos zom, z7k hno];rfl
      ·by_cases h2 : k < i
       ·rw [if_pos h2, if_pos zom]
       ·rw [if_neg h2, if_neg zom]
     ·rw [show ((i + 1 : Nat) : Int) = (i : Int) + 1 by omega, hs];simp [zk, *]
    | true =>
     have hyes : (i : Int) ∈ L := hxS.1 rfl;have hnum := z7V hL hyes;rw [if_pos hyes] at hs;refine z0F ?_;refine zgK ?_;refine zeg (b := nx) (m := n0) (j := (i : Int)) (v := (z8x L (i : Int) : Int)) evr evd zxr hr zom zom fun J2 hr2 fr2 => ?_;refine zg8 ?_;refine ⟨i + 1, ⟨_, _, rfl, fun j hj => (fr2 j hj).trans (fr j hj), hr2.iff fun k hk => ?_, stp, stp, ?_, stp, zom⟩, zom⟩
     ·rw [Int.toNat_natCast];by_cases e : k = i
      ·subst e;rw [if_pos rfl, if_pos zom, hnum];rfl
      ·rw [if_neg e];by_cases h2 : k < i
       ·rw [if_pos h2, if_pos zom]
       ·rw [if_neg h2, if_neg zom]
     ·rw [show ((i + 1 : Nat) : Int) = (i : Int) + 1 by omega, hs];simp [zk, *]
   ·have hie : i = n0 := by omega
    subst hie;have hall := zf5 (L := L) (n := (i : Int)) fun y hy => (hB y hy).2;rw [hall] at q7;refine z5f ?_;refine zcM ?_;exact ⟨rfl, _, _, rfl, fr, hr.iff fun k hk => by rw [if_pos hk], stp, stp⟩
 clear q0 q1 c0;rintro e st ⟨rfl, tm', J, rfl, fr, hr, q6, q7⟩;refine z5e ?_;refine zcU ?_;exact ⟨.inr rfl, _, zbh, nx, stp, Nat.le_refl _, zom, hr, ⟨zom, fun j hj => (fr j zom).trans (x0.2 j hj)⟩⟩
end Go.Proofs.YteplpegfcpmflaaGreat
namespace Go.Proofs.YteplpegfcpmflaaGreat
open Go.RowKit Go.Am
attribute [local irreducible] aop OpsL Trip zI z2w OpsK OpsR
section
variable {W0 : World} {ops : Array Oper} {n : Nat} {type : TypeId} {pos : String} {after : Array Edge} {os : List Oper} {tm : Nat → Value} {QQ : ASt → Prop} {d : Tmp}
theorem zbt {H : Heap} {ob : Option (Nat × Nat)} {v : Value} {l : List Int} (h : OwnInts H ob 3 v l) : z5A H ob v l := by
 unfold z5A OwnOf;unfold OwnInts at h
 rwa [z4X]
theorem bsI {x : Operand} {r : Int} {H : Heap} {nx : Nat} (hd : d < n) (hx : ASt.ev ⟨tm, n, H, nx⟩ x = some (.int .i64 r))
  (hc : ∀ G, Ext nx H (nx + 1) G → RowsAt z9R 1 G (.slice (some ⟨nx, 0, none⟩) 1 1) [r] → OpsL Tryz.prog W0 ops os ⟨zk tm (some d) (.slice (some ⟨nx, 0, none⟩) 1 1), n, G, nx + 1⟩ QQ) :
  OpsL Tryz.prog W0 ops (⟨some d, .buildSlice 22 1 #[(0, x)], type, pos, after, none⟩ :: os) ⟨tm, n, H, nx⟩ QQ := by
 refine OpsL.new hd (z2N (el := 3) (b := 0) hx zxr zxr zxr) ?_;refine hc _ zh (.inr ⟨⟨nx, 0, none⟩, 1, rfl, fun j hj => ?_⟩);have : j = 0 := by simpa using hj
 subst this;exact z08 (by show 0 + 1 ≤ 1; decide)
theorem zhj {x y : Operand} {r : Int} {H G : Heap} {base A nx : Nat} {a : Aut} {l : List (Option (Nat × Nat))} {vi vf vo vc vn : Value} {ob : Option (Nat × Nat)} (hm : MkIn H base A nx a l vi vf vo vc vn) (hj : l[0]? = some ob) (hown : OwnInts H ob 3 vi a.init) (hl : a.init.length ≤ 1000) (x4 : Ext nx H (nx + 1) G) (hone : RowsAt z9R 1 G (.slice (some ⟨nx, 0, none⟩) 1 1) [r])
  (hd : d < n) (hx : ASt.ev ⟨tm, n, G, nx + 1⟩ x = some vi) (hy : ASt.ev ⟨tm, n, G, nx + 1⟩ y = some (.slice (some ⟨nx, 0, none⟩) 1 1))
  (hc : ∀ (v' : Value) (nx5 : Nat) (H5 : Heap) (l5 : List (Option (Nat × Nat))) (ob5 : Option (Nat × Nat)), H5 A = some (.cells (zy a vi vf vo vc vn) 0 none false (some 30)) →
   MkIn (H5.put A (.cells (zy (z3K a r) v' vf vo vc vn) 0 none false (some 30))) base A nx5 (z3K a r) l5 v' vf vo vc vn → l5[0]? = some ob5 → OwnInts (H5.put A (.cells (zy (z3K a r) v' vf vo vc vn) 0 none false (some 30))) ob5 3 v' (z3K a r).init → (∀ i, i < base → i ≠ A → H5 i = H i) → nx ≤ nx5 → v'.cells = #[v'] → v'.oneCell' = true → OpsL Tryz.prog W0 ops os ⟨zk tm (some d) v', n, H5, nx5⟩ QQ) :
  OpsL Tryz.prog W0 ops (⟨some d, .call ⟨.builtin .append, #[x, y], #[22, 22]⟩, type, pos, after, none⟩ :: os) ⟨tm, n, G, nx + 1⟩ QQ := by
 have hA := hm.hA;have hB := hm.hb;have hbl : ∀ b t, ob = some (b, t) → base ≤ b ∧ b ≠ A ∧ b < nx := fun b t hb => hm.sep.1 0 b t (by rw [hj, hb]);have hG : z5A G ob vi a.init := OwnOf.ext x4 (fun b t h => (hbl b t h).2.2) (zbt hown);refine zJ (bytes := 8) (z := [.int .i64 0]) zX z1o zom hd hG hone hx hy (fun b t h => by have := (hbl b t h).2.2; omega) zxr zxr zxr zxr zxr rfl (by simp; omega) zom ?_;intro v' nx5 H5 ob5 hA5
 obtain ⟨b5, t5, hob5⟩ : ∃ b t, ob5 = some (b, t) := by
  cases ob5 with
  | none => exfalso; have := hA5.own.2.2; simp at this
  | some x => exact ⟨x.1, x.2, rfl⟩
 subst hob5;have hle5 := hA5.le;have hsame : ∀ i, i < nx → (∀ b t, ob = some (b, t) → i ≠ b) → H5 i = H i := fun i hi hb => by rw [hA5.same i zom hb, x4.2 i hi]
 obtain ⟨k1, k2⟩ := hA5.blk b5 t5 rfl;have hm2 := hm.putI (p := r) (nx1 := nx5) hj (.inl (z5W hA5.own)) (by rcases k2 with k2 | k2; exact .inl zom; exact .inr k2) k1 zom hsame
 have hb5 : b5 ≠ A := by
  rcases k2 with k2 | ⟨t0, k3⟩
  ·omega
  ·exact (hbl _ _ k3).2.1
 refine hc v' nx5 H5 _ (some (b5, t5)) ((hsame A hA (fun b t hb e => (hbl b t hb).2.1 e.symm)).trans hm.cell) hm2 (by rw [List.getElem?_set_self (by rw [hm.len]; decide)]) (OwnRow.same (fun b t h => by cases h; exact za hb5) (z5W hA5.own)) (fun i hi hi2 => hsame i zom (fun b t hb => by have := hbl b t hb; omega)) zom (by rw [hA5.own.1]; rfl) (by rw [hA5.own.1]; rfl)
theorem zhk {x y : Operand} {r : Int} {H G : Heap} {base A nx : Nat} {a : Aut} {l : List (Option (Nat × Nat))} {vi vf vo vc vn : Value} {ob : Option (Nat × Nat)} (hm : MkIn H base A nx a l vi vf vo vc vn) (hj : l[1]? = some ob) (hown : OwnInts H ob 3 vf a.final) (hl : a.final.length ≤ 1000) (x4 : Ext nx H (nx + 1) G) (hone : RowsAt z9R 1 G (.slice (some ⟨nx, 0, none⟩) 1 1) [r])
  (hd : d < n) (hx : ASt.ev ⟨tm, n, G, nx + 1⟩ x = some vf) (hy : ASt.ev ⟨tm, n, G, nx + 1⟩ y = some (.slice (some ⟨nx, 0, none⟩) 1 1))
  (hc : ∀ (v' : Value) (nx5 : Nat) (H5 : Heap) (l5 : List (Option (Nat × Nat))) (ob5 : Option (Nat × Nat)), H5 A = some (.cells (zy a vi vf vo vc vn) 0 none false (some 30)) →
   MkIn (H5.put A (.cells (zy (zbK a r) vi v' vo vc vn) 0 none false (some 30))) base A nx5 (zbK a r) l5 vi v' vo vc vn → l5[1]? = some ob5 → OwnInts (H5.put A (.cells (zy (zbK a r) vi v' vo vc vn) 0 none false (some 30))) ob5 3 v' (zbK a r).final → (∀ i, i < base → i ≠ A → H5 i = H i) → nx ≤ nx5 → v'.cells = #[v'] → v'.oneCell' = true → OpsL Tryz.prog W0 ops os ⟨zk tm (some d) v', n, H5, nx5⟩ QQ) :
  OpsL Tryz.prog W0 ops (⟨some d, .call ⟨.builtin .append, #[x, y], #[22, 22]⟩, type, pos, after, none⟩ :: os) ⟨tm, n, G, nx + 1⟩ QQ := by
 have hA := hm.hA;have hB := hm.hb;have hbl : ∀ b t, ob = some (b, t) → base ≤ b ∧ b ≠ A ∧ b < nx := fun b t hb => hm.sep.1 1 b t (by rw [hj, hb]);have hG : z5A G ob vf a.final := OwnOf.ext x4 (fun b t h => (hbl b t h).2.2) (zbt hown);refine zJ (bytes := 8) (z := [.int .i64 0]) zX z1o zom hd hG hone hx hy (fun b t h => by have := (hbl b t h).2.2; omega) zxr zxr zxr zxr zxr rfl (by simp; omega) zom ?_;intro v' nx5 H5 ob5 hA5
 obtain ⟨b5, t5, hob5⟩ : ∃ b t, ob5 = some (b, t) := by
  cases ob5 with
  | none => exfalso; have := hA5.own.2.2; simp at this
  | some x => exact ⟨x.1, x.2, rfl⟩
 subst hob5;have hle5 := hA5.le;have hsame : ∀ i, i < nx → (∀ b t, ob = some (b, t) → i ≠ b) → H5 i = H i := fun i hi hb => by rw [hA5.same i zom hb, x4.2 i hi]
 obtain ⟨k1, k2⟩ := hA5.blk b5 t5 rfl;have hm2 := hm.putF (p := r) (nx1 := nx5) hj (z5W hA5.own) (by rcases k2 with k2 | k2; exact .inl zom; exact .inr k2) k1 zom hsame
 have hb5 : b5 ≠ A := by
  rcases k2 with k2 | ⟨t0, k3⟩
  ·omega
  ·exact (hbl _ _ k3).2.1
 refine hc v' nx5 H5 _ (some (b5, t5)) ((hsame A hA (fun b t hb e => (hbl b t hb).2.1 e.symm)).trans hm.cell) hm2 (by rw [List.getElem?_set_self (by rw [hm.len]; decide)]) (OwnRow.same (fun b t h => by cases h; exact za hb5) (z5W hA5.own)) (fun i hi hi2 => hsame i zom (fun b t hb => by have := hbl b t hb; omega)) zom (by rw [hA5.own.1]; rfl) (by rw [hA5.own.1]; rfl)
theorem zhh {x y : Operand} {r : R4} {H G : Heap} {base A nx : Nat} {a : Aut} {l : List (Option (Nat × Nat))} {vi vf vo vc vn : Value} (hm : MkIn H base A nx a l vi vf vo vc vn) (hl : a.opens.length ≤ 1000) (x4 : Ext nx H (nx + 1) G) (hone : RowsAt e4 4 G (.slice (some ⟨nx, 0, none⟩) 1 1) [r])
  (hd : d < n) (hx : ASt.ev ⟨tm, n, G, nx + 1⟩ x = some vo) (hy : ASt.ev ⟨tm, n, G, nx + 1⟩ y = some (.slice (some ⟨nx, 0, none⟩) 1 1))
  (hc : ∀ (v' : Value) (nx5 : Nat) (H5 : Heap) (l5 : List (Option (Nat × Nat))), H5 A = some (.cells (zy a vi vf vo vc vn) 0 none false (some 30)) →
   MkIn (H5.put A (.cells (zy (zaW a r) vi vf v' vc vn) 0 none false (some 30))) base A nx5 (zaW a r) l5 vi vf v' vc vn → (∀ i, i < nx → (∀ b t, l[2]? = some (some (b, t)) → i ≠ b) → H5 i = H i) → nx ≤ nx5 → v'.cells = #[v'] → v'.oneCell' = true → OpsL Tryz.prog W0 ops os ⟨zk tm (some d) v', n, H5, nx5⟩ QQ) :
  OpsL Tryz.prog W0 ops (⟨some d, .call ⟨.builtin .append, #[x, y], #[26, 26]⟩, type, pos, after, none⟩ :: os) ⟨tm, n, G, nx + 1⟩ QQ := by
 obtain ⟨ob, hj, hown⟩ := hm.opens;have hA := hm.hA;have hB := hm.hb;have hbl : ∀ b t, ob = some (b, t) → base ≤ b ∧ b ≠ A ∧ b < nx := fun b t hb => hm.sep.1 2 b t (by rw [hj, hb]);refine zJ (bytes := 32) (z := rep 4 [.int .i64 0]) z0y z4p zom hd (hown.ext x4 (fun b t h => (hbl b t h).2.2)) hone hx hy (fun b t h => by have := (hbl b t h).2.2; omega) zxr zxr zxr zxr zxr rfl (by simp; omega) zom ?_;intro v' nx5 H5 ob5 hA5
 obtain ⟨b5, t5, hob5⟩ : ∃ b t, ob5 = some (b, t) := by
  cases ob5 with
  | none => exfalso; have := hA5.own.2.2; simp at this
  | some x => exact ⟨x.1, x.2, rfl⟩
 subst hob5;have hle5 := hA5.le;have hsame : ∀ i, i < nx → (∀ b t, ob = some (b, t) → i ≠ b) → H5 i = H i := fun i hi hb => by rw [hA5.same i zom hb, x4.2 i hi]
 obtain ⟨k1, k2⟩ := hA5.blk b5 t5 rfl;have hm2 := hm.putO (p := r) (nx1 := nx5) hj hA5.own (by rcases k2 with k2 | k2; exact .inl zom; exact .inr k2) k1 zom hsame;refine hc v' nx5 H5 _ ((hsame A hA (fun b t hb e => (hbl b t hb).2.1 e.symm)).trans hm.cell) hm2 (fun i hi hi2 => hsame i hi (fun b t hb => hi2 b t (by rw [hj, hb]))) zom (by rw [hA5.own.1]; rfl) (by rw [hA5.own.1]; rfl)
theorem zhl {x y : Operand} {r : R4} {H G : Heap} {base A nx : Nat} {a : Aut} {l : List (Option (Nat × Nat))} {vi vf vo vc vn : Value} (hm : MkIn H base A nx a l vi vf vo vc vn) (hl : a.closes.length ≤ 1000) (x4 : Ext nx H (nx + 1) G) (hone : RowsAt e4 4 G (.slice (some ⟨nx, 0, none⟩) 1 1) [r])
  (hd : d < n) (hx : ASt.ev ⟨tm, n, G, nx + 1⟩ x = some vc) (hy : ASt.ev ⟨tm, n, G, nx + 1⟩ y = some (.slice (some ⟨nx, 0, none⟩) 1 1))
  (hc : ∀ (v' : Value) (nx5 : Nat) (H5 : Heap) (l5 : List (Option (Nat × Nat))), H5 A = some (.cells (zy a vi vf vo vc vn) 0 none false (some 30)) →
   MkIn (H5.put A (.cells (zy (zaX a r) vi vf vo v' vn) 0 none false (some 30))) base A nx5 (zaX a r) l5 vi vf vo v' vn → (∀ i, i < nx → (∀ b t, l[3]? = some (some (b, t)) → i ≠ b) → H5 i = H i) → nx ≤ nx5 → v'.cells = #[v'] → v'.oneCell' = true → OpsL Tryz.prog W0 ops os ⟨zk tm (some d) v', n, H5, nx5⟩ QQ) :
  OpsL Tryz.prog W0 ops (⟨some d, .call ⟨.builtin .append, #[x, y], #[27, 27]⟩, type, pos, after, none⟩ :: os) ⟨tm, n, G, nx + 1⟩ QQ := by
 obtain ⟨ob, hj, hown⟩ := hm.closes;have hA := hm.hA;have hB := hm.hb;have hbl : ∀ b t, ob = some (b, t) → base ≤ b ∧ b ≠ A ∧ b < nx := fun b t hb => hm.sep.1 3 b t (by rw [hj, hb]);refine zJ (bytes := 32) (z := rep 4 [.int .i64 0]) z0y z4p zom hd (hown.ext x4 (fun b t h => (hbl b t h).2.2)) hone hx hy (fun b t h => by have := (hbl b t h).2.2; omega) zxr zxr zxr zxr zxr rfl (by simp; omega) zom ?_;intro v' nx5 H5 ob5 hA5
 obtain ⟨b5, t5, hob5⟩ : ∃ b t, ob5 = some (b, t) := by
  cases ob5 with
  | none => exfalso; have := hA5.own.2.2; simp at this
  | some x => exact ⟨x.1, x.2, rfl⟩
 subst hob5;have hle5 := hA5.le;have hsame : ∀ i, i < nx → (∀ b t, ob = some (b, t) → i ≠ b) → H5 i = H i := fun i hi hb => by rw [hA5.same i zom hb, x4.2 i hi]
 obtain ⟨k1, k2⟩ := hA5.blk b5 t5 rfl;have hm2 := hm.putC (p := r) (nx1 := nx5) hj hA5.own (by rcases k2 with k2 | k2; exact .inl zom; exact .inr k2) k1 zom hsame;refine hc v' nx5 H5 _ ((hsame A hA (fun b t hb e => (hbl b t hb).2.1 e.symm)).trans hm.cell) hm2 (fun i hi hi2 => hsame i hi (fun b t hb => hi2 b t (by rw [hj, hb]))) zom (by rw [hA5.own.1]; rfl) (by rw [hA5.own.1]; rfl)
theorem zhi {x y : Operand} {r : R3} {H G : Heap} {base A nx : Nat} {a : Aut} {l : List (Option (Nat × Nat))} {vi vf vo vc vn : Value} (hm : MkIn H base A nx a l vi vf vo vc vn) (hl : a.inners.length ≤ 1000) (x4 : Ext nx H (nx + 1) G) (hone : RowsAt e3 3 G (.slice (some ⟨nx, 0, none⟩) 1 1) [r])
  (hd : d < n) (hx : ASt.ev ⟨tm, n, G, nx + 1⟩ x = some vn) (hy : ASt.ev ⟨tm, n, G, nx + 1⟩ y = some (.slice (some ⟨nx, 0, none⟩) 1 1))
  (hc : ∀ (v' : Value) (nx5 : Nat) (H5 : Heap) (l5 : List (Option (Nat × Nat))), H5 A = some (.cells (zy a vi vf vo vc vn) 0 none false (some 30)) →
   MkIn (H5.put A (.cells (zy (zcX a r) vi vf vo vc v') 0 none false (some 30))) base A nx5 (zcX a r) l5 vi vf vo vc v' → (∀ i, i < nx → (∀ b t, l[4]? = some (some (b, t)) → i ≠ b) → H5 i = H i) → nx ≤ nx5 → v'.cells = #[v'] → v'.oneCell' = true → OpsL Tryz.prog W0 ops os ⟨zk tm (some d) v', n, H5, nx5⟩ QQ) :
  OpsL Tryz.prog W0 ops (⟨some d, .call ⟨.builtin .append, #[x, y], #[28, 28]⟩, type, pos, after, none⟩ :: os) ⟨tm, n, G, nx + 1⟩ QQ := by
 obtain ⟨ob, hj, hown⟩ := hm.inners;have hA := hm.hA;have hB := hm.hb;have hbl : ∀ b t, ob = some (b, t) → base ≤ b ∧ b ≠ A ∧ b < nx := fun b t hb => hm.sep.1 4 b t (by rw [hj, hb]);refine zJ (bytes := 24) (z := rep 3 [.int .i64 0]) z3H zdf zom hd (hown.ext x4 (fun b t h => (hbl b t h).2.2)) hone hx hy (fun b t h => by have := (hbl b t h).2.2; omega) zxr zxr zxr zxr zxr rfl (by simp; omega) zom ?_;intro v' nx5 H5 ob5 hA5
 obtain ⟨b5, t5, hob5⟩ : ∃ b t, ob5 = some (b, t) := by
  cases ob5 with
  | none => exfalso; have := hA5.own.2.2; simp at this
  | some x => exact ⟨x.1, x.2, rfl⟩
 subst hob5;have hle5 := hA5.le;have hsame : ∀ i, i < nx → (∀ b t, ob = some (b, t) → i ≠ b) → H5 i = H i := fun i hi hb => by rw [hA5.same i zom hb, x4.2 i hi]
 obtain ⟨k1, k2⟩ := hA5.blk b5 t5 rfl;have hm2 := hm.putN (p := r) (nx1 := nx5) hj hA5.own (by rcases k2 with k2 | k2; exact .inl zom; exact .inr k2) k1 zom hsame;refine hc v' nx5 H5 _ ((hsame A hA (fun b t hb e => (hbl b t hb).2.1 e.symm)).trans hm.cell) hm2 (fun i hi hi2 => hsame i hi (fun b t hb => hi2 b t (by rw [hj, hb]))) zom (by rw [hA5.own.1]; rfl) (by rw [hA5.own.1]; rfl)
end
end Go.Proofs.YteplpegfcpmflaaGreat
namespace Go.Proofs.YteplpegfcpmflaaGreat
open Go.RowKit Go.Am
attribute [local irreducible] aop OpsL Trip zI z2w OpsK OpsR
theorem zai {r : List Int} {k : Nat} {x : Int} (h : z0O lt1 r) (hk : k ≤ r.length) (h1 : ∀ j (hj : j < r.length), k ≤ j → lt1 x r[j]) (h2 : k = 0 ∨ ∃ h : k - 1 < r.length, lt1 r[k - 1] x) : z0O lt1 (r.take k ++ x :: r.drop k) := by
 unfold z0O at *;have hp : (r.take k ++ r.drop k).Pairwise lt1 := by rw [List.take_append_drop]; exact h
 obtain ⟨p1, p2, p3⟩ := List.pairwise_append.1 hp
 have hxd : ∀ y ∈ r.drop k, lt1 x y := fun y hy => by
  obtain ⟨i, hi, rfl⟩ := List.getElem_of_mem hy;rw [List.length_drop] at hi;rw [List.getElem_drop];exact h1 _ zom zom
 refine List.pairwise_append.2 ⟨p1, List.pairwise_cons.2 ⟨hxd, p2⟩, fun a ha b hb => ?_⟩
 have hax : lt1 a x := by
  obtain ⟨i, hi, rfl⟩ := List.getElem_of_mem ha;rw [List.length_take] at hi;rw [List.getElem_take];rcases h2 with h2 | ⟨hlt, h2⟩
  ·omega
  ·by_cases hik : i = k - 1
   ·subst hik; exact h2
   ·exact z9L.tr (List.pairwise_iff_getElem.1 h i (k - 1) zom hlt zom) h2
 rcases List.mem_cons.1 hb with rfl | hb
 ·exact hax
 ·exact z9L.tr hax (hxd b hb)
theorem zeZ {r : List Int} {k : Nat} {x y : Int} : y ∈ r.take k ++ x :: r.drop k ↔ y ∈ r ∨ y = x := by
 have : y ∈ r ↔ y ∈ r.take k ∨ y ∈ r.drop k := by rw [← List.mem_append, List.take_append_drop]
 rw [List.mem_append, List.mem_cons, this];constructor
 ·rintro (h | h | h)
  ·exact .inl (.inl h)
  ·exact .inr h
  ·exact .inl (.inr h)
 ·rintro ((h | h) | h)
  ·exact .inl h
  ·exact .inr (.inr h)
  ·exact .inr (.inl h)
theorem zc5 {H : Heap} {ob : Option (Nat × Nat)} {v : Value} {l : List Int} {k : Nat} (h : z5A H ob v l) (hk : k ≤ l.length) :
  (∃ r, z0Q Tryz.prog H 22 v none (some (.int .i64 k)) none = some r ∧ AtI H r (l.take k)) ∧ ∃ r, z0Q Tryz.prog H 22 v (some (.int .i64 k)) none none = some r ∧ AtI H r (l.drop k) := by
 cases ob with
 | none =>
  obtain ⟨rfl, _, h2⟩ := h;have hl : l = [] := List.eq_nil_of_length_eq_zero h2;subst hl;have hk0 : k = 0 := by simpa using hk
  subst hk0;exact ⟨⟨_, z3e zxr (sz := 1) zxr (.inl ⟨rfl, rfl⟩) (.inr ⟨.i64, rfl⟩), .inl ⟨0, rfl, rfl⟩⟩, ⟨_, z3e zxr (sz := 1) zxr (.inr ⟨.i64, rfl⟩) (.inl ⟨rfl, rfl⟩), .inl ⟨0, rfl, rfl⟩⟩⟩
 | some bt =>
  obtain ⟨b, t⟩ := bt;obtain ⟨rfl, _, rest, ho⟩ := h;refine ⟨⟨_, z06 (el := 3) (sz := 1) (a := ⟨b, 0, some t⟩) (l := 0) (h := k) zxr zxr ho rfl rfl rfl (.inl ⟨rfl, rfl⟩) (.inr ⟨.i64, rfl⟩) (Nat.zero_le _) hk, ?_⟩, ⟨_, z06 (el := 3) (sz := 1) (a := ⟨b, 0, some t⟩) (l := k) (h := l.length) zxr zxr ho rfl rfl rfl (.inr ⟨.i64, rfl⟩) (.inl ⟨rfl, rfl⟩) hk (Nat.le_refl _), ?_⟩⟩
  ·rw [if_neg zom];refine .inr ⟨⟨b, 0 + 0 * 1, some t⟩, k - 0, by rw [List.length_take, Nat.min_eq_left hk, Nat.sub_zero], fun i hi => ?_⟩;rw [List.length_take] at hi;have := z0H (i := i) zX ho zom;rw [List.getElem_take];show z0M H ⟨b, 0 + 0 * 1 + i * 1, some t⟩ 1 = _;rw [show 0 + 0 * 1 + i * 1 = 0 + i * 1 by omega];exact this
  ·refine .inr ⟨⟨b, 0 + k * 1, if k = l.length ∧ 0 < k then none else some t⟩, l.length - k, by rw [List.length_drop], fun i hi => ?_⟩;rw [List.length_drop] at hi;rw [if_neg zom];have := z0H (i := k + i) zX ho zom;rw [List.getElem_drop];show z0M H ⟨b, 0 + k * 1 + i * 1, some t⟩ 1 = _;rw [show 0 + k * 1 + i * 1 = 0 + (k + i) * 1 by omega];exact this
theorem zeP {H : Heap} {ob : Option (Nat × Nat)} {a : Option Addr} {m c : Nat} {l : List Int} {nx : Nat} (h : z5A H ob (.slice a m c) l) (hok : ∀ id o, H id = some o → id < nx) : ∀ p, a = some p → p.block < nx := by
 intro p hp;subst hp;cases ob with
 | none => obtain ⟨h1, _⟩ := h; cases h1
 | some bt =>
  obtain ⟨b, t⟩ := bt;obtain ⟨h1, _, rest, hH⟩ := h;obtain ⟨h3, _, _⟩ := Value.slice.inj h1;cases Option.some.inj h3;exact hok _ _ hH
theorem z2L : Am.z0U Tryz.prog 56 := ⟨Tryz.f56, Tryz.func56, by kernel_rfl, by kernel_rfl⟩
theorem z8K (W0 : World) {nx : Nat} {H : Heap} {v : Value} {l : List Int} (hr : AtI H v l) (hm : l.length ≤ 100000) :
  ACalls Tryz.prog W0 56 [v] nx H fun v nx' H' => ∃ ob r, z0O lt1 r ∧ (∀ x, x ∈ r ↔ x ∈ l) ∧ r.length ≤ l.length ∧ z5A H' ob v r ∧ z2n nx H nx' H' ob := by
 obtain ⟨va, vc, rfl⟩ := hr.slice;refine zl (fn := Tryz.f56) (c := _) Tryz.func56 rfl (fun tm n hn0 htm => ?_);have e0 : tm 0 = .slice va l.length vc := htm 0;clear htm;replace hn0 : n = 60 := hn0;refine Trip.ok fun hok => ?_;replace hok : ∀ id o, H id = some o → id < nx := hok;refine z7B ?_;refine zD (fun (i : Nat) st => ∃ (tm : Nat → Value) (nx' : Nat) (H' : Heap) (ob : Option (Nat × Nat)) (v : Value) (r : List Int), st = ⟨tm, n, H', nx'⟩ ∧ z2n nx H nx' H' ob ∧ z5A H' ob v r ∧ z0O lt1 r ∧ (∀ x, x ∈ r ↔ x ∈ l.take i) ∧ r.length ≤ i ∧ tm 0 = .slice va l.length vc ∧ tm 3 = v ∧ tm 4 = .int .i64 i ∧ i ≤ l.length) (fun i => l.length - i) 0 ?_ ?_
 ·exact ⟨_, _, _, none, _, [], rfl, ⟨Ext.refl, fun _ _ h => (by cases h)⟩, ⟨rfl, rfl, rfl⟩, List.Pairwise.nil, fun x => by simp, Nat.le_refl _, stp, stp, stp, zom⟩
 ·clear e0;rintro i st ⟨tm, nx', H', ob, v, r, rfl, ⟨hx, hob⟩, hown, hst, hmem, hrl, e0, e3, e4, hi⟩;refine Trip.ok fun hok' => ?_;replace hok' : ∀ id o, H' id = some o → id < nx' := hok';by_cases hlt : i < l.length
  ·obtain ⟨p, rfl, g0⟩ := zS hr hlt;have g1 : zj H' ⟨p.block, p.off + (i : Int).toNat * 1, p.spot⟩ (.int .i64 l[i]) := z1O hx hok g0;have hor := hown.at zX;have hrb : ∀ q c m, v = .slice (some q) m c → q.block < nx' := fun q c m e => zeP (by rw [← e]; exact hown) hok' q rfl;obtain ⟨ra, rc, rfl⟩ := hor.slice;have hmt : ∀ x, x ∈ l.take (i + 1) ↔ x ∈ r ∨ x = l[i] := fun x => by rw [List.take_add_one, List.getElem?_eq_getElem hlt, Option.toList_some, List.mem_append, List.mem_singleton, hmem]
   generalize l[i] = x at *;refine z5f ?_;refine z8C ?_
   repeat (first | (refine zd (by first | exact omv | exact z0E | exact z2i) ?_) | refine Trip.seq ?_ | refine zm ?_ | refine Trip.block ?_ | (refine Trip.skip ?_; (change Trip _ _ _ _ _)) | (refine OpsL.nil ?_; (change Trip _ _ _ _ _)))
   -- where it belongs
   refine Trip.mono (Q := fun e st => e = .exit 2 ∧ ∃ (tm' : Nat → Value) (k : Nat), st = ⟨tm', n, H', nx'⟩ ∧ k ≤ r.length ∧ (∀ j (hj : j < r.length), k ≤ j → lt1 x r[j]) ∧ (k = 0 ∨ ∃ h : k - 1 < r.length, 0 < k ∧ ¬ lt1 x r[k - 1]) ∧ tm' 0 = .slice (some p) l.length vc ∧ tm' 3 = .slice ra r.length rc ∧ tm' 4 = .int .i64 i ∧ tm' 5 = .int .i64 k) ?_ ?_
   ·refine zD (fun (k : Nat) st => ∃ (tm : Nat → Value), st = ⟨tm, n, H', nx'⟩ ∧ k ≤ r.length ∧ (∀ j (hj : j < r.length), k ≤ j → lt1 x r[j]) ∧ tm 0 = .slice (some p) l.length vc ∧ tm 3 = .slice ra r.length rc ∧ tm 4 = .int .i64 i ∧ tm 5 = .int .i64 k) (fun k => k) r.length ?_ ?_
    ·exact ⟨_, rfl, Nat.le_refl _, fun j hj h => by omega, stp, stp, stp, stp⟩
    ·clear e0 e3 e4;rintro k st ⟨tm, rfl, hk, hgt, e0, e3, e4, e5⟩;by_cases hk0 : 0 < k
     ·obtain ⟨q, rfl, g2⟩ := z6l hor hk0 hk;replace g2 : zj H' ⟨q.block, q.off + ((k : Int) - 1).toNat * 1, q.spot⟩ (.int .i64 (r[k - 1]'zom)) := g2
      repeat (refine Trip.seq ?_)
      refine Trip.mono (Q := fun e st => e = .normal ∧ ∃ (tm' : Nat → Value), st = ⟨tm', n, H', nx'⟩ ∧ tm' 0 = .slice (some p) l.length vc ∧ tm' 3 = .slice (some q) r.length rc ∧ tm' 4 = .int .i64 i ∧ tm' 5 = .int .i64 k ∧ tm' 27 = .bool (decide (lt1 x (r[k - 1]'zom)))) ?_ ?_
      ·refine OpsK.drawn (K := fun _ _ => True) z0u krf krf trivial ?_;refine z9H ?_;refine z2G ?_;refine z3h ?_;refine z9H ?_;refine z79 ?_;refine z3E ?_;refine z79 ?_;refine zi4 ?_;refine zgc ?_;refine zi4 ?_
       repeat (refine zz ?_)
       refine zd (zev) ?_;refine z3M ?_;refine zaT ?_;refine OpsK.nil ?_;exact ⟨rfl, _, rfl, stp, stp, stp, stp, by simp [zk, lt1]⟩
      ·clear e0 e3 e4 e5;rintro e st ⟨rfl, tm', rfl, e0, e3, e4, e5, e27⟩
       (change Trip _ _ _ _ _)
       by_cases hxl : lt1 x (r[k - 1]'zom)
       ·rw [decide_eq_true hxl] at e27
        repeat fail
        refine z0F ?_
        repeat (first | (refine zd (by first | exact omv | exact z0E | exact z7C) ?_) | refine zm ?_ | refine Trip.block ?_ | (refine Trip.skip ?_; (change Trip _ _ _ _ _)) | (refine OpsL.nil ?_; ((repeat (refine zN ?_)); dsimp only)))
        refine ⟨k - 1, ⟨_, rfl, zom, fun j hj h => ?_, stp, stp, stp, by simp [zk, *]; omega⟩, zom⟩;by_cases hjk : j = k - 1
        ·subst hjk; exact hxl
        ·exact hgt j hj zom
       ·rw [decide_eq_false hxl] at e27
        repeat fail
        refine z0a ?_
        repeat (refine Trip.exit ?_; (dsimp only))
        exact ⟨rfl, _, k, rfl, hk, hgt, .inr ⟨zom, hk0, hxl⟩, stp, stp, stp, stp⟩
     ·have hk00 : k = 0 := by omega
      subst hk00
      repeat (refine Trip.seq ?_)
      refine Trip.mono (Q := fun e st => e = .normal ∧ ∃ (tm' : Nat → Value), st = ⟨tm', n, H', nx'⟩ ∧ tm' 0 = .slice (some p) l.length vc ∧ tm' 3 = .slice ra r.length rc ∧ tm' 4 = .int .i64 i ∧ tm' 5 = .int .i64 (0 : Nat) ∧ tm' 27 = .bool false) ?_ ?_
      ·refine OpsK.drawn (K := fun _ _ => True) z0u krf krf trivial ?_;refine z9H ?_;refine z2e ?_;refine z3M ?_;refine zg2 ?_;refine zg7 ?_;refine zg7 ?_;refine zg7 ?_;refine z3E ?_;refine zej ?_;refine z3E ?_;refine zfJ ?_;refine OpsK.nil ?_;exact ⟨rfl, _, rfl, stp, stp, stp, stp, by simp [zk]⟩
      ·clear e0 e3 e4 e5;rintro e st ⟨rfl, tm', rfl, e0, e3, e4, e5, e27⟩
       (change Trip _ _ _ _ _)
       repeat fail
       refine z0a ?_
       repeat (refine Trip.exit ?_; (dsimp only))
       exact ⟨rfl, _, 0, rfl, hk, hgt, .inl rfl, stp, stp, stp, stp⟩
   ·clear e0 e3 e4;rintro e st ⟨rfl, tm', k, rfl, hk, hgt, hle, e0, e3, e4, e5⟩;refine z5e ?_
    repeat (refine Trip.seq ?_)
    refine Trip.mono (Q := fun e st => e = .normal ∧ ∃ (tm' : Nat → Value) (B : Bool), st = ⟨tm', n, H', nx'⟩ ∧ tm' 0 = .slice (some p) l.length vc ∧ tm' 3 = .slice ra r.length rc ∧ tm' 4 = .int .i64 i ∧ tm' 5 = .int .i64 k ∧ tm' 43 = .bool B ∧ (B = true → k = 0 ∨ ∃ h : k - 1 < r.length, r[k - 1] ≠ x) ∧ (B = false → x ∈ r)) ?_ ?_
    ·by_cases hk0 : 0 < k
     ·obtain ⟨q, rfl, g2⟩ := z6l hor hk0 hk;replace g2 : zj H' ⟨q.block, q.off + ((k : Int) - 1).toNat * 1, q.spot⟩ (.int .i64 (r[k - 1]'zom)) := g2;refine OpsK.drawn (K := fun _ _ => True) z0u krf krf trivial ?_;refine z9H ?_;refine z00 ?_;refine z3h ?_;refine z9H ?_;refine zgc ?_;refine zi4 ?_;refine z79 ?_;refine z3E ?_;refine z79 ?_;refine zi4 ?_
      repeat (refine zz ?_)
      refine zd (zi8) ?_;refine z3M ?_;refine zfJ ?_;refine OpsK.nil ?_;refine ⟨rfl, _, decide (r[k - 1]'zom ≠ x), rfl, stp, stp, stp, stp, by simp [zk], fun h => .inr ⟨zom, by simpa using h⟩, fun h => ?_⟩;have : r[k - 1]'zom = x := by simpa using h
      rw [← this];exact List.getElem_mem _
     ·have hk00 : k = 0 := by omega
      subst hk00;refine OpsK.drawn (K := fun _ _ => True) z0u krf krf trivial ?_;refine z9H ?_;refine zZ ?_;refine z3M ?_;refine zg2 ?_;refine zg7 ?_;refine zg7 ?_;refine zg7 ?_;refine z3E ?_;refine zej ?_;refine z3E ?_;refine zaT ?_;refine OpsK.nil ?_;exact ⟨rfl, _, true, rfl, stp, stp, stp, stp, by simp [zk], fun h => .inl rfl, fun h => (by cases h)⟩
    ·clear e0 e3 e4 e5;rintro e st ⟨rfl, tm', B, rfl, e0, e3, e4, e5, e43, hB1, hB2⟩
     (change Trip _ _ _ _ _)
     cases B with
     | false =>
      have hxr := hB2 rfl
      repeat fail
      refine zg3 ?_;refine ⟨i + 1, ⟨_, nx', H', ob, _, r, rfl, ⟨hx, hob⟩, hown, hst, fun y => ?_, zom, stp, stp, stp, zom⟩, zom⟩;rw [hmt];constructor
      ·exact .inl
      ·rintro (h | h)
       ·exact h
       ·rw [h]; exact hxr
     | true =>
      have hfront : k = 0 ∨ ∃ h : k - 1 < r.length, lt1 r[k - 1] x := by
       rcases hB1 rfl with h | ⟨h, hne⟩
       ·exact .inl h
       ·rcases hle with h0 | ⟨h0, h1, h2⟩
        ·exact .inl h0
        ·refine .inr ⟨h0, ?_⟩;by_cases h3 : lt1 r[k - 1] x
         ·exact h3
         ·exact absurd (z9L.tot h3 h2) hne
      obtain ⟨⟨v1, hv1, p1⟩, ⟨v2, hv2, p2⟩⟩ := zc5 hown hk;have hrb' : ∀ q, ra = some q → q.block < nx' := fun q e => hrb q rc r.length (by rw [e])
      repeat fail
      refine z0F ?_
      repeat fail
      refine Trip.mono (Q := fun e st => e = .normal ∧ ∃ (tm' : Nat → Value) (nx5 : Nat) (H5 : Heap) (ob5 : Option (Nat × Nat)) (v5 : Value), st = ⟨tm', n, H5, nx5⟩ ∧ Ext nx' H' nx5 H5 ∧ z5A H5 ob5 v5 (r.take k ++ x :: r.drop k) ∧ (∀ b t, ob5 = some (b, t) → nx' ≤ b ∧ b < nx5) ∧ tm' 0 = .slice (some p) l.length vc ∧ tm' 3 = v5 ∧ tm' 4 = .int .i64 i) ?_ ?_
      ·refine zaO [0, 4, 9, 10, 14, 15] (K := fun nx1 H1 => Ext nx' H' nx1 H1) z0u krf krf [1, 2, 3, 5, 6, 7, 8, 11, 12, 13, 0, 9, 4, 10, 14, 15] krf Ext.refl ?_;refine z4J ?_;refine zA (v := v1) rfl krf zsd Ext.refl (fun H2 nx2 hK => z07 (r := v1) (a := none) (b := some (.int .i64 k)) (c := none) evr rfl zer rfl (by rw [z6J (fun q hq => hK.2 _ (hrb' q hq))]; exact hv1)) ?_;refine z4J ?_;refine z3L ?_;refine zA (v := .int .i64 x) rfl krf zsd Ext.refl (fun H2 nx2 hK => zp evr zxr rfl (z1O hK hok' g1)) ?_;refine z4J ?_;refine zA (v := v2) rfl krf zsd Ext.refl (fun H2 nx2 hK => z07 (r := v2) (a := some (.int .i64 k)) (b := none) (c := none) evr zer rfl rfl (by rw [z6J (fun q hq => hK.2 _ (hrb' q hq))]; exact hv2)) ?_;refine zY krf (zt rfl rfl ?_) (zt rfl rfl ?_)
       ·skip;refine OpsL.new zsd (zq (l := []) (r := (.slice (some ⟨nx', 0, none⟩) 0 0, .new (.cells [] 1 none false (some 3)))) (by simp only [z0h]) krf) ?_;have xGA : Ext nx' H' (nx' + 1) ((H').put nx' (.cells [] 1 none false (some 3))) := zh;have kGA := zF (o := (.cells [] 1 none false (some 3))) hok';have hEGA : RowE z9R 1 3 ((H').put nx' (.cells [] 1 none false (some 3))) none (.slice (some ⟨nx', 0, none⟩) 0 0) ([] : List Int) := .inr ⟨rfl, rfl, nx', 1, false, _, rfl, zb⟩;generalize ((H').put nx' (.cells [] 1 none false (some 3))) = GA at *;refine OpsL.nil ⟨xGA, ?_⟩;refine zY krf (zt rfl rfl ?_) (zt rfl rfl ?_)
        ·skip;refine OpsL.new zsd (zq (l := [(0, .int .i64 x)]) (r := (.slice (some ⟨(nx' + 1), 0, none⟩) 1 1, .new (.cells [.int .i64 x] 1 none false (some 3)))) zeq krf) ?_;have xGB : Ext (nx' + 1) GA ((nx' + 1) + 1) ((GA).put (nx' + 1) (.cells [.int .i64 x] 1 none false (some 3))) := zh;have kGB := zF (o := (.cells [.int .i64 x] 1 none false (some 3))) kGA
         have hOGB : AtI ((GA).put (nx' + 1) (.cells [.int .i64 x] 1 none false (some 3))) (.slice (some ⟨(nx' + 1), 0, none⟩) 1 1) [x] := by
          refine .inr ⟨⟨(nx' + 1), 0, none⟩, 1, rfl, fun j hj => ?_⟩;have : j = 0 := by simpa using hj
          subst this;exact z08 (by show 0 + 1 ≤ 1; decide)
         generalize ((GA).put (nx' + 1) (.cells [.int .i64 x] 1 none false (some 3))) = GB at *;have xB := xGA.trans xGB;refine OpsL.nil ⟨xB, ?_⟩;refine zg5 ?_;refine z0K (bytes := 8) (z := [.int .i64 0]) zX z1o zom zsd (hEGA.same xGB kGA (fun b t h => by cases h)) (RowsAt.ext xB hok' p1) evd evd (fun b t h => by cases h) zxr zxr zxr zxr zxr rfl (by simp; omega) zom ?_;intro u7 nx7 H7 o7 hA7;have x7 : Ext nx' H' nx7 H7 := xB.trans ⟨hA7.le, fun i hi => hA7.same i hi (fun b t h => by cases h)⟩;have k7 := hA7.ok (fun b t h => by cases h) kGB
         have hb7 : ∀ b t, o7 = some (b, t) → nx' ≤ b ∧ b < nx7 := fun b t h => by
          obtain ⟨i1, i2⟩ := hA7.blk b t h;rcases i2 with rfl | ⟨t', h'⟩
          ·exact ⟨zom, i1⟩
          ·cases h'
         have hR7 := hA7.own;rw [List.nil_append] at hR7;have hO7 := RowsAt.ext (nx' := nx7) (H' := H7) ⟨hA7.le, fun i hi => hA7.same i hi (fun b t h => by cases h)⟩ kGB hOGB;refine OpsL.nil ⟨x7, ?_⟩;clear hv1 hv2 p1 hrb hrb' hor hown g1;refine zg5 ?_;refine z0K (bytes := 8) (z := [.int .i64 0]) zX z1o zom zsd hR7 hO7 evd evd (fun b t h => (hb7 b t h).2) zxr zxr zxr zxr zxr rfl (by simp; omega) zom ?_;intro u8 nx8 H8 o8 hA8;have x8 : Ext nx' H' nx8 H8 := ⟨by have := x7.1; have := hA8.le; omega, fun i hi => by rw [hA8.same i (by have := x7.1; omega) (fun b t h => by have := hb7 b t h; omega), x7.2 i hi]⟩;have k8 := hA8.ok (fun b t h => (hb7 b t h).2) k7
         have hb8 : ∀ b t, o8 = some (b, t) → nx' ≤ b ∧ b < nx8 := fun b t h => by
          obtain ⟨i1, i2⟩ := hA8.blk b t h;rcases i2 with rfl | ⟨t', h'⟩
          ·exact ⟨x7.1, i1⟩
          ·exact ⟨(hb7 _ _ h').1, i1⟩
         refine OpsL.nil ⟨x8, ?_⟩;refine zg5 ?_;refine z0K (bytes := 8) (z := [.int .i64 0]) zX z1o zom zsd hA8.own (RowsAt.ext x8 hok' p2) evd evd (fun b t h => (hb8 b t h).2) zxr zxr zxr zxr zxr rfl (by simp; omega) zom ?_;intro u9 nx9 H9 o9 hA9;have x9 : Ext nx' H' nx9 H9 := ⟨by have := x8.1; have := hA9.le; omega, fun i hi => by rw [hA9.same i (by have := x8.1; omega) (fun b t h => by have := hb8 b t h; omega), x8.2 i hi]⟩
         have hb9 : ∀ b t, o9 = some (b, t) → nx' ≤ b ∧ b < nx9 := fun b t h => by
          obtain ⟨i1, i2⟩ := hA9.blk b t h;rcases i2 with rfl | ⟨t', h'⟩
          ·exact ⟨x8.1, i1⟩
          ·exact ⟨(hb8 _ _ h').1, i1⟩
         have hown9 : z5A H9 o9 u9 (r.take k ++ x :: r.drop k) := by
          have h := hA9.own;rw [List.append_assoc, List.singleton_append] at h;rcases h with h | ⟨_, h, _⟩
          ·exact h
          ·simp at h
         refine OpsL.nil ⟨x9, ?_⟩;refine zfU ?_;refine ⟨x9, ?_⟩;refine z0T ?_;exact ⟨rfl, _, nx9, H9, o9, u9, rfl, x9, hown9, hb9, stp, stp, stp⟩
        ·skip;refine z0K (bytes := 8) (z := [.int .i64 0]) zX z1o zom zsd hEGA (RowsAt.ext xGA hok' p1) evd evd (fun b t h => by cases h) zxr zxr zxr zxr zxr rfl (by simp; omega) zom ?_;intro u6 nx6 H6 o6 hA6;have x6 : Ext nx' H' nx6 H6 := xGA.trans ⟨hA6.le, fun i hi => hA6.same i hi (fun b t h => by cases h)⟩;have k6 := hA6.ok (fun b t h => by cases h) kGA
         have hb6 : ∀ b t, o6 = some (b, t) → nx' ≤ b ∧ b < nx6 := fun b t h => by
          obtain ⟨i1, i2⟩ := hA6.blk b t h;rcases i2 with rfl | ⟨t', h'⟩
          ·exact ⟨zom, i1⟩
          ·cases h'
         have hR6 := hA6.own;rw [List.nil_append] at hR6;refine OpsL.nil ⟨x6, ?_⟩;refine zg5 ?_;refine OpsL.new zsd (zq (l := [(0, .int .i64 x)]) (r := (.slice (some ⟨nx6, 0, none⟩) 1 1, .new (.cells [.int .i64 x] 1 none false (some 3)))) zeq krf) ?_;have xH7 : Ext nx6 H6 (nx6 + 1) ((H6).put nx6 (.cells [.int .i64 x] 1 none false (some 3))) := zh;have kH7 := zF (o := (.cells [.int .i64 x] 1 none false (some 3))) k6
         have hOH7 : AtI ((H6).put nx6 (.cells [.int .i64 x] 1 none false (some 3))) (.slice (some ⟨nx6, 0, none⟩) 1 1) [x] := by
          refine .inr ⟨⟨nx6, 0, none⟩, 1, rfl, fun j hj => ?_⟩;have : j = 0 := by simpa using hj
          subst this;exact z08 (by show 0 + 1 ≤ 1; decide)
         generalize ((H6).put nx6 (.cells [.int .i64 x] 1 none false (some 3))) = H7 at *;obtain ⟨nx7, hnx7⟩ : ∃ m, m = nx6 + 1 := ⟨_, rfl⟩;rw [← hnx7] at xH7 kH7 ⊢;have x7 : Ext nx' H' nx7 H7 := x6.trans xH7;have k7 := kH7;have hO7 := hOH7;have hR7 := hR6.same xH7 k6 (fun b t h => (hb6 b t h).2);have hb7 : ∀ b t, o6 = some (b, t) → nx' ≤ b ∧ b < nx7 := fun b t h => by have := hb6 b t h; omega
         refine OpsL.nil ⟨x7, ?_⟩;clear hv1 hv2 p1 hrb hrb' hor hown g1;refine zg5 ?_;refine z0K (bytes := 8) (z := [.int .i64 0]) zX z1o zom zsd hR7 hO7 evd evd (fun b t h => (hb7 b t h).2) zxr zxr zxr zxr zxr rfl (by simp; omega) zom ?_;intro u8 nx8 H8 o8 hA8;have x8 : Ext nx' H' nx8 H8 := ⟨by have := x7.1; have := hA8.le; omega, fun i hi => by rw [hA8.same i (by have := x7.1; omega) (fun b t h => by have := hb7 b t h; omega), x7.2 i hi]⟩;have k8 := hA8.ok (fun b t h => (hb7 b t h).2) k7
         have hb8 : ∀ b t, o8 = some (b, t) → nx' ≤ b ∧ b < nx8 := fun b t h => by
          obtain ⟨i1, i2⟩ := hA8.blk b t h;rcases i2 with rfl | ⟨t', h'⟩
          ·exact ⟨x7.1, i1⟩
          ·exact ⟨(hb7 _ _ h').1, i1⟩
         refine OpsL.nil ⟨x8, ?_⟩;refine zg5 ?_;refine z0K (bytes := 8) (z := [.int .i64 0]) zX z1o zom zsd hA8.own (RowsAt.ext x8 hok' p2) evd evd (fun b t h => (hb8 b t h).2) zxr zxr zxr zxr zxr rfl (by simp; omega) zom ?_;intro u9 nx9 H9 o9 hA9;have x9 : Ext nx' H' nx9 H9 := ⟨by have := x8.1; have := hA9.le; omega, fun i hi => by rw [hA9.same i (by have := x8.1; omega) (fun b t h => by have := hb8 b t h; omega), x8.2 i hi]⟩
         have hb9 : ∀ b t, o9 = some (b, t) → nx' ≤ b ∧ b < nx9 := fun b t h => by
          obtain ⟨i1, i2⟩ := hA9.blk b t h;rcases i2 with rfl | ⟨t', h'⟩
          ·exact ⟨x8.1, i1⟩
          ·exact ⟨(hb8 _ _ h').1, i1⟩
         have hown9 : z5A H9 o9 u9 (r.take k ++ x :: r.drop k) := by
          have h := hA9.own;rw [List.append_assoc, List.singleton_append] at h;rcases h with h | ⟨_, h, _⟩
          ·exact h
          ·simp at h
         refine OpsL.nil ⟨x9, ?_⟩;refine zfU ?_;refine ⟨x9, ?_⟩;refine z0T ?_;exact ⟨rfl, _, nx9, H9, o9, u9, rfl, x9, hown9, hb9, stp, stp, stp⟩
       ·skip;refine OpsL.new zsd (zq (l := [(0, .int .i64 x)]) (r := (.slice (some ⟨nx', 0, none⟩) 1 1, .new (.cells [.int .i64 x] 1 none false (some 3)))) zeq krf) ?_;have xGA : Ext nx' H' (nx' + 1) ((H').put nx' (.cells [.int .i64 x] 1 none false (some 3))) := zh;have kGA := zF (o := (.cells [.int .i64 x] 1 none false (some 3))) hok'
        have hOGA : AtI ((H').put nx' (.cells [.int .i64 x] 1 none false (some 3))) (.slice (some ⟨nx', 0, none⟩) 1 1) [x] := by
         refine .inr ⟨⟨nx', 0, none⟩, 1, rfl, fun j hj => ?_⟩;have : j = 0 := by simpa using hj
         subst this;exact z08 (by show 0 + 1 ≤ 1; decide)
        generalize ((H').put nx' (.cells [.int .i64 x] 1 none false (some 3))) = GA at *;refine OpsL.nil ⟨xGA, ?_⟩;refine zg5 ?_;refine OpsL.new zsd (zq (l := []) (r := (.slice (some ⟨(nx' + 1), 0, none⟩) 0 0, .new (.cells [] 1 none false (some 3)))) (by simp only [z0h]) krf) ?_;have xGB : Ext (nx' + 1) GA ((nx' + 1) + 1) ((GA).put (nx' + 1) (.cells [] 1 none false (some 3))) := zh;have kGB := zF (o := (.cells [] 1 none false (some 3))) kGA;have hEGB : RowE z9R 1 3 ((GA).put (nx' + 1) (.cells [] 1 none false (some 3))) none (.slice (some ⟨(nx' + 1), 0, none⟩) 0 0) ([] : List Int) := .inr ⟨rfl, rfl, (nx' + 1), 1, false, _, rfl, zb⟩;generalize ((GA).put (nx' + 1) (.cells [] 1 none false (some 3))) = GB at *;have xB := xGA.trans xGB;refine OpsL.nil ⟨xB, ?_⟩;refine zg5 ?_;refine z0K (bytes := 8) (z := [.int .i64 0]) zX z1o zom zsd hEGB (RowsAt.ext xB hok' p1) evd evd (fun b t h => by cases h) zxr zxr zxr zxr zxr rfl (by simp; omega) zom ?_;intro u7 nx7 H7 o7 hA7;have x7 : Ext nx' H' nx7 H7 := xB.trans ⟨hA7.le, fun i hi => hA7.same i hi (fun b t h => by cases h)⟩;have k7 := hA7.ok (fun b t h => by cases h) kGB
        have hb7 : ∀ b t, o7 = some (b, t) → nx' ≤ b ∧ b < nx7 := fun b t h => by
         obtain ⟨i1, i2⟩ := hA7.blk b t h;rcases i2 with rfl | ⟨t', h'⟩
         ·exact ⟨zom, i1⟩
         ·cases h'
        have hR7 := hA7.own;rw [List.nil_append] at hR7;have hO7 := RowsAt.ext (nx' := nx7) (H' := H7) ⟨hA7.le, fun i hi => hA7.same i hi (fun b t h => by cases h)⟩ kGB (RowsAt.ext xGB kGA hOGA);refine OpsL.nil ⟨x7, ?_⟩;clear hv1 hv2 p1 hrb hrb' hor hown g1;refine zg5 ?_;refine z0K (bytes := 8) (z := [.int .i64 0]) zX z1o zom zsd hR7 hO7 evd evd (fun b t h => (hb7 b t h).2) zxr zxr zxr zxr zxr rfl (by simp; omega) zom ?_;intro u8 nx8 H8 o8 hA8;have x8 : Ext nx' H' nx8 H8 := ⟨by have := x7.1; have := hA8.le; omega, fun i hi => by rw [hA8.same i (by have := x7.1; omega) (fun b t h => by have := hb7 b t h; omega), x7.2 i hi]⟩;have k8 := hA8.ok (fun b t h => (hb7 b t h).2) k7
        have hb8 : ∀ b t, o8 = some (b, t) → nx' ≤ b ∧ b < nx8 := fun b t h => by
         obtain ⟨i1, i2⟩ := hA8.blk b t h;rcases i2 with rfl | ⟨t', h'⟩
         ·exact ⟨x7.1, i1⟩
         ·exact ⟨(hb7 _ _ h').1, i1⟩
        refine OpsL.nil ⟨x8, ?_⟩;refine zg5 ?_;refine z0K (bytes := 8) (z := [.int .i64 0]) zX z1o zom zsd hA8.own (RowsAt.ext x8 hok' p2) evd evd (fun b t h => (hb8 b t h).2) zxr zxr zxr zxr zxr rfl (by simp; omega) zom ?_;intro u9 nx9 H9 o9 hA9;have x9 : Ext nx' H' nx9 H9 := ⟨by have := x8.1; have := hA9.le; omega, fun i hi => by rw [hA9.same i (by have := x8.1; omega) (fun b t h => by have := hb8 b t h; omega), x8.2 i hi]⟩
        have hb9 : ∀ b t, o9 = some (b, t) → nx' ≤ b ∧ b < nx9 := fun b t h => by
         obtain ⟨i1, i2⟩ := hA9.blk b t h;rcases i2 with rfl | ⟨t', h'⟩
         ·exact ⟨x8.1, i1⟩
         ·exact ⟨(hb8 _ _ h').1, i1⟩
        have hown9 : z5A H9 o9 u9 (r.take k ++ x :: r.drop k) := by
         have h := hA9.own;rw [List.append_assoc, List.singleton_append] at h;rcases h with h | ⟨_, h, _⟩
         ·exact h
         ·simp at h
        refine OpsL.nil ⟨x9, ?_⟩;refine zfU ?_;refine ⟨x9, ?_⟩;refine z0T ?_;exact ⟨rfl, _, nx9, H9, o9, u9, rfl, x9, hown9, hb9, stp, stp, stp⟩
      ·skip;clear e0 e3 e4 e5 e43;rintro e st ⟨rfl, tm', nx5, H5, ob5, v5, rfl, x5, hown5, hb5, e0, e3, e4⟩
       ((repeat (refine zN ?_)); change Trip _ _ _ _ _)
       repeat (first | (refine zd (by first | exact omv | exact z0E | exact z6P) ?_) | refine zm ?_ | (refine OpsL.nil ?_; (dsimp only)))
       refine ⟨i + 1, ⟨_, nx5, H5, ob5, v5, r.take k ++ x :: r.drop k, rfl, ⟨hx.trans x5, fun b t h => by have := hb5 b t h; have := hx.1; omega⟩, hown5, zai hst hk hgt hfront, fun y => by rw [hmt, zeZ], ?_, stp, stp, stp, zom⟩, zom⟩;rw [List.length_append, List.length_cons, List.length_take, List.length_drop];omega
  ·have hin : i = l.length := by omega
   subst hin;rw [List.take_length] at hmem;refine z5f ?_;refine z9G ?_;refine z9P ?_;exact ⟨.inr rfl, _, zx, ob, r, hst, hmem, hrl, stp, hx, hob⟩
end Go.Proofs.YteplpegfcpmflaaGreat
namespace Go.Am
theorem zK {P : Program} {nx : Nat} {H : Heap} {ev : Operand → Option Value} {dst : Option Tmp} {type : TypeId} {pos : String} {after : Array Edge} {guard : Option (Nat × Bool)} {t e : TypeId} {x i : Operand} {a : Addr} {len sz : Nat} {k : IntKind} {j : Int} (hx : ev x = some (.pointer (some a))) (hi : ev i = some (.int k j)) (hu : P.underlying t = some (.array len e)) (hs : z1F P e = some sz) (h0 : 0 ≤ j) (h1 : j < len) :
  aop P H nx ev ⟨dst, .indexAddr t x i, type, pos, after, guard⟩ = some (.pointer (some ⟨a.block, a.off + j.toNat * sz, a.spot⟩), .none) := by
 simp [aop, z3f, hx, hi, hu, hs, h0, h1]
def l4 (x : R4) : List Int := [x.1, x.2.1, x.2.2.1, x.2.2.2]
theorem z4P (x : R4) : (l4 x).length = 4 := rfl
theorem ziV {x y : R4} {i : Nat} (hi : i < 4) (hs : ∀ (j : Nat), j < i → (l4 x)[j]? = (l4 y)[j]?) (hne : (l4 x)[i]'(by rw [z4P]; exact hi) ≠ (l4 y)[i]'(by rw [z4P]; exact hi)) : lt4 x y ↔ (l4 x)[i]'(by rw [z4P]; exact hi) < (l4 y)[i]'(by rw [z4P]; exact hi) := by
 obtain ⟨a, b, c, d⟩ := x;obtain ⟨a2, b2, c2, d2⟩ := y
 match i, hi with
 | 0, _ => simp [l4, lt4] at *; omega
 | 1, _ =>
  have h0 := hs 0 zom;simp [l4, lt4] at *; omega
 | 2, _ =>
  have h0 := hs 0 zom;have h1 := hs 1 zom;simp [l4, lt4] at *; omega
 | 3, _ =>
  have h0 := hs 0 zom;have h1 := hs 1 zom;have h2 := hs 2 zom;simp [l4, lt4] at *; omega
theorem zgv {x y : R4} (hs : ∀ (j : Nat), j < 4 → (l4 x)[j]? = (l4 y)[j]?) : ¬ lt4 x y := by
 obtain ⟨a, b, c, d⟩ := x;obtain ⟨a2, b2, c2, d2⟩ := y;have h0 := hs 0 zom;have h1 := hs 1 zom;have h2 := hs 2 zom;have h3 := hs 3 zom;simp [l4, lt4] at *; omega
end Go.Am
namespace Go.Proofs.YteplpegfcpmflaaGreat
open Go.RowKit Go.Am
attribute [local irreducible] aop OpsL Trip zI z2w OpsK OpsR
theorem zaI : Am.z0U Tryz.prog 77 := ⟨Tryz.f77, Tryz.func77, by kernel_rfl, by kernel_rfl⟩
theorem zdt {H : Heap} {b : Nat} {x : R4} {q : Option TypeId} (h : H b = some (.cells (e4 x) 0 none false q)) {i : Nat} (hi : i < 4) : zj H ⟨b, 0 + (i : Int).toNat * 1, none⟩ (.int .i64 ((l4 x)[i]'(by rw [z4P]; exact hi))) := by
 rw [Int.toNat_natCast, Nat.zero_add, Nat.mul_one];refine ze h ?_
 match i, hi with
 | 0, _ => rfl
 | 1, _ => rfl
 | 2, _ => rfl
 | 3, _ => rfl
theorem zi1 (W0 : World) {nx : Nat} {H : Heap} (x y : R4) :
  ACalls Tryz.prog W0 77 [.agg (zP x).toArray, .agg (zP y).toArray] nx H fun v nx' H' => v = .bool (decide (lt4 x y)) ∧ Ext nx H nx' H' := by
 refine zl (fn := Tryz.f77) (c := _) Tryz.func77 rfl (fun tm n hn0 htm => ?_);have e0 : tm 0 = .agg (zP x).toArray := htm 0;have e1 : tm 1 = .agg (zP y).toArray := htm 1;clear htm;replace hn0 : n = 24 := hn0;refine z5L ?_;refine OpsL.new zsd (z0f evr) ?_;refine OpsL.new zsd (z0f evr) ?_;obtain ⟨G, hG⟩ : ∃ G, G = (H.put nx (.cells (Value.agg (zP x).toArray).cells.toList 0 none false (some 62))).put (nx + 1) (.cells (Value.agg (zP y).toArray).cells.toList 0 none false (some 62)) := ⟨_, rfl⟩;have hx0 : Ext nx H (nx + 1 + 1) G := by rw [hG]; exact zh.trans zh
 have gx : G nx = some (.cells (e4 x) 0 none false (some 62)) := by rw [hG, za zom, zb]; rfl
 have gy : G (nx + 1) = some (.cells (e4 y) 0 none false (some 62)) := by rw [hG, zb]; rfl
 rw [← hG];clear hG e0 e1;refine z7B ?_;refine zD (fun (i : Nat) st => ∃ (tm : Nat → Value), st = ⟨tm, n, G, nx + 1 + 1⟩ ∧ tm 2 = .pointer (some ⟨nx, 0, none⟩) ∧ tm 3 = .pointer (some ⟨nx + 1, 0, none⟩) ∧ tm 5 = .int .i64 i ∧ i ≤ 4 ∧ ∀ (j : Nat), j < i → (l4 x)[j]? = (l4 y)[j]?) (fun i => 4 - i) 0 ?_ ?_
 ·exact ⟨_, rfl, stp, stp, stp, zom, fun j h => by omega⟩
 ·rintro i st ⟨tm, rfl, e2, e3, e5, hi, hs⟩;by_cases hlt : i < 4
  ·have cx := zdt gx hlt;have cy := zdt gy hlt;have hX := ziV hlt hs;have hXe : (l4 x)[i]? = some ((l4 x)[i]'(by rw [z4P]; exact hlt)) := List.getElem?_eq_getElem _;have hYe : (l4 y)[i]? = some ((l4 y)[i]'(by rw [z4P]; exact hlt)) := List.getElem?_eq_getElem _;generalize (l4 x)[i]'(by rw [z4P]; exact hlt) = p at *;generalize (l4 y)[i]'(by rw [z4P]; exact hlt) = q at *;refine zcJ ?_;refine z78 ?_;refine Trip.mono (Q := fun e st => e = .normal ∧ ∃ (tm' : Nat → Value), st = ⟨tm', n, G, nx + 1 + 1⟩ ∧ tm' 16 = .bool (decide (p ≠ q)) ∧ tm' 2 = .pointer (some ⟨nx, 0, none⟩) ∧ tm' 3 = .pointer (some ⟨nx + 1, 0, none⟩) ∧ tm' 5 = .int .i64 i) ?_ ?_
   ·refine OpsK.drawn (K := fun _ _ => True) z0u krf krf trivial ?_;refine z9H ?_;refine zd (zK (len := 4) (e := 3) (sz := 1) evr evr zxr zxr zom zom) ?_;refine z9N ?_;refine z3E ?_;refine zfM ?_;refine z9H ?_;refine zd (zK (len := 4) (e := 3) (sz := 1) evr evr zxr zxr zom zom) ?_;refine z9N ?_;refine z3E ?_;refine zfM ?_;refine z3E ?_;refine zd (zi8) ?_;refine z67 ?_;exact ⟨rfl, _, rfl, by simp [zk], stp, stp, stp⟩
   ·clear e2 e3 e5;rintro e st ⟨rfl, tm', rfl, e16, e2, e3, e5⟩
    (change Trip _ _ _ _ _)
    by_cases hpq : p = q
    ·rw [decide_eq_false (fun h => h hpq)] at e16
     repeat fail
     refine zg3 ?_;refine ⟨i + 1, ⟨_, rfl, stp, stp, stp, zom, fun j hj => ?_⟩, zom⟩;by_cases e : j = i
     ·subst e; rw [hXe, hYe, hpq]
     ·exact hs j zom
    ·rw [decide_eq_true hpq] at e16
     repeat fail
     refine z0F ?_
     repeat (refine Trip.seq ?_)
     refine Trip.mono (Q := fun e st => e = .normal ∧ ∃ (tm' : Nat → Value), st = ⟨tm', n, G, nx + 1 + 1⟩ ∧ tm' 4 = .bool (decide (p < q))) ?_ ?_
     ·refine OpsK.drawn (K := fun _ _ => True) z0u krf krf trivial ?_;refine z9H ?_;refine zd (zK (len := 4) (e := 3) (sz := 1) evr evr zxr zxr zom zom) ?_;refine z9N ?_;refine z3E ?_;refine zfM ?_;refine z9H ?_;refine zd (zK (len := 4) (e := 3) (sz := 1) evr evr zxr zxr zom zom) ?_;refine z9N ?_;refine z3E ?_;refine zfM ?_;refine z3E ?_;refine zd (zev) ?_;refine z3M ?_
      repeat (first | refine zd (by exact z0E) ?_ | (refine OpsL.nil ?_; (skip)))
      refine OpsK.nil ?_;exact ⟨rfl, _, rfl, by simp [zk]⟩
     ·clear e16 e2 e3 e5;rintro e st ⟨rfl, tm', rfl, e4'⟩
      (change Trip _ _ _ _ _)
      repeat (first | (refine Trip.ret ?_; ((repeat (refine z0s ?_)); dsimp only)))
      refine ⟨.inr rfl, _, zx, ?_, hx0⟩;simp only [e4', hX hpq]
  ·have hin : i = 4 := by omega
   subst hin;refine zcJ ?_;refine z9G ?_;refine zig ?_;refine ⟨.inr rfl, _, zx, by simp [zk, zgv hs], hx0⟩
end Go.Proofs.YteplpegfcpmflaaGreat
namespace Go.Am
section
variable {α : Type} {lt : α → α → Prop}
structure MergeI (lt : α → α → Prop) (r1 r2 out : List α) (i k : Nat) : Prop where
 strict : z0O lt out
 mem : ∀ z, z ∈ out ↔ z ∈ r1.take i ∨ z ∈ r2.take k
 low1 : ∀ z ∈ out, ∀ (j : Nat) (h : j < r1.length), i ≤ j → ¬ lt r1[j] z
 low2 : ∀ z ∈ out, ∀ (j : Nat) (h : j < r2.length), k ≤ j → ¬ lt r2[j] z
theorem z9F (r1 r2 : List α) : MergeI lt r1 r2 [] 0 0 := ⟨List.Pairwise.nil, fun z => (by simp), fun z h => (by cases h), fun z h => (by cases h)⟩
theorem MergeI.swap {r1 r2 out : List α} {i k : Nat} (h : MergeI lt r1 r2 out i k) : MergeI lt r2 r1 out k i := ⟨h.strict, fun z => by rw [h.mem]; exact Or.comm, h.low2, h.low1⟩
theorem zbr {l : List α} {x : α} (h : l.getLast? = some x) : x ∈ l := List.mem_of_getLast? h
theorem MergeI.step (ho : OrdL lt) {r1 r2 out : List α} {i k : Nat} (hs1 : z0O lt r1) (hs2 : z0O lt r2) (h : MergeI lt r1 r2 out i k) (hi : i < r1.length) (hk : ∀ (h : k < r2.length), ¬ lt r2[k] r1[i]) :
  (out.getLast? = some r1[i] → MergeI lt r1 r2 out (i + 1) k) ∧ (out.getLast? ≠ some r1[i] → MergeI lt r1 r2 (out ++ [r1[i]]) (i + 1) k) := by
 have hmem : ∀ z, z ∈ r1.take (i + 1) ↔ z ∈ r1.take i ∨ z = r1[i] := fun z => by
  rw [List.take_succ_eq_append_getElem hi, List.mem_append, List.mem_singleton]
 have hx1 : ∀ (j : Nat) (h : j < r1.length), i + 1 ≤ j → ¬ lt r1[j] r1[i] := fun j hj hij hlt => by
  have := List.pairwise_iff_getElem.1 hs1 i j hi hj zom;exact ho.irr _ (ho.tr this hlt)
 have hx2 : ∀ (j : Nat) (h : j < r2.length), k ≤ j → ¬ lt r2[j] r1[i] := fun j hj hkj hlt => by
  by_cases e : j = k
  ·subst e; exact hk hj hlt
  ·have := List.pairwise_iff_getElem.1 hs2 k j zom hj zom;exact hk zom (ho.tr this hlt)
 constructor
 ·intro hl;refine ⟨h.strict, fun z => ?_, fun z hz j hj hij => h.low1 z hz j hj zom, h.low2⟩;rw [h.mem, hmem];constructor
  ·rintro (a | a)
   ·exact .inl (.inl a)
   ·exact .inr a
  ·rintro ((a | a) | a)
   ·exact .inl a
   ·subst a; exact (h.mem _).1 (zbr hl)
   ·exact .inr a
 ·intro hl
  have hbel : ∀ z ∈ out, lt z r1[i] := fun z hz => by
   by_cases hc : lt z r1[i]
   ·exact hc
   ·have e := ho.tot hc (h.low1 z hz i hi (Nat.le_refl _));subst e;exfalso
    obtain ⟨y, hy⟩ : ∃ y, out.getLast? = some y := by
     cases hg : out.getLast? with
     | some y => exact ⟨y, rfl⟩
     | none => rw [List.getLast?_eq_none_iff] at hg; rw [hg] at hz; cases hz
    have hym := zbr hy;obtain ⟨p, hp, hpe⟩ := List.getElem_of_mem hz;have hlast : out[out.length - 1]? = some y := by rw [← List.getLast?_eq_getElem?]; exact hy
    obtain ⟨hl1, hl2⟩ := List.getElem?_eq_some_iff.1 hlast;by_cases hpl : p = out.length - 1
    ·subst hpl; rw [hpe] at hl2; exact hl (by rw [hy, ← hl2])
    ·have := List.pairwise_iff_getElem.1 h.strict p (out.length - 1) hp hl1 zom;rw [hpe, hl2] at this;exact h.low1 y hym i hi (Nat.le_refl _) this
  have hin : ∀ z, z ∈ out ++ [r1[i]] ↔ z ∈ out ∨ z = r1[i] := fun z => by rw [List.mem_append, List.mem_singleton]
  refine ⟨List.pairwise_append.2 ⟨h.strict, List.pairwise_singleton _ _, fun a ha b hb => ?_⟩, fun z => ?_, fun z hz j hj hij => ?_, fun z hz j hj hkj => ?_⟩
  ·rw [List.mem_singleton] at hb; subst hb; exact hbel a ha
  ·rw [hin, h.mem, hmem];constructor
   ·rintro ((a | a) | a)
    ·exact .inl (.inl a)
    ·exact .inr a
    ·exact .inl (.inr a)
   ·rintro ((a | a) | a)
    ·exact .inl (.inl a)
    ·exact .inr a
    ·exact .inl (.inr a)
  ·rcases (hin z).1 hz with hz | rfl
   ·exact h.low1 z hz j hj zom
   ·exact hx1 j hj hij
  ·rcases (hin z).1 hz with hz | rfl
   ·exact h.low2 z hz j hj hkj
   ·exact hx2 j hj hkj
theorem MergeI.all [DecidableEq α] [DecidableRel lt] (ho : OrdL lt) {l r1 r2 out : List α} {m : Nat} (h1 : r1 = zu lt (l.take m)) (h2 : r2 = zu lt (l.drop m)) (h : MergeI lt r1 r2 out r1.length r2.length) : out = zu lt l := by
 refine z1B ho h.strict fun x => ?_;rw [h.mem, List.take_length, List.take_length, h1, h2, z0n, z0n, ← List.mem_append, List.take_append_drop]
end
end Go.Am
namespace Go.Proofs.YteplpegfcpmflaaGreat
open Go.RowKit Go.Am
attribute [local irreducible] aop OpsL Trip zI z2w OpsK OpsR
def InQ (H : Heap) (v : Value) (l : List R4) : Prop :=
 (v = .slice none 0 0 ∧ l = []) ∨ ∃ b off t c cs, v = .slice (some ⟨b, off, some t⟩) l.length c ∧ H b = some (.cells cs 4 (some t) false (some 62)) ∧ off + l.length * 4 ≤ cs.length ∧ ∀ (j : Nat) (h : j < l.length), (cs.drop (off + j * 4)).take 4 = zP l[j]
theorem InQ.ext {nx nx' : Nat} {H H' : Heap} {v : Value} {l : List R4} (h : InQ H v l) (hx : Ext nx H nx' H') (hok : ∀ id o, H id = some o → id < nx) : InQ H' v l := by
 rcases h with h | ⟨b, off, t, c, cs, h1, h2, h3⟩
 ·exact .inl h
 ·exact .inr ⟨b, off, t, c, cs, h1, by rw [hx.2 b (hok _ _ h2)]; exact h2, h3⟩
theorem InQ.at {H : Heap} {v : Value} {l : List R4} (h : InQ H v l) : RowsAt zP 4 H v l := by
 rcases h with ⟨rfl, rfl⟩ | ⟨b, off, t, c, cs, rfl, h2, h3, h4⟩
 ·exact .inl ⟨0, rfl, rfl⟩
 ·refine .inr ⟨⟨b, off, some t⟩, c, rfl, fun j hj => ?_⟩;have := h4 j hj;unfold z0M;simp only [h2];rw [if_pos ⟨trivial, zom⟩, this]
theorem InQ.slice {H : Heap} {v : Value} {l : List R4} (h : InQ H v l) : ∃ a c, v = .slice a l.length c := h.at.slice
theorem InQ.own {H : Heap} {ob : Option (Nat × Nat)} {v : Value} {l : List R4} (h : OwnOf zP 4 62 H ob v l) : InQ H v l := by
 cases ob with
 | none =>
  obtain ⟨rfl, _, h2⟩ := h;exact .inl ⟨rfl, List.eq_nil_of_length_eq_zero h2⟩
 | some bt =>
  obtain ⟨b, t⟩ := bt;obtain ⟨rfl, h1, rest, ho⟩ := h;refine .inr ⟨b, 0, t, _, _, rfl, ho, by rw [List.length_append, h1]; omega, fun j hj => ?_⟩;have hf := z5k (enc := zP) z03 l j hj;have hlen := z0i z03 l;rw [Nat.zero_add, List.drop_append_of_le_length zom, List.take_append_of_le_length (by rw [List.length_drop]; omega)];exact hf
theorem InQ.take {nx : Nat} {H : Heap} {v : Value} {l : List R4} {k : Nat} (h : InQ H v l) (hok : ∀ id o, H id = some o → id < nx) (hk : k ≤ l.length) (h0 : 0 < l.length) : ∃ r, ∀ (nx' : Nat) (H' : Heap), Ext nx H nx' H' → z0Q Tryz.prog H' 94 v none (some (.int .i64 k)) none = some r ∧ InQ H' r (l.take k) := by
 rcases h with ⟨_, rfl⟩ | ⟨b, off, t, c, cs, rfl, h2, h3, h4⟩
 ·simp at h0
 ·refine ⟨.slice (some ⟨b, off + 0 * 4, if 0 = l.length ∧ 0 < 0 then none else some t⟩) (k - 0) (k - 0), fun nx' H' hx => ?_⟩;have h2' : H' b = some (.cells cs 4 (some t) false (some 62)) := by rw [hx.2 b (hok _ _ h2)]; exact h2
  refine ⟨z06 (el := 62) (sz := 4) (a := ⟨b, off, some t⟩) (l := 0) (h := k) zxr zxr h2' rfl rfl rfl (.inl ⟨rfl, rfl⟩) (.inr ⟨.i64, rfl⟩) (Nat.zero_le _) hk, ?_⟩;rw [if_neg zom];refine .inr ⟨b, off + 0 * 4, t, k - 0, cs, by rw [List.length_take, Nat.min_eq_left hk, Nat.sub_zero], h2', by rw [List.length_take]; omega, fun j hj => ?_⟩;rw [List.length_take] at hj;rw [List.getElem_take, show off + 0 * 4 + j * 4 = off + j * 4 by omega];exact h4 j zom
theorem InQ.drop {nx : Nat} {H : Heap} {v : Value} {l : List R4} {k : Nat} (h : InQ H v l) (hok : ∀ id o, H id = some o → id < nx) (hk : k < l.length) : ∃ r, ∀ (nx' : Nat) (H' : Heap), Ext nx H nx' H' → z0Q Tryz.prog H' 94 v (some (.int .i64 k)) none none = some r ∧ InQ H' r (l.drop k) := by
 rcases h with ⟨_, rfl⟩ | ⟨b, off, t, c, cs, rfl, h2, h3, h4⟩
 ·simp at hk
 ·refine ⟨.slice (some ⟨b, off + k * 4, if k = l.length ∧ 0 < k then none else some t⟩) (l.length - k) (l.length - k), fun nx' H' hx => ?_⟩;have h2' : H' b = some (.cells cs 4 (some t) false (some 62)) := by rw [hx.2 b (hok _ _ h2)]; exact h2
  refine ⟨z06 (el := 62) (sz := 4) (a := ⟨b, off, some t⟩) (l := k) (h := l.length) zxr zxr h2' rfl rfl rfl (.inr ⟨.i64, rfl⟩) (.inl ⟨rfl, rfl⟩) zom (Nat.le_refl _), ?_⟩;rw [if_neg zom];refine .inr ⟨b, off + k * 4, t, l.length - k, cs, by rw [List.length_drop], h2', by rw [List.length_drop]; omega, fun j hj => ?_⟩;rw [List.length_drop] at hj;rw [List.getElem_drop, show off + k * 4 + j * 4 = off + (k + j) * 4 by omega];exact h4 (k + j) zom
theorem eqQ (H : Heap) (x y : R4) (r : Bool) (hr : decide (x = y) = r) : aEq Tryz.prog H 60 62 (.agg (zP x).toArray) (.agg (zP y).toArray) = some r := by
 obtain ⟨a, b, c, d⟩ := x;obtain ⟨a2, b2, c2, d2⟩ := y;have hsz : z1F Tryz.prog 3 = some 1 := by kernel_rfl
 have hr4 : List.range 4 = [0, 1, 2, 3] := rfl;have hu : Tryz.prog.underlying 62 = some (.array 4 3) := by kernel_rfl
 have hi : Tryz.prog.underlying 3 = some (.int .i64) := by kernel_rfl
 have h1 : ∀ p q : Int, aEq Tryz.prog H 59 3 (.int .i64 p) (.int .i64 q) = some (p == q) := fun p q => by simp [aEq, hi]
 have hg : ∀ (l : List Value) (i : Nat) (k : Int), l[i]? = some (.int .i64 k) → z0D Tryz.prog 3 l i = some (.int .i64 k) := fun l i k h => by simp [z0D, hi, z2y, hsz, h]
 have key : aEq Tryz.prog H 60 62 (.agg (zP (a, b, c, d)).toArray) (.agg (zP (a2, b2, c2, d2)).toArray) = some ((a == a2) && (b == b2) && (c == c2) && (d == d2)) := by
  have e : aEq Tryz.prog H 60 62 (.agg (zP (a, b, c, d)).toArray) (.agg (zP (a2, b2, c2, d2)).toArray) = z4w Tryz.prog (aEq Tryz.prog H 59) 3 1 (zP (a, b, c, d)) (zP (a2, b2, c2, d2)) [0, 1, 2, 3] := by
   rw [aEq];simp only [hu, hsz, hr4]
  rw [e];simp only [z4w, hg (zP (a, b, c, d)) (0 * 1) a rfl, hg (zP (a, b, c, d)) (1 * 1) b rfl, hg (zP (a, b, c, d)) (2 * 1) c rfl, hg (zP (a, b, c, d)) (3 * 1) d rfl, hg (zP (a2, b2, c2, d2)) (0 * 1) a2 rfl, hg (zP (a2, b2, c2, d2)) (1 * 1) b2 rfl, hg (zP (a2, b2, c2, d2)) (2 * 1) c2 rfl, hg (zP (a2, b2, c2, d2)) (3 * 1) d2 rfl, h1];cases (a == a2) <;> cases (b == b2) <;> cases (c == c2) <;> cases (d == d2) <;> rfl
 rw [key, ← hr];congr 1;rw [Bool.eq_iff_iff];simp [and_assoc]
end Go.Proofs.YteplpegfcpmflaaGreat
namespace Go.Proofs.YteplpegfcpmflaaGreat
open Go.RowKit Go.Am
attribute [local irreducible] aop OpsL Trip zI z2w OpsK OpsR
abbrev zfS (H : Heap) (ob : Option (Nat × Nat)) (v : Value) (l : List R4) : Prop := OwnOf zP 4 62 H ob v l
theorem z3a : Am.z0U Tryz.prog 57 := ⟨Tryz.f57, Tryz.func57, by kernel_rfl, by kernel_rfl⟩
theorem z9g {l : List R4} (h : l.length < 2) : l = zu lt4 l := by
 match l, h with
 | [], _ => rfl
 | [x], _ => rfl
def z4 : List Value := rep 4 [.int .i64 0]
theorem zhc (W0 : World) {nx : Nat} {H : Heap} {v : Value} {l : List R4} (hq : InQ H v l) (hm : l.length ≤ 1000)
  (ih : ∀ {nx : Nat} {H : Heap} {v : Value} {l' : List R4}, l'.length < l.length → InQ H v l' → ACalls Tryz.prog W0 57 [v] nx H fun v nx' H' => RowsAt zP 4 H' v (zu lt4 l') ∧ Ext nx H nx' H') :
  ACalls Tryz.prog W0 57 [v] nx H fun v nx' H' => RowsAt zP 4 H' v (zu lt4 l) ∧ Ext nx H nx' H' := by
 obtain ⟨va, vc, rfl⟩ := hq.slice;refine zl (fn := Tryz.f57) (c := _) Tryz.func57 rfl (fun tm n hn0 htm => ?_);have e0 : tm 0 = .slice va l.length vc := htm 0;clear htm;replace hn0 : n = 88 := hn0;refine Trip.ok fun hok => ?_;replace hok : ∀ id o, H id = some o → id < nx := hok;by_cases hsh : l.length < 2
 ·repeat (first | (refine zd (by first | exact omv | exact z0E | exact z2i) ?_) | refine Trip.seq ?_ | refine zm ?_ | (refine OpsL.nil ?_; (change Trip _ _ _ _ _)))
  refine z8C ?_;refine zcU ?_;refine ⟨.inr rfl, _, zx, ?_, Ext.refl⟩;rw [← z9g hsh];simpa [zk, *] using hq.at
 ·obtain ⟨v1, hv1⟩ := hq.take hok (k := l.length / 2) zom zom;obtain ⟨v2, hv2⟩ := hq.drop hok (k := l.length / 2) zom;have hq2 : (l.length : Int) / 2 = ((l.length / 2 : Nat) : Int) := by omega
  have hl1 : (l.take (l.length / 2)).length < l.length := by rw [List.length_take]; omega
  have hl2 : (l.drop (l.length / 2)).length < l.length := by rw [List.length_drop]; omega
  refine zgL ?_;refine z9G ?_
  repeat (first | refine Trip.seq ?_ | (refine Trip.skip ?_; (change Trip _ _ _ _ _)))
  refine Trip.mono (Q := fun e st => e = .normal ∧ ∃ (tm' : Nat → Value) (nx1 : Nat) (H1 : Heap) (w1 w2 : Value), st = ⟨tm', n, H1, nx1⟩ ∧ Ext nx H nx1 H1 ∧ (∀ id o, H1 id = some o → id < nx1) ∧ RowsAt zP 4 H1 w1 (zu lt4 (l.take (l.length / 2))) ∧ RowsAt zP 4 H1 w2 (zu lt4 (l.drop (l.length / 2))) ∧ tm' 3 = w1 ∧ tm' 4 = w2) ?_ ?_
  ·refine OpsR.drawn [5, 11] (K := fun nx1 H1 => Ext nx H nx1 H1) z0u krf krf [0, 1, 2, 3, 4, 6, 7, 8, 9, 10, 5, 11, 12, 13] krf Ext.refl ?_;refine z4J ?_;refine zfp ?_;refine z1j (v := .int .i64 ((l.length / 2 : Nat) : Int)) zsd (by rw [← hq2]; exact z1q evd evr zom zom zom) ?_;refine z3h ?_;refine zA (v := v1) rfl krf zsd Ext.refl (fun H2 nx2 hK => z07 (r := v1) (a := none) (b := some (.int .i64 (l.length / 2 : Nat))) (c := none) evd rfl (by simp only [z2l, ASt.ev, zk, ↓reduceIte, reduceIte, Option.some.injEq, Nat.reduceEqDiff, Option.map_some]) rfl (hv1 _ _ hK).1) ?_;refine z4J ?_;refine zA (v := .int .i64 l.length) rfl krf zsd Ext.refl (fun H2 nx2 hK => z2i) ?_;refine zg1 ?_;refine z1j (v := .int .i64 ((l.length / 2 : Nat) : Int)) zsd (by rw [← hq2]; exact z1q evd evr zom zom zom) ?_;refine z3h ?_;refine zA (v := v2) rfl krf zsd Ext.refl (fun H2 nx2 hK => z07 (r := v2) (a := some (.int .i64 (l.length / 2 : Nat))) (b := none) (c := none) evd (by simp only [z2l, ASt.ev, zk, ↓reduceIte, reduceIte, Option.some.injEq, Nat.reduceEqDiff, Option.map_some]) rfl rfl (hv2 _ _ hK).1) ?_;refine z05 krf (z0v rfl rfl zsd zxr evd z3a (ih hl1 (hv1 _ _ Ext.refl).2).ok ?_);rintro w1 nx1 H1 ⟨⟨r1, x1⟩, ok1⟩;refine ⟨x1, ?_⟩;refine z05 krf (z0v rfl rfl zsd zxr evd z3a (ih hl2 (hv2 _ _ x1).2).ok ?_);rintro w2 nx2 H2 ⟨⟨r2, x2⟩, ok2⟩;refine ⟨x1.trans x2, ?_⟩;refine zgV ?_;refine z6T ?_;exact ⟨rfl, _, nx2, H2, w1, w2, rfl, x1.trans x2, ok2, r1.ext x2 ok1, r2, stp, stp⟩
  ·clear e0 hv1 hv2;rintro e st ⟨rfl, tm', nx1, H1, w1, w2, rfl, hx1, hok1, hr1, hr2, e3, e4⟩
   (change Trip _ _ _ _ _)
   obtain ⟨a1, c1, rfl⟩ := hr1.slice;obtain ⟨a2, c2, rfl⟩ := hr2.slice;have hs1 := z0w z7a (l.take (l.length / 2));have hs2 := z0w z7a (l.drop (l.length / 2));have hb1 := z0o (lt := lt4) (l.take (l.length / 2));have hb2 := z0o (lt := lt4) (l.drop (l.length / 2));obtain ⟨r1, hr1e⟩ : ∃ r, zu lt4 (l.take (l.length / 2)) = r := ⟨_, rfl⟩;obtain ⟨r2, hr2e⟩ : ∃ r, zu lt4 (l.drop (l.length / 2)) = r := ⟨_, rfl⟩;rw [hr1e] at hr1 hs1 hb1 e3;rw [hr2e] at hr2 hs2 hb2 e4;have hb1' : r1.length ≤ 1000 := by omega
   have hb2' : r2.length ≤ 1000 := by omega
   clear hl1 hl2 hq2 ih hq hb1 hb2;refine z7B ?_;refine zD (fun (p : Nat × Nat) st => ∃ (tm' : Nat → Value) (nx' : Nat) (H' : Heap) (ob : Option (Nat × Nat)) (v : Value) (out : List R4), st = ⟨tm', n, H', nx'⟩ ∧ z2n nx1 H1 nx' H' ob ∧ (∀ id o, H' id = some o → id < nx') ∧ zfS H' ob v out ∧ MergeI lt4 r1 r2 out p.1 p.2 ∧ out.length ≤ p.1 + p.2 ∧ tm' 3 = .slice a1 r1.length c1 ∧ tm' 4 = .slice a2 r2.length c2 ∧ tm' 5 = v ∧ tm' 6 = .int .i64 p.1 ∧ tm' 7 = .int .i64 p.2 ∧ p.1 ≤ r1.length ∧ p.2 ≤ r2.length) (fun p => (r1.length - p.1) + (r2.length - p.2)) (0, 0) ?_ ?_
   ·exact ⟨_, _, _, none, _, [], rfl, ⟨Ext.refl, fun _ _ h => (by cases h)⟩, hok1, ⟨rfl, rfl, rfl⟩, z9F _ _, Nat.le_refl _, stp, stp, stp, stp, stp, Nat.zero_le _, Nat.zero_le _⟩
   ·clear e3 e4;rintro ⟨i, k⟩ st ⟨tm, nx', H', ob, v, out, rfl, ⟨hx, hob⟩, hok', hown, hM, hol, e3, e4, e5, e6, e7, hi, hk⟩;dsimp only at hM hol e6 e7 hi hk;have hr1' := hr1.ext hx hok1;have hr2' := hr2.ext hx hok1;by_cases hdone : i = r1.length ∧ k = r2.length
    ·obtain ⟨rfl, rfl⟩ := hdone;refine z5f ?_;refine z1y ?_
     repeat (first | (refine zd (by first | exact omv | exact z2i) ?_) | refine zz ?_)
     refine z1y ?_;refine zex ?_;refine z0a ?_;refine z9P ?_;refine ⟨.inr rfl, _, zx, ?_, hx1.trans hx⟩;rw [← hM.all z7a hr1e.symm hr2e.symm];simpa [zk, *] using hown.at z03
    ·refine Trip.seq ?_;refine Trip.mono (Q := fun e st => e = .normal ∧ ∃ (tm' : Nat → Value), st = ⟨tm', n, H', nx'⟩ ∧ tm' 3 = .slice a1 r1.length c1 ∧ tm' 4 = .slice a2 r2.length c2 ∧ tm' 5 = v ∧ tm' 6 = .int .i64 i ∧ tm' 7 = .int .i64 k) ?_ ?_
     ·by_cases hi' : i < r1.length
      ·repeat (first | (refine zd (by first | exact omv | exact z2i) ?_) | refine Trip.seq ?_ | refine zm ?_)
       refine z1m ?_
       repeat (first | (refine zd (by first | exact omv | exact z2R) ?_) | (refine OpsL.nil ?_; (change Trip _ _ _ _ _)) | refine zQ ?_)
       refine z0F ?_
       repeat (refine Trip.skip ?_; (skip))
       exact ⟨rfl, _, rfl, stp, stp, stp, stp, stp⟩
      ·repeat (first | (refine zd (by first | exact omv | exact z2i) ?_) | refine Trip.seq ?_ | refine zm ?_)
       refine z1y ?_
       repeat (first | (refine zd (by first | exact omv | exact z2i) ?_) | refine zz ?_)
       refine z1m ?_;refine zex ?_;refine z0F ?_
       repeat (refine Trip.skip ?_; (skip))
       exact ⟨rfl, _, rfl, stp, stp, stp, stp, stp⟩
     ·clear e3 e4 e5 e6 e7;rintro e st ⟨rfl, tm', rfl, e3, e4, e5, e6, e7⟩
      (change Trip _ _ _ _ _)
      repeat (first | refine Trip.seq ?_ | refine zm ?_ | refine Trip.block ?_)
      refine OpsL.new zsd (zB (l := z4) krf) ?_;have hx4 : Ext nx' H' (nx' + 1) (H'.put nx' (.cells z4 0 none false (some 62))) := zh;have hok4 := zF (o := .cells z4 0 none false (some 62)) hok';have hX4 : (H'.put nx' (.cells z4 0 none false (some 62))) nx' = some (.cells z4 0 none false (some 62)) := zb;generalize H'.put nx' (.cells z4 0 none false (some 62)) = G4 at *;refine zem ?_;refine Trip.mono (Q := fun e st => e = .normal ∧ ∃ (tm' : Nat → Value) (nx5 : Nat) (H5 : Heap) (B : Bool), st = ⟨tm', n, H5, nx5⟩ ∧ Ext (nx' + 1) G4 nx5 H5 ∧ (∀ id o, H5 id = some o → id < nx5) ∧ tm' 57 = .bool B ∧ tm' 8 = .pointer (some ⟨nx', 0, none⟩) ∧ tm' 3 = .slice a1 r1.length c1 ∧ tm' 4 = .slice a2 r2.length c2 ∧ tm' 5 = v ∧ tm' 6 = .int .i64 i ∧ tm' 7 = .int .i64 k ∧ (B = true → ∃ hi : i < r1.length, ∀ h : k < r2.length, ¬ lt4 r2[k] r1[i]) ∧ (B = false → ∃ hk : k < r2.length, ∀ h : i < r1.length, ¬ lt4 r1[i] r2[k])) ?_ ?_
      ·by_cases hk' : k = r2.length
       ·-- the second one is at its end
        refine OpsR.drawn [18] (K := fun _ _ => True) z0u krf krf [0, 1, 2, 3, 4, 5, 6, 7, 8, 9, 10, 11, 12, 13, 14, 15, 16, 17, 18, 19, 20, 21] krf trivial ?_;refine z4J ?_;refine zfp ?_;refine zZ ?_;refine z3h ?_;refine zg1 ?_;refine zg2 ?_;refine zg0 ?_;refine zeu ?_;refine zej ?_;refine ziG ?_;refine ziG ?_;refine zg1 ?_
        repeat (first | (refine OpsL.nil ?_; (skip)) | refine z3u ?_)
        refine zg1 ?_
        repeat (first | (refine OpsL.nil ?_; (skip)) | refine z3u ?_)
        refine z05 krf (z8u rfl rfl zsd zxr evd ?_);refine zg1 ?_
        repeat (first | (refine OpsL.nil ?_; (skip)) | refine z3u ?_)
        refine zeu ?_;refine zaT ?_;refine z0T ?_;exact ⟨rfl, _, _, _, true, rfl, Ext.refl, hok4, by simp [zk], stp, stp, stp, stp, stp, stp, fun _ => ⟨zom, fun h => by omega⟩, fun h => (by cases h)⟩
       ·by_cases hi' : i < r1.length
        ·obtain ⟨p1, rfl, g1⟩ := zS (hr1'.ext hx4 hok') hi';obtain ⟨p2, rfl, g2⟩ := zS (hr2'.ext hx4 hok') (show k < r2.length by omega);refine OpsR.drawn [18] (K := fun _ _ => True) z0u krf krf [0, 1, 2, 3, 4, 5, 6, 7, 8, 9, 10, 11, 12, 13, 14, 15, 16, 17, 18, 19, 20, 21] krf trivial ?_;refine z4J ?_;refine zfp ?_;refine z00 ?_;refine z3h ?_;refine zh2 ?_;refine z1m ?_;refine z3h ?_;refine zcZ ?_;refine z79 ?_;refine zcZ ?_;refine zgW ?_;refine zg1 ?_
         repeat (refine zz ?_)
         refine zd (zg (k := 4) (vs := zP r2[k]) evr zxr rfl zxr g2) ?_;refine z3h ?_;refine zcZ ?_;refine z79 ?_;refine zg1 ?_;refine zgW ?_;refine zg1 ?_
         repeat (refine zz ?_)
         refine zd (zg (k := 4) (vs := zP r1[i]) evr zxr rfl zxr g1) ?_;refine z3h ?_;refine z05 krf (z76 rfl rfl zsd zxr evd zxr evd evd zaI (zi1 W0 r2[k] r1[i]).ok ?_);rintro v9 nx9 H9 ⟨⟨rfl, hx9⟩, hok9⟩;refine ⟨trivial, ?_⟩;refine zg1 ?_
         repeat (first | refine zd (by exact z8y) ?_ | (refine OpsL.nil ?_; (skip)) | refine zz ?_)
         refine zg1 ?_
         repeat (first | refine zd (by exact z2R) ?_ | (refine OpsL.nil ?_; (skip)) | refine zz ?_)
         refine zg1 ?_;refine zfJ ?_;refine z0T ?_;refine ⟨rfl, _, _, _, !decide (lt4 r2[k] r1[i]), rfl, hx9, hok9, by simp [zk], stp, stp, stp, stp, stp, stp, fun h => ⟨hi', fun _ => by simpa using h⟩, fun h => ⟨zom, fun _ hlt => ?_⟩⟩;have h2 : lt4 r2[k] r1[i] := by simpa using h
         exact z7a.irr _ (z7a.tr h2 hlt)
        ·refine OpsR.drawn [18] (K := fun _ _ => True) z0u krf krf [0, 1, 2, 3, 4, 5, 6, 7, 8, 9, 10, 11, 12, 13, 14, 15, 16, 17, 18, 19, 20, 21] krf trivial ?_;refine z4J ?_;refine zfp ?_;refine z00 ?_;refine z3h ?_;refine zh2 ?_;refine z1y ?_;refine z3h ?_;refine zg1 ?_;refine z79 ?_;refine zg0 ?_;refine zg0 ?_;refine zeu ?_;refine zej ?_;refine z05 krf (ActStep.skip rfl rfl zsd zxr evr ?_);refine zeu ?_
         repeat (first | refine zd (by exact z3i) ?_ | (refine OpsL.nil ?_; (skip)) | refine zz ?_)
         refine zg1 ?_;refine zfJ ?_;refine z0T ?_;exact ⟨rfl, _, _, _, false, rfl, Ext.refl, hok4, by simp [zk], stp, stp, stp, stp, stp, stp, fun h => (by cases h), fun _ => ⟨zom, fun h => by omega⟩⟩
      ·clear e3 e4 e5 e6 e7;rintro e st ⟨rfl, tm', nx5, H5, B, rfl, hx5, hok5, e57, e8, e3, e4, e5, e6, e7, hB1, hB2⟩
       (change Trip _ _ _ _ _)
       have hX5 : H5 nx' = some (.cells z4 0 none false (some 62)) := (hx5.2 nx' (Nat.lt_succ_self _)).trans hX4;refine Trip.mono (Q := fun e st => e = .normal ∧ ∃ (tm' : Nat → Value) (H6 : Heap) (X : R4) (i' k' : Nat), st = ⟨tm', n, H6, nx5⟩ ∧ H6 nx' = some (.cells (zP X) 0 none false (some 62)) ∧ (∀ j, j ≠ nx' → H6 j = H5 j) ∧ tm' 8 = .pointer (some ⟨nx', 0, none⟩) ∧ tm' 3 = .slice a1 r1.length c1 ∧ tm' 4 = .slice a2 r2.length c2 ∧ tm' 5 = v ∧ tm' 6 = .int .i64 i' ∧ tm' 7 = .int .i64 k' ∧ i' ≤ r1.length ∧ k' ≤ r2.length ∧ i' + k' = i + k + 1 ∧ (out.getLast? = some X → MergeI lt4 r1 r2 out i' k') ∧ (out.getLast? ≠ some X → MergeI lt4 r1 r2 (out ++ [X]) i' k')) ?_ ?_
       ·cases B with
        | true =>
         obtain ⟨hi2, hlow⟩ := hB1 rfl;obtain ⟨p1, rfl, g1⟩ := zS ((hr1'.ext hx4 hok').ext hx5 hok4) hi2
         repeat fail
         refine z0F ?_;refine zgK ?_;refine zd (zg (k := 4) (vs := zP r1[i]) evr zxr rfl zxr g1) ?_
         repeat fail
         refine OpsL.upd (zw (k := 4) (u := .agg (zP r1[i]).toArray) evd evd zxr rfl (o := .cells (zP r1[i]) 0 none false (some 62)) (zC (vs := zP r1[i]) hX5 rfl rfl)) ?_
         repeat (first | (refine zd (by first | exact omv | exact z0E | exact z6P) ?_) | refine zm ?_ | (refine OpsL.nil ?_; (first | (change Trip _ _ _ _ _) | (dsimp only))))
         exact ⟨rfl, _, _, r1[i], i + 1, k, rfl, zb, fun j hj => za hj, stp, stp, stp, stp, stp, stp, zom, zom, zom, fun h => (hM.step z7a hs1 hs2 hi2 hlow).1 h, fun h => (hM.step z7a hs1 hs2 hi2 hlow).2 h⟩
        | false =>
         obtain ⟨hi2, hlow⟩ := hB2 rfl;obtain ⟨p1, rfl, g1⟩ := zS ((hr2'.ext hx4 hok').ext hx5 hok4) hi2
         repeat fail
         refine z0a ?_;refine zgK ?_;refine zd (zg (k := 4) (vs := zP r2[k]) evr zxr rfl zxr g1) ?_
         repeat fail
         refine OpsL.upd (zw (k := 4) (u := .agg (zP r2[k]).toArray) evd evd zxr rfl (o := .cells (zP r2[k]) 0 none false (some 62)) (zC (vs := zP r2[k]) hX5 rfl rfl)) ?_
         repeat (first | (refine zd (by first | exact omv | exact z0E | exact z6P) ?_) | refine zm ?_ | (refine OpsL.nil ?_; (first | (change Trip _ _ _ _ _) | (dsimp only))))
         exact ⟨rfl, _, _, r2[k], i, k + 1, rfl, zb, fun j hj => za hj, stp, stp, stp, stp, stp, stp, zom, zom, zom, fun h => ((hM.swap.step z7a hs2 hs1 hi2 hlow).1 h).swap, fun h => ((hM.swap.step z7a hs2 hs1 hi2 hlow).2 h).swap⟩
       ·clear e57 e8 e3 e4 e5 e6 e7 hB1 hB2 hX5 hX4 hM hdone;rintro e st ⟨rfl, tm', H6, X, i', k', rfl, hX6, hs6, e8, e3, e4, e5, e6, e7, hi6, hk6, hsum, hM1, hM2⟩
        (change Trip _ _ _ _ _)
        have hx6 : Ext nx' H' nx5 H6 := ⟨by have := hx5.1; omega, fun j hj => by rw [hs6 j zom, hx5.2 j zom, hx4.2 j hj]⟩
        have hok6 : ∀ id o, H6 id = some o → id < nx5 := fun id o h => by
         by_cases e : id = nx'
         ·have := hx5.1; omega
         ·exact hok5 id o (by rw [← hs6 id e]; exact h)
        have hown6 := hown.ext hx6 (fun b t h => (hob b t h).2);have hout := hown6.at z03;have hnx : nx' < nx5 := by have := hx5.1; omega
        clear hs6 hx5 hok5 hx4 hok4 hown;obtain ⟨oa, oc, rfl⟩ := hout.slice;refine zgL ?_;refine Trip.mono (Q := fun e st => e = .normal ∧ ∃ (tm' : Nat → Value) (B : Bool), st = ⟨tm', n, H6, nx5⟩ ∧ tm' 82 = .bool B ∧ tm' 8 = .pointer (some ⟨nx', 0, none⟩) ∧ tm' 3 = .slice a1 r1.length c1 ∧ tm' 4 = .slice a2 r2.length c2 ∧ tm' 5 = .slice oa out.length oc ∧ tm' 6 = .int .i64 i' ∧ tm' 7 = .int .i64 k' ∧ (B = true → out.getLast? ≠ some X) ∧ (B = false → out.getLast? = some X)) ?_ ?_
        ·by_cases hlen : out.length = 0
         ·refine OpsK.drawn (K := fun _ _ => True) z0u krf krf trivial ?_;refine z9H ?_;refine zZ ?_;refine z3M ?_;refine zg2 ?_;refine zg7 ?_;refine zg7 ?_;refine z3E ?_;refine zej ?_;refine z3E ?_;refine zaT ?_;refine OpsK.nil ?_;have : out = [] := List.eq_nil_of_length_eq_zero hlen;exact ⟨rfl, _, true, rfl, by simp [zk], stp, stp, stp, stp, stp, stp, fun _ => by rw [this]; simp, fun h => (by cases h)⟩
         ·obtain ⟨q, rfl, g2⟩ := z6l hout (show 0 < out.length by omega) (Nat.le_refl _);have hlast : out.getLast? = some (out[out.length - 1]'zom) := by rw [List.getLast?_eq_getElem?, List.getElem?_eq_getElem]
          refine OpsK.drawn (K := fun _ _ => True) z0u krf krf trivial ?_;refine z9H ?_;refine z00 ?_;refine z3h ?_;refine z9H ?_;refine zgc ?_;refine z3E ?_;refine zgW ?_;refine z3E ?_
          repeat (refine zz ?_)
          refine zd (zg (k := 4) (vs := zP (out[out.length - 1]'zom)) evr zxr rfl zxr g2) ?_;refine z3M ?_
          repeat (refine zz ?_)
          refine zd (zg (k := 4) (vs := zP X) evd zxr rfl zxr (zG hX6 rfl)) ?_;refine z3M ?_
          repeat (refine zz ?_)
          refine zd (z4a (r := decide (out[out.length - 1]'zom = X)) evd evd krf (eqQ _ _ _ _ rfl)) ?_;refine z3M ?_;refine zfJ ?_;refine OpsK.nil ?_;exact ⟨rfl, _, !decide (out[out.length - 1]'zom = X), rfl, by simp [zk], stp, stp, stp, stp, stp, stp, fun h => by rw [hlast]; simpa using h, fun h => by rw [hlast]; simpa using h⟩
        ·clear e8 e3 e4 e5 e6 e7;rintro e st ⟨rfl, tm', B, rfl, e82, e8, e3, e4, e5, e6, e7, hB1, hB2⟩
         (change Trip _ _ _ _ _)
         cases B with
         | false =>
          have hM := hM1 (hB2 rfl)
          repeat fail
          refine z0a ?_
          repeat (first | (refine Trip.skip ?_; ((repeat (refine zN ?_)); dsimp only)))
          exact ⟨(i', k'), ⟨_, nx5, H6, ob, _, out, rfl, ⟨hx.trans hx6, fun b t h => by have := hob b t h; omega⟩, hok6, hown6, hM, by show out.length ≤ i' + k'; omega, stp, stp, stp, stp, stp, hi6, hk6⟩, by show r1.length - i' + (r2.length - k') < r1.length - i + (r2.length - k); omega⟩
         | true =>
          have hM := hM2 (hB1 rfl)
          repeat fail
          refine z0F ?_;refine zbP ?_;refine zd (zg (k := 4) (vs := zP X) evd zxr rfl zxr (zG hX6 rfl)) ?_
          repeat fail
          refine OpsL.new zsd (zq (l := [(0, .agg (zP X).toArray)]) (r := (.slice (some ⟨nx5, 0, none⟩) 1 1, .new (.cells (zP X) 4 none false (some 62)))) zeq krf) ?_;have hx7 : Ext nx5 H6 (nx5 + 1) (H6.put nx5 (.cells (zP X) 4 none false (some 62))) := zh;have hok7 := zF (o := .cells (zP X) 4 none false (some 62)) hok6
          have hone : RowsAt zP 4 (H6.put nx5 (.cells (zP X) 4 none false (some 62))) (.slice (some ⟨nx5, 0, none⟩) 1 1) [X] := by
           refine .inr ⟨⟨nx5, 0, none⟩, 1, rfl, fun j hj => ?_⟩;have : j = 0 := by simpa using hj
           subst this;exact z08 (by show 0 + 4 ≤ 4; decide)
          generalize H6.put nx5 (.cells (zP X) 4 none false (some 62)) = G7 at *;have hob6 : ∀ b t, ob = some (b, t) → nx1 ≤ b ∧ b < nx5 := fun b t h => by have := hob b t h; omega
          refine zJ (bytes := 32) (z := z4) z03 z1Q zom zsd (hown6.ext hx7 (fun b t h => (hob6 b t h).2)) hone evd evd (fun b t h => by have := (hob6 b t h).2; omega) zxr zxr zxr zxr zxr rfl (by simp; omega) zom ?_;intro v8 nx8 H8 ob8 hA
          repeat (first | refine zd (by exact z0E) ?_ | (refine OpsL.nil ?_; ((repeat (refine zN ?_)); dsimp only)))
          refine ⟨(i', k'), ⟨_, nx8, H8, ob8, v8, out ++ [X], rfl, ⟨⟨by have := hx.1; have := hA.le; omega, fun j hj => ?_⟩, fun b t h => ?_⟩, hA.ok (fun b t h => by have := (hob6 b t h).2; omega) hok7, hA.own, hM, by show (out ++ [X]).length ≤ i' + k'; rw [List.length_append, List.length_singleton]; omega, stp, stp, stp, stp, stp, hi6, hk6⟩, by show r1.length - i' + (r2.length - k') < r1.length - i + (r2.length - k); omega⟩
          ·have := hx.1;rw [hA.same j zom (fun b t h => by have := (hob6 b t h).1; omega), hx7.2 j zom, hx6.2 j zom, hx.2 j hj]
          ·obtain ⟨q1, q2⟩ := hA.blk b t h;refine ⟨?_, q1⟩;rcases q2 with rfl | ⟨t', h'⟩
           ·have := hx.1; omega
           ·exact (hob6 _ _ h').1
theorem zge (W0 : World) : ∀ (m : Nat) {nx : Nat} {H : Heap} {v : Value} {l : List R4}, l.length ≤ m → InQ H v l → l.length ≤ 1000 →
  ACalls Tryz.prog W0 57 [v] nx H fun v nx' H' => RowsAt zP 4 H' v (zu lt4 l) ∧ Ext nx H nx' H' := by
 intro m
 induction m with
 | zero => intro nx H v l hl hq hm; exact zhc W0 hq hm fun h => by omega
 | succ m ih => intro nx H v l hl hq hm; exact zhc W0 hq hm fun {nx H v l'} h hq' => ih zom hq' zom
end Go.Proofs.YteplpegfcpmflaaGreat
