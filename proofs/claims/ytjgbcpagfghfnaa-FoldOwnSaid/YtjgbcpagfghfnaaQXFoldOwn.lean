/-
 The law FoldOwn of chapter 13 holds for all numbers: a machine of modules is not changed; what was told may be.
 Conditions: none beyond the row's own.
-/
import Derived.Test.YtjgbcpagfghfnaaRows
import Derived.Test.YtjgbcpagfghfnaaQXM15
import Derived.Test.YtjgbcpagfghfnaaQXM41
import Derived.Test.YtjgbcpagfghfnaaQXM52
set_option linter.unusedVariables false
set_option linter.unusedSimpArgs false
set_option linter.unnecessarySimpa false
namespace Go.Proofs.Ytjgbcpagfghfnaa.foldOwn
open Go.Am Go.RowKit Go.ChangeShapes Go.WideShapes Go.ChangeAt
attribute [local irreducible] aop OpsL Trip blockExit OpsD OpsK OpsR OpsQ
/-- Rows of rows that may be written over. -/
def RowAny (τ : CH) (v : Value) (vs : List SV) : Prop := OwnC encS 22 .inn τ v vs ∧ ∀ p u, vs[p]? = some u → ∃ l : List Int, l.length ≤ 100 ∧ RowP (.inn1 p) τ (slV u) l
theorem RowAny.keep {S : List Co} {σ τ : CH} {v : Value} {vs : List SV} (hx : Chg S σ τ) (hc : Co.inn ∉ S) (hd : ∀ p, Co.inn1 p ∉ S) (h : RowAny σ v vs) : RowAny τ v vs :=
 ⟨h.1.keep hx hc, fun p u hu => by obtain ⟨l, h1, h2⟩ := h.2 p u hu; exact ⟨l, h1, h2.keep hx (hd p)⟩⟩
theorem RowAny.cell {σ : CH} {a : Option Addr} {n c : Nat} {vs : List SV} {i : Nat} {u : SV} (h : RowAny σ (.slice a n c) vs) (hu : vs[i]? = some u) : ∃ q : Addr, a = some q ∧ cellAt σ.H ⟨q.block, q.off + i * 1, q.spot⟩ (slV u) := by
 have hne : vs ≠ [] := fun e => by rw [e] at hu; simp at hu
 obtain ⟨b, t, rest, hv, hob⟩ := OwnC.opn encS_f h.1 hne
 simp only [Value.slice.injEq] at hv
 obtain ⟨rfl, -, -⟩ := hv
 refine ⟨_, rfl, ?_⟩
 rw [Nat.zero_add, Nat.mul_one]
 refine hob.cell ?_
 obtain ⟨hi, -⟩ := List.getElem?_eq_some_iff.1 hu
 rw [List.getElem?_append_left (by simpa using hi), List.getElem?_map, hu]
 rfl
set_option maxRecDepth 20000 in
set_option maxHeartbeats 16000000 in
theorem law (W0 : World) {nx : Nat} {H : Heap} {size : Int} {nv : Value} {ns : List Int} (hn : IntsAt H nv ns) (hs : -9223372036854775808 ≤ size ∧ size ≤ 9223372036854775807) (hok0 : ∀ id o, H id = some o → id < nx) :
  ACalls Try.prog W0 5 [.int .i64 size, nv] nx H fun v _ _ => v = .bool true := by
 refine ACalls.by_trip (fn := Try.f5) (c := _) Try.func5 rfl (fun tm n hn0 htm => ?_)
 have e0 : tm 0 = .int .i64 size := htm 0
 have e1 : tm 1 = nv := htm 1
 clear htm
 replace hn0 : n = 100 := hn0
 refine zg25 ?_
 refine OpsL.c0 (hf := entersKnown13) (hc := (knownC W0)) (h := ?_)
 rintro v0 nx0 H0 ⟨rfl, hx0⟩
 dsimp only
 replace hn := hn.ext hx0 hok0
 clear hok0 hx0
 refine zg31 ?_
 refine zg88 ?_
 refine Trip.ok fun hok0 => ?_
 replace hok0 : ∀ id o, H0 id = some o → id < nx0 := hok0
 repeat (first | (refine OpsL.q (by exact omv) ?_) | (refine Trip.seq ?_) | (refine Trip.ops ?_) | (refine Trip.skip ?_; (change Trip _ _ _ _ _)))
 refine OpsL.c2 (hf := entersMake) (hc := (makeC W0 hn hok0 hs).ok) (h := ?_)
 rintro vm nx1 H1 ⟨⟨V, σ, rfl, rfl, rfl, hold, hm⟩, hok1⟩
 have hn1 := hn.ext hold.ext hok0
 refine zg61 ?_
 refine OpsL.c2 (hf := entersMake) (hc := (makeC W0 hn1 hok1 hs).ok) (h := ?_)
 rintro vm2 nx2 H2 ⟨⟨V2, σ2, rfl, rfl, rfl, hold2, hm2⟩, hok2⟩
 have hmI : MoIn σ2.H (makeF size ns) V := hm.in.ext hold2.ext hok1
 have hmJ : MoIn σ2.H (makeF size ns) V2 := hm2.in
 have hgood : modF (makeF size ns) = true := makeQ_ok (mkP_ok size)
 clear hn hok0 hn1 hok1 hold hold2 hm hm2 hs
 generalize makeF size ns = m at *
 have hmod := modF_iff.1 hgood
 clear hgood
 have hK : OldC ⟨σ2.nx, fun _ => .old, σ2.H⟩ ⟨σ2.nx, fun _ => .old, σ2.H⟩ := OldC.refl
 obtain ⟨σ0, hσ0⟩ : ∃ σ0 : CH, (⟨σ2.nx, fun _ => .old, σ2.H⟩ : CH) = σ0 := ⟨_, rfl⟩
 have hσ1 : σ0.nx = σ2.nx := by rw [← hσ0]
 have hσ2 : σ0.H = σ2.H := by rw [← hσ0]
 rw [hσ0] at hK
 rw [← hσ1, ← hσ2] at hok2
 rw [← hσ2] at hmI hmJ
 rw [← hσ1, ← hσ2]
 clear hσ0 hσ1 hσ2
 refine OpsL.newC .self (aop_alloc (l := moV noMo nilV) xrf) sdc ?_
 intro σ3 ha x3
 obtain ⟨A, hA⟩ : ∃ A, σ0.nx = A := ⟨_, rfl⟩
 rw [hA] at ha
 change OpsL _ _ _ _ ⟨tmPut _ _ (.pointer (some ⟨σ0.nx, 0, none⟩)), _, _, _⟩ _
 rw [hA]
 replace hK := hK.keep x3 (by simp)
 refine OpsL.newC .next (aop_alloc (l := moV noMo nilV) xrf) sdc ?_
 intro σ4 hb x4
 obtain ⟨B, hB⟩ : ∃ B, σ3.nx = B := ⟨_, rfl⟩
 rw [hB] at hb ⊢
 replace hK := hK.keep x4 (by simp)
 replace ha := ha.keep x4 (by simp)
 refine OpsL.setAllC (vs := moV m V) ha xrf rfl rfl (MoIn.one hmI) evd evd ?_
 intro σ5 ha5 x5
 replace hK := hK.keep x5 (by simp)
 replace hb := hb.keep x5 (by simp)
 refine OpsL.setAllC (vs := moV m V2) hb xrf rfl rfl (MoIn.one hmJ) evd evd ?_
 intro σ6 hb6 x6
 replace hK := (hK.keep x6 (by simp)).ext
 replace ha5 := ha5.keep x6 (by simp)
 replace hmI := hmI.ext hK hok2
 replace hmJ := hmJ.ext hK hok2
 have hbA : MoBox σ6.H A m V := MoBox.of ha5.2.2
 have hbB : MoBox σ6.H B m V2 := MoBox.of hb6.2.2
 clear ha hb ha5 hb6 x3 x4 x5 x6 hK hok2 hA hB e0 e1
 refine zg46 ?_
 (change Trip _ _ _ _ _)
 refine Trip.ok fun hok => ?_
 replace hok : ∀ id o, σ6.H id = some o → id < σ6.nx := hok
 have FA : ∀ {N : Nat} {H' : Heap}, Ext σ6.nx σ6.H N H' → (MoBox H' A m V ∧ MoIn H' m V) ∧ MoBox H' B m V2 ∧ MoIn H' m V2 := fun h => ⟨⟨hbA.ext h hok, hmI.ext h hok⟩, hbB.ext h hok, hmJ.ext h hok⟩
 clear hbA hbB hmI hmJ hok
 -- small once
 refine zg29 ?_
 refine OpsL.loadM (FA Ext.refl).1.1 ?_ evd sdc
 refine OpsL.c1 (hf := entersFSmall) (hc := (fSmallC W0 (FA Ext.refl).1.2 hmod.lens hmod)) (h := ?_)
 rintro v1 N1 H1 ⟨VS, τ1, rfl, rfl, rfl, hx, hM⟩
 have hoks := small_ok hmod
 generalize smallF m = k at *
 (first | (refine OpsL.q (by exact omv) ?_))
 (first | (refine OpsL.q (by exact aop_extract evr xrf) ?_))
 (first | (refine OpsL.q (by exact aop_extract evr xrf) ?_))
 refine OpsL.newC .self (aop_alloc (l := moV noMo nilV) xrf) sdc ?_
 intro τ2 hA x2
 obtain ⟨C, hC⟩ : ∃ C, τ1.nx = C := ⟨_, rfl⟩
 rw [hC] at hA ⊢
 replace hx := hx.keep x2 (by simp)
 replace hM := hM.keep x2 (by simp)
 refine OpsL.setAllC (vs := moV k VS) hA xrf rfl rfl (MoIn.one hM.in) evd evr ?_
 intro τ3 hSb x3
 replace hx := hx.keep x3 (by simp)
 replace hM := hM.keep x3 (by simp)
 have hof := hM.of
 have hin : ∃ vs, RowAny τ3 VS.i vs ∧ vs.length ≤ 60 := by
  obtain ⟨vs, h1, h2⟩ := hM.inn
  refine ⟨vs, ⟨h1, fun p u hu => ?_⟩, by rw [h2.1, hoks.il]; exact hoks.n.2⟩
  obtain ⟨hp, -⟩ := List.getElem?_eq_some_iff.1 hu
  have hp2 : p < k.inn.length := by rw [← h2.1]; exact hp
  obtain ⟨u2, q1, q2⟩ := h2.2 p k.inn[p] (List.getElem?_eq_getElem hp2)
  rw [hu] at q1
  cases q1
  refine ⟨_, ?_, q2⟩
  have hpo : p < k.of.length := by rw [← hoks.il]; exact hp2
  have h5 := (hoks.inn p hpo).1
  have h6 := hoks.pl
  rw [List.getD_eq_getElem?_getD, List.getElem?_eq_getElem hp2] at h5
  have h7 : ((k.inn[p].length : Nat) : Int) = k.plains := h5
  omega
 obtain ⟨vs, hin, hvl⟩ := hin
 have hol : k.of.length ≤ 60 := hoks.n.2
 obtain ⟨oa, oc, hso⟩ := OwnC.slice encN_len hof
 obtain ⟨ia, ic, hsi⟩ := OwnC.slice encS_len hin.1
 have c2 : ∀ {τ : CH}, ObC .self τ C (.cells (moV k VS) 0 none false (some 29)) → cellAt τ.H ⟨C, 2, none⟩ (.slice oa k.of.length oc) ∧ cellAt τ.H ⟨C, 5, none⟩ (.slice ia vs.length ic) := fun {τ} h => by
  have h2 : cellAt τ.H ⟨C, 2, none⟩ VS.o := h.cell rfl
  have h5 : cellAt τ.H ⟨C, 5, none⟩ VS.i := h.cell rfl
  rw [hso] at h2
  rw [hsi] at h5
  exact ⟨h2, h5⟩
 rw [hso] at hof
 rw [hsi] at hin
 have hof2 : ∃ l : List Int, HidP (l.length = k.of.length) ∧ OwnC encN 3 .of τ3 (.slice oa k.of.length oc) l := ⟨_, rfl, hof⟩
 clear hA hC hM x2 x3 hoks hof hso hsi
 generalize k.of.length = ko at *
 (first | (refine OpsL.q (by exact oasg) ?_))
 refine zg46 ?_
 (change Trip _ _ _ _ _)
 refine zg26 ?_
 -- its modules are written over
 refine Trip.mono (Q := fun e st => e = .exit 0 ∧ ∃ (tm' : Nat → Value) (τ : CH), st = ⟨tm', n, τ.H, τ.nx⟩ ∧ tm' 5 = .pointer (some ⟨A, 0, none⟩) ∧ tm' 6 = .pointer (some ⟨B, 0, none⟩) ∧ tm' 7 = .pointer (some ⟨C, 0, none⟩) ∧ OldC ⟨σ6.nx, fun _ => .old, σ6.H⟩ τ ∧ ObC .self τ C (.cells (moV k VS) 0 none false (some 29)) ∧ RowAny τ (.slice ia vs.length ic) vs) ?_ ?_
 ·refine Trip.inv (fun (i : Nat) st => ∃ (tm : Nat → Value) (τ : CH), st = ⟨tm, n, τ.H, τ.nx⟩ ∧ tm 5 = .pointer (some ⟨A, 0, none⟩) ∧ tm 6 = .pointer (some ⟨B, 0, none⟩) ∧ tm 7 = .pointer (some ⟨C, 0, none⟩) ∧ tm 9 = .int .i64 i ∧ i ≤ ko ∧ OldC ⟨σ6.nx, fun _ => .old, σ6.H⟩ τ ∧ ObC .self τ C (.cells (moV k VS) 0 none false (some 29)) ∧ RowAny τ (.slice ia vs.length ic) vs ∧ ∃ l : List Int, HidP (l.length = ko) ∧ OwnC encN 3 .of τ (.slice oa ko oc) l) (fun i => ko - i) 0 ?_ ?_
  ·exact ⟨_, τ3, rfl, stp, stp, stp, stp, by omega, hx, hSb, hin, hof2⟩
  clear hx hSb hin hof2
  rintro i st ⟨tm, τ, rfl, t5, t6, t7, t9, hi, hx, hSb, hin, l, hl, hof⟩
  replace hl : PLift (l.length = ko) := ⟨hl⟩
  have g2 := (c2 hSb).1
  repeat (first | (refine OpsL.q (by first | exact omv | exact ofa | exact old | exact olen | exact olss) ?_) | (refine Trip.seq ?_) | (refine Trip.ops ?_) | (refine Trip.block ?_) | (refine Trip.itA (fun _ => ?_) (fun _ => ?_)) | (refine Trip.skip ?_; (change Trip _ _ _ _ _)) | (refine OpsL.nil ?_; (change Trip _ _ _ _ _)))
  ·have hlt : i < ko := by omega
   have hne : l ≠ [] := fun e => by have := hl.down; rw [e] at this; simp at this; omega
   obtain ⟨b, t, rest, hv, hob⟩ := OwnC.opn encN_f hof hne
   simp only [Value.slice.injEq] at hv
   obtain ⟨rfl, -, hoc⟩ := hv
   refine zg94 ?_
   refine OpsL.setC (k := i) (v := .int .i64 (-9)) (cs' := (l.set i (-9)).map (fun x => Value.int .i64 x) ++ rest) hob (by rw [List.length_append, List.length_map]; have := hl.down; omega) (by rw [List.set_append_left _ _ (by rw [List.length_map]; have := hl.down; omega), List.map_set]) rfl xrf rfl evr (by rfl) (by show (⟨b, 0 + i * 1, some t⟩ : Addr) = _; rw [Nat.zero_add, Nat.mul_one]) ?_
   intro τ2 hob2 x2 _
   have hl2 : (l.set i (-9)).length = ko := by rw [List.length_set]; exact hl.down
   have hof2 := OwnC.cls encN_f (l := l.set i (-9)) (rest := rest) hob2
   rw [hl2] at hof2
   rw [hl.down] at hoc
   have hof3 : OwnC encN 3 .of τ2 (.slice (some ⟨b, 0, some t⟩) ko oc) (l.set i (-9)) := by rw [hoc]; exact hof2
   replace hx := hx.keep x2 (by simp)
   replace hSb := hSb.keep x2 (by simp)
   replace hin := hin.keep x2 (by simp) (fun _ => by simp)
   clear hob hob2 hof x2 g2 hne
   refine zg46 ?_
   refine zg14 ?_
   exact ⟨i + 1, ⟨_, τ2, rfl, stp, stp, stp, stp, by omega, hx, hSb, hin, _, hl2, hof3⟩, by omega⟩
  ·repeat (first | (refine Trip.exit ?_; (dsimp only)))
   exact ⟨rfl, _, τ, rfl, stp, stp, stp, hx, hSb, hin⟩
 clear hx hSb hin hof2
 rintro e st ⟨rfl, tm, τ, rfl, t5, t6, t7, hx, hSb, hin⟩
 refine zg104 ?_
 refine zg26 ?_
 -- its plain rows are written over
 refine Trip.mono (Q := fun e st => e = .exit 2 ∧ ∃ (tm' : Nat → Value) (τ : CH), st = ⟨tm', n, τ.H, τ.nx⟩ ∧ tm' 5 = .pointer (some ⟨A, 0, none⟩) ∧ tm' 6 = .pointer (some ⟨B, 0, none⟩) ∧ OldC ⟨σ6.nx, fun _ => .old, σ6.H⟩ τ) ?_ ?_
 ·refine Trip.inv (fun (i : Nat) st => ∃ (tm : Nat → Value) (τ : CH), st = ⟨tm, n, τ.H, τ.nx⟩ ∧ tm 5 = .pointer (some ⟨A, 0, none⟩) ∧ tm 6 = .pointer (some ⟨B, 0, none⟩) ∧ tm 7 = .pointer (some ⟨C, 0, none⟩) ∧ tm 10 = .int .i64 i ∧ i ≤ vs.length ∧ OldC ⟨σ6.nx, fun _ => .old, σ6.H⟩ τ ∧ ObC .self τ C (.cells (moV k VS) 0 none false (some 29)) ∧ RowAny τ (.slice ia vs.length ic) vs) (fun i => vs.length - i) 0 ?_ ?_
  ·exact ⟨_, τ, rfl, stp, stp, stp, stp, by omega, hx, hSb, hin⟩
  clear t5 t6 t7 hx hSb hin
  rintro i st ⟨tm, τ, rfl, t5, t6, t7, t10, hi, hx, hSb, hin⟩
  have g5 := (c2 hSb).2
  repeat (first | (refine OpsL.q (by first | exact omv | exact ofa | exact old | exact olen | exact olss) ?_) | (refine Trip.seq ?_) | (refine Trip.ops ?_) | (refine Trip.block ?_) | (refine Trip.itA (fun _ => ?_) (fun _ => ?_)) | (refine Trip.skip ?_; (change Trip _ _ _ _ _)) | (refine OpsL.nil ?_; (change Trip _ _ _ _ _)))
  ·have hlt : i < vs.length := by omega
   obtain ⟨⟨ua, ul, uc⟩, hu⟩ : ∃ u, vs[i]? = some u := ⟨_, List.getElem?_eq_getElem hlt⟩
   have hul : ul ≤ 100 := by
    obtain ⟨l, h1, b, h2, -⟩ := hin.2 i _ hu
    rw [List.length_map] at h2
    simp only [slV, Value.slice.injEq] at h2
    omega
   repeat fail
   (first | (refine OpsL.q (by exact oasg) ?_))
   refine zg46 ?_
   (change Trip _ _ _ _ _)
   refine Trip.mono (Q := fun e st => e = .normal ∧ ∃ (tm' : Nat → Value) (τ : CH), st = ⟨tm', n, τ.H, τ.nx⟩ ∧ tm' 5 = .pointer (some ⟨A, 0, none⟩) ∧ tm' 6 = .pointer (some ⟨B, 0, none⟩) ∧ tm' 7 = .pointer (some ⟨C, 0, none⟩) ∧ tm' 10 = .int .i64 i ∧ OldC ⟨σ6.nx, fun _ => .old, σ6.H⟩ τ ∧ ObC .self τ C (.cells (moV k VS) 0 none false (some 29)) ∧ RowAny τ (.slice ia vs.length ic) vs) ?_ ?_
   ·refine Trip.block ?_
    refine Trip.inv (fun (j : Nat) st => ∃ (tm : Nat → Value) (τ : CH), st = ⟨tm, n, τ.H, τ.nx⟩ ∧ tm 5 = .pointer (some ⟨A, 0, none⟩) ∧ tm 6 = .pointer (some ⟨B, 0, none⟩) ∧ tm 7 = .pointer (some ⟨C, 0, none⟩) ∧ tm 10 = .int .i64 i ∧ tm 11 = .int .i64 j ∧ j ≤ ul ∧ OldC ⟨σ6.nx, fun _ => .old, σ6.H⟩ τ ∧ ObC .self τ C (.cells (moV k VS) 0 none false (some 29)) ∧ RowAny τ (.slice ia vs.length ic) vs) (fun j => ul - j) 0 ?_ ?_
    ·exact ⟨_, τ, rfl, stp, stp, stp, stp, stp, by omega, hx, hSb, hin⟩
    clear t5 t6 t7 t10 hx hSb hin g5
    rintro j st ⟨tm, τ, rfl, t5, t6, t7, t10, t11, hj, hx, hSb, hin⟩
    have g5 := (c2 hSb).2
    obtain ⟨q, rfl, gi⟩ := hin.cell hu
    replace gi : cellAt τ.H ⟨q.block, q.off + i * 1, q.spot⟩ (.slice ua ul uc) := gi
    repeat (first | (refine OpsL.q (by first | exact omv | exact ofa | exact old | exact oixa | exact olen | exact olss) ?_) | (refine Trip.seq ?_) | (refine Trip.ops ?_) | (refine Trip.block ?_) | (refine Trip.itA (fun _ => ?_) (fun _ => ?_)) | (refine Trip.skip ?_; (change Trip _ _ _ _ _)) | (refine OpsL.nil ?_; (change Trip _ _ _ _ _)))
    ·have hjt : j < ul := by omega
     obtain ⟨l, h1, b, h2, hob⟩ := hin.2 i _ hu
     rw [List.length_map] at h2
     simp only [slV, Value.slice.injEq] at h2
     obtain ⟨rfl, hul2, huc2⟩ := h2
     have hll : PLift (l.length = ul) := ⟨hul2.symm⟩
     clear hul2 huc2
     refine zg94 ?_
     refine OpsL.setC (k := j) (v := .int .i64 (-9)) (cs' := (l.set j (-9)).map (.int .i64 ·)) hob (by rw [List.length_map]; have := hll.down; omega) (by rw [List.map_set]) rfl xrf rfl evr (by rfl) (by show (⟨b, 0 + j * 1, none⟩ : Addr) = _; rw [Nat.zero_add, Nat.mul_one]) ?_
     intro τ2 hob2 x2 _
     replace hx := hx.keep x2 (by simp)
     replace hSb := hSb.keep x2 (by simp)
     have hin2 : RowAny τ2 (.slice (some q) vs.length ic) vs := ⟨hin.1.keep x2 (by simp), fun p u hp => by
      by_cases e : p = i
      ·subst e
       rw [hu] at hp
       cases hp
       refine ⟨l.set j (-9), by rw [List.length_set]; exact h1, b, ?_, hob2⟩
       obtain ⟨b', k1, -⟩ := (hin.2 p _ hu).choose_spec.2
       rw [List.length_map, List.length_set, hll.down]
       simp only [slV, Value.slice.injEq, true_and]
       rw [List.length_map] at k1
       simp only [slV, Value.slice.injEq] at k1
       omega
      ·obtain ⟨l2, k1, k2⟩ := hin.2 p u hp
       exact ⟨l2, k1, k2.keep x2 (by simp [e])⟩⟩
     clear hob hob2 hin x2 g5 gi
     refine zg46 ?_
     refine zg14 ?_
     exact ⟨j + 1, ⟨_, τ2, rfl, stp, stp, stp, stp, stp, by omega, hx, hSb, hin2⟩, by omega⟩
    ·repeat (first | (refine Trip.exit ?_; ((repeat (refine blockExit_eq ?_)); dsimp only)))
     exact ⟨rfl, _, τ, rfl, stp, stp, stp, stp, hx, hSb, hin⟩
   clear t5 t6 t7 t10 hx hSb hin g5
   rintro e st ⟨rfl, tm, τ, rfl, t5, t6, t7, t10, hx, hSb, hin⟩
   refine zg14 ?_
   exact ⟨i + 1, ⟨_, τ, rfl, stp, stp, stp, stp, by omega, hx, hSb, hin⟩, by omega⟩
  ·repeat (first | (refine Trip.exit ?_; (dsimp only)))
   exact ⟨rfl, _, τ, rfl, stp, stp, hx⟩
 clear t5 t6 t7 hx hSb hin c2
 rintro e st ⟨rfl, tm, τ, rfl, t5, t6, hx⟩
 refine zg104 ?_
 -- classes, written over
 refine zg29 ?_
 refine OpsL.loadM (FA hx.ext).1.1 ?_ evd sdc
 refine OpsL.c1 (hf := entersFClasses) (hc := (fClassesC W0 (FA hx.ext).1.2 hmod.lens hmod)) (h := ?_)
 rintro v1 N1 H1 ⟨⟨cb, q1, q2, rfl, q3⟩, hxx⟩
 rw [List.length_map] at *
 obtain ⟨τ7, rfl, rfl, x7, hc7⟩ := Chg.ofExtC .tmp hxx
 have hcl := classesF_len hmod
 have hn60 := hmod.n.2
 have hc : ∃ l : List Int, HidP (l.length = (classesF m).length) ∧ ObC .tmp τ7 cb (.cells (l.map (.int .i64 ·)) 1 none false (some 3)) := ⟨_, rfl, q2, hc7 _ q1, q3⟩
 have hkc : (classesF m).length ≤ 60 := by omega
 generalize (classesF m).length = kc at *
 replace hx := hx.keep x7 (by simp)
 clear hxx x7 hc7 q1 q2 q3 hcl
 (first | (refine OpsL.q (by exact oasg) ?_))
 refine zg46 ?_
 (change Trip _ _ _ _ _)
 refine zg26 ?_
 refine Trip.mono (Q := fun e st => e = .exit 6 ∧ ∃ (tm' : Nat → Value) (τ : CH), st = ⟨tm', n, τ.H, τ.nx⟩ ∧ tm' 5 = .pointer (some ⟨A, 0, none⟩) ∧ tm' 6 = .pointer (some ⟨B, 0, none⟩) ∧ OldC ⟨σ6.nx, fun _ => .old, σ6.H⟩ τ) ?_ ?_
 ·refine Trip.inv (fun (i : Nat) st => ∃ (tm : Nat → Value) (τ : CH), st = ⟨tm, n, τ.H, τ.nx⟩ ∧ tm 5 = .pointer (some ⟨A, 0, none⟩) ∧ tm 6 = .pointer (some ⟨B, 0, none⟩) ∧ tm 12 = .slice (some ⟨cb, 0, none⟩) kc kc ∧ tm 13 = .int .i64 i ∧ i ≤ kc ∧ OldC ⟨σ6.nx, fun _ => .old, σ6.H⟩ τ ∧ ∃ l : List Int, HidP (l.length = kc) ∧ ObC .tmp τ cb (.cells (l.map (.int .i64 ·)) 1 none false (some 3))) (fun i => kc - i) 0 ?_ ?_
  ·exact ⟨_, τ7, rfl, stp, stp, stp, stp, by omega, hx, hc⟩
  clear t5 t6 hx hc
  rintro i st ⟨tm, τ, rfl, t5, t6, t12, t13, hi, hx, l, hl, hc⟩
  replace hl : PLift (l.length = kc) := ⟨hl⟩
  repeat (first | (refine OpsL.q (by first | exact omv | exact olen | exact olss) ?_) | (refine Trip.seq ?_) | (refine Trip.ops ?_) | (refine Trip.block ?_) | (refine Trip.itA (fun _ => ?_) (fun _ => ?_)) | (refine Trip.skip ?_; (change Trip _ _ _ _ _)) | (refine OpsL.nil ?_; (change Trip _ _ _ _ _)))
  ·have hlt : i < kc := by omega
   refine zg94 ?_
   refine OpsL.setC (k := i) (v := .int .i64 (-9)) (cs' := (l.set i (-9)).map (.int .i64 ·)) hc (by rw [List.length_map]; have := hl.down; omega) (by rw [List.map_set]) rfl xrf rfl evr (by rfl) (by show (⟨cb, 0 + i * 1, none⟩ : Addr) = _; rw [Nat.zero_add, Nat.mul_one]) ?_
   intro τ2 hc2 x2 _
   replace hx := hx.keep x2 (by simp)
   have hl2 : (l.set i (-9)).length = kc := by rw [List.length_set]; exact hl.down
   clear hc x2
   refine zg46 ?_
   refine zg14 ?_
   exact ⟨i + 1, ⟨_, τ2, rfl, stp, stp, stp, stp, by omega, hx, _, hl2, hc2⟩, by omega⟩
  ·repeat (first | (refine Trip.exit ?_; (dsimp only)))
   exact ⟨rfl, _, τ, rfl, stp, stp, hx⟩
 clear t5 t6 hx hc
 rintro e st ⟨rfl, tm, σ, rfl, t5, t6, hx⟩
 replace hx := hx.ext
 refine zg104 ?_
 -- small again
 refine zg29 ?_
 refine OpsL.loadM (FA hx).1.1 ?_ evd sdc
 refine OpsL.c1 (hf := entersFSmall) (hc := (fSmallC W0 (FA hx).1.2 hmod.lens hmod)) (h := ?_)
 rintro v1 N1 H1 ⟨VT, ρ1, rfl, rfl, rfl, hy, hM⟩
 (first | (refine OpsL.q (by exact omv) ?_))
 (first | (refine OpsL.q (by exact aop_extract evr xrf) ?_))
 (first | (refine OpsL.q (by exact aop_extract evr xrf) ?_))
 refine OpsL.newC .self (aop_alloc (l := moV noMo nilV) xrf) sdc ?_
 intro ρ2 hT x2
 obtain ⟨T, hTn⟩ : ∃ T, ρ1.nx = T := ⟨_, rfl⟩
 rw [hTn] at hT ⊢
 replace hy := hy.keep x2 (by simp)
 replace hM := hM.keep x2 (by simp)
 refine OpsL.setAllC (vs := moV (smallF m) VT) hT xrf rfl rfl (MoIn.one hM.in) evd evr ?_
 intro ρ3 hT3 x3
 replace hy := hx.trans (hy.keep x3 (by simp)).ext
 replace hM := (hM.keep x3 (by simp)).in
 have hbT : MoBox ρ3.H T (smallF m) VT := MoBox.of hT3.2.2
 clear hT hT3 x2 x3 hTn
 (first | (refine OpsL.q (by exact oasg) ?_))
 refine zg46 ?_
 (change Trip _ _ _ _ _)
 refine Trip.ok fun hok => ?_
 replace hok : ∀ id o, ρ3.H id = some o → id < ρ3.nx := hok
 -- the reference's
 refine zg29 ?_
 refine OpsL.loadM (FA hy).2.1 ?_ evd sdc
 refine OpsL.c1 (hf := entersRefSmall) (hc := (refSmallC W0 (FA hy).2.2 hmod).ok) (h := ?_)
 rintro v1 N1 H1 ⟨⟨VU, rfl, hz, hU⟩, hok4⟩
 have hoks := small_ok hmod
 generalize smallF m = k2 at *
 obtain ⟨ρ4, rfl, rfl, x4, -⟩ := Chg.ofExtC .tmp hz
 have hK : OldC ⟨ρ4.nx, fun _ => .old, ρ4.H⟩ ⟨ρ4.nx, fun _ => .old, ρ4.H⟩ := OldC.refl
 obtain ⟨ρ5, hρ⟩ : ∃ ρ5 : CH, (⟨ρ4.nx, fun _ => .old, ρ4.H⟩ : CH) = ρ5 := ⟨_, rfl⟩
 have hr1 : ρ5.nx = ρ4.nx := by rw [← hρ]
 have hr2 : ρ5.H = ρ4.H := by rw [← hρ]
 rw [hρ] at hK
 rw [← hr2] at hU hz
 rw [← hr1] at hz
 rw [← hr1, ← hr2] at hok4
 rw [← hr1, ← hr2]
 clear hρ hr1 hr2 x4
 (first | (refine OpsL.q (by exact omv) ?_))
 (first | (refine OpsL.q (by exact aop_extract evr xrf) ?_))
 (first | (refine OpsL.q (by exact aop_extract evr xrf) ?_))
 refine OpsL.newC .self (aop_alloc (l := moV noMo nilV) xrf) sdc ?_
 intro ρ6 hT x2
 obtain ⟨U, hUn⟩ : ∃ U, ρ5.nx = U := ⟨_, rfl⟩
 rw [hUn] at hT
 change OpsL _ _ _ _ ⟨tmPut _ _ (.pointer (some ⟨ρ5.nx, 0, none⟩)), _, _, _⟩ _
 rw [hUn]
 replace hK := hK.keep x2 (by simp)
 refine OpsL.setAllC (vs := moV k2 VU) hT xrf rfl rfl (MoIn.one hU) evd evr ?_
 intro ρ7 hT7 x3
 replace hK := (hK.keep x3 (by simp)).ext
 have hbU : MoBox ρ7.H U k2 VU := MoBox.of hT7.2.2
 have hU2 := hU.ext hK hok4
 clear hT hT7 x2 x3 hUn
 (first | (refine OpsL.q (by exact oasg) ?_))
 refine zg46 ?_
 (change Trip _ _ _ _ _)
 refine Trip.ok fun hok7 => ?_
 replace hok7 : ∀ id o, ρ7.H id = some o → id < ρ7.nx := hok7
 have zz := hz.trans hK
 have hyz := hy.trans zz
 have f5 := (FA hyz).1
 have f6 := (FA hyz).2
 have fT := hbT.ext zz hok
 have hTz := hM.ext zz hok
 have hUz : MoIn ρ7.H k2 VU := hU2
 refine zg64 ?_
 refine OpsL.loadM f5.1 ?_ evd sdc
 refine OpsL.loadM f6.1 ?_ evd sdc
 refine OpsL.c2 (hf := entersRefSame) (hc := (refSameC W0 f5.2 f6.2 hmod.lens)) (h := ?_)
 rintro v8 N8 H8 ⟨d, rfl, hd, z8⟩
 obtain rfl := hd.2 rfl
 refine zg99 ?_
 refine OpsL.eqlT ?_ (c := rfl)
 repeat (first | (refine OpsL.q (by first | exact omv | exact opkT) ?_) | (refine OpsL.ung ?_))
 refine OpsL.loadM (fT.ext z8 hok7) ?_ evd sdc
 refine zg69 ?_
 refine OpsL.loadM (hbU.ext z8 hok7) ?_ evd sdc
 refine zg69 ?_
 refine OpsL.c2 (hf := entersRefSame) (hc := (refSameC W0 (hTz.ext z8 hok7) (hUz.ext z8 hok7) hoks.lens)) (h := ?_)
 rintro v9 N9 H9 ⟨d, rfl, hd, z9⟩
 obtain rfl := hd.2 rfl
 repeat (first | (refine OpsL.q (by first | exact opkT | exact oasg) ?_) | (refine Trip.ret ?_; (skip)) | (refine OpsL.nil ?_; (change Trip _ _ _ _ _)))
 exact ⟨.inr rfl, _, res_tmp, by simp [tmPut]⟩
theorem core (W0 : World) (nx : Nat) (H : Heap) (a0 : Int) (w0 : (Lit.int .i64 a0).wf = true) (x1 : List Int) (w1 : ∀ x ∈ x1, (Lit.int .i64 x).wf = true) (us : List Value)
  (hat : All2 (Arg.at H) [.plain (.int .i64 a0), .ints .i64 x1] us) (hok : ∀ id o, H id = some o → id < nx) : ACalls Try.prog W0 5 us nx H fun v _ _ => v = .bool true := by
 obtain ⟨u0, us, rfl, h0, hat⟩ := hat.cons
 obtain ⟨u1, us, rfl, h1, hat⟩ := hat.cons
 obtain rfl := hat.nil
 obtain rfl : u0 = _ := h0
 exact law W0 h1.1 (wf64 w0) hok
theorem own : ownKnob Try.prog.godebug = none := by kernel_rfl
theorem laidOut : laidOutB Try.prog = true := by kernel_rfl
theorem cells_ints : Try.prog.cellsOf 3 = 1 := by kernel_rfl
set_option maxRecDepth 100000 in
theorem lifted (os : Os) (started : os.Started) (H : Type) (enc : TypeId × Value → H) :
  ReturnsInHanded {} Try.checked os 5 .any (Rows.foldOwnSpec.pre6 enc Try.prog Try.f5 Rows.foldOwnRow.domain false) (Rows.foldOwnSpec.post enc Try.prog Try.f5 false true false false) := by
 refine returnsInHanded_of_change (C := Try.checked) own started krf Try.func5
  (ChangeSpec.witness6 (enc := enc) (C := Try.checked) false ⟨#[], #[.int .i64 0, .slice none 0 0], []⟩ 8 krf krf krf krf) ?_
 intro W base args ds gs before hval0 hW _ _
 have hval : ∀ (j : Nat) t v, Try.f5.params[j]? = some t → args[j]? = some v → Value.okWide Try.prog W .any base t v := hval0
 have hW' := hW
 obtain ⟨p, q, hA0, hV, rfl, _, _⟩ := hW
 have hA : DataW.TrodAll enc Try.prog W 0 (fun _ => true) true Try.f5.params.toList args.toList ds p := hA0
 rw [Try.params5] at hA hval
 obtain ⟨v0, vs0, d0, ds0, p0, q0, hargs, rfl, rfl, h0, r0⟩ := trodAll_cons hA
 obtain ⟨v1, vs1, d1, ds1, p1, q1, rfl, rfl, rfl, h1, r1⟩ := trodAll_cons r0
 obtain ⟨rfl, rfl, rfl⟩ := trodAll_nil r1
 obtain rfl : args = #[v0, v1] := by cases args; simp_all
 obtain ⟨rfl, rfl⟩ := trodVars_none hV
 obtain ⟨a0, rfl, rfl, rfl, w0⟩ := open_int Try.underlying3 (hval 0 3 v0 rfl rfl) h0
 obtain ⟨x1, c1, w1⟩ := came_ints Try.underlying22 Try.underlying3 cells_ints (hval 1 22 v1 rfl rfl) h1
 clear hA0 hval0
 refine (law_calls (ars := [.plain (.int .i64 a0), .ints .i64 x1]) (vs := [_, _]) ⟨⟨rfl, rfl⟩, c1, trivial⟩ (fun nx H us hat hok => core W nx H a0 w0 x1 w1 us hat hok)).mono fun e W' ⟨he, hg⟩ => ?_
 subst he
 exact ⟨_, rfl, law_post laidOut krf rfl Try.underlying4 rfl hW' rfl hg⟩
theorem over : Rows.foldOwnRow.holds Try.pinned (OpenSpec.ofChange Rows.foldOwnSpec) :=
 OpenClaim.holds_of_wide 5 Try.f5 rfl rfl rfl rfl rfl rfl rfl ⟨rfl, rfl, rfl, rfl, rfl⟩ rfl rfl rfl rfl rfl krf Try.func5 krf
  (of_decide_eq_true krf) (by unfold Func.isWrapper; first | (rw [if_pos (by decide +kernel)]; kernel_rfl) | (rw [if_neg (by decide +kernel)]; exact ⟨rfl, rfl⟩))
  (fun os started H enc _ => lifted os started H enc)
theorem proved : Rows.FoldOwnSaid := over
end Go.Proofs.Ytjgbcpagfghfnaa.foldOwn
