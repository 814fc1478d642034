import Derived.Test.YtjgbcpagfghfnaaQXM38
import Derived.Test.YtjgbcpagfghfnaaQXM15
import Derived.Test.YtjgbcpagfghfnaaQXM40
set_option linter.unusedVariables false
set_option linter.unusedSimpArgs false
namespace Go.Am
open Go.RowKit
theorem listAt_of {α : Type} {R : Heap → Value → α → Prop} {H : Heap} {b : Nat} {us : List Value} {ro : Bool} {q : Option TypeId} {l : List α} {k : Nat} (h : H b = some (.cells us 1 none ro q)) (hk : k = l.length) (hl : us.length = l.length) (hR : ∀ i (h1 : i < us.length) (h2 : i < l.length), R H us[i] l[i]) : ListAt R H (.slice (some ⟨b, 0, none⟩) k k) l := by
 subst hk
 refine .inr ⟨⟨b, 0, none⟩, l.length, rfl, fun i hi => ⟨us[i], ?_, hR i (by omega) hi⟩⟩
 rw [Nat.zero_add]
 exact cell_of h (List.getElem?_eq_getElem (by omega))
theorem ints_of {H : Heap} {b : Nat} {ro : Bool} {q : Option TypeId} {l : List Int} {k : Nat} (h : H b = some (.cells (l.map (.int .i64 ·)) 1 none ro q)) (hk : k = l.length) : IntsAt H (.slice (some ⟨b, 0, none⟩) k k) l := by
 subst hk
 refine .inr ⟨⟨b, 0, none⟩, l.length, rfl, fun i hi => ?_⟩
 rw [Nat.zero_add]
 exact cell_of h (by rw [List.getElem?_map, List.getElem?_eq_getElem hi]; rfl)
theorem bools_of {H : Heap} {b : Nat} {ro : Bool} {q : Option TypeId} {l : List Bool} {k : Nat} (h : H b = some (.cells (l.map .bool) 1 none ro q)) (hk : k = l.length) : BoolsAt H (.slice (some ⟨b, 0, none⟩) k k) l :=
 listAt_of h hk (by simp) fun i h1 h2 => by simp
theorem nones2 {H : Heap} : IntsAt H (.slice none 0 0) [] := .inl ⟨0, rfl, rfl⟩
theorem nones3 {H : Heap} : L2At H (.slice none 0 0) [] := .inl ⟨0, rfl, rfl⟩
def kn1 : Mo := { plains := 0, closings := 0, of := [0], entry := [0], final := [true], inn := [[]], low := [[]], ret := [[]] }
def kn2 : Mo := { plains := 1, closings := 0, of := [0, 0], entry := [0], final := [true, true], inn := [[1], [0]], low := [[], []], ret := [[], []] }
theorem kn_s1 : smallF kn1 = kn1 := by kernel_rfl
theorem kn_s2 : (smallF kn2).of.length = 1 := by kernel_rfl
theorem kn_c2 : classesF kn2 = [0, 0] := by kernel_rfl
theorem kn_r2 : reachedF kn2 = [true, true] := by kernel_rfl
theorem kn_t2 : takesF kn2 [(3, 0)] = true := by kernel_rfl
theorem kn_t1 : takesF kn1 [(3, 0)] = false := by kernel_rfl
theorem kn_m1 : modF kn1 = true := by kernel_rfl
theorem kn_m2 : modF kn2 = true := by kernel_rfl
theorem kn_m0 : modF noMo = false := by kernel_rfl
end Go.Am
namespace Go.Proofs.Ytjgbcpagfghfnaa
open Go.Am Go.RowKit
attribute [local irreducible] aop OpsL Trip blockExit OpsD OpsK OpsR OpsQ
theorem word1 {H : Heap} {b : Nat} {ro : Bool} {q : Option TypeId} (h : H b = some (.cells [.int .i64 3, .int .i64 0] 2 none ro q)) : RowsAt encPr 2 H (.slice (some ⟨b, 0, none⟩) 1 1) [(3, 0)] :=
 .inr ⟨⟨b, 0, none⟩, 1, rfl, fun i hi => by
  obtain rfl : i = 0 := by simp at hi; omega
  exact getc_all (m := 2) h rfl⟩
theorem noMo_in {H : Heap} : MoIn H noMo nilV := ⟨.inl ⟨0, rfl, rfl⟩, .inl ⟨0, rfl, rfl⟩, .inl ⟨0, rfl, rfl⟩, .inl ⟨0, rfl, rfl⟩, .inl ⟨0, rfl, rfl⟩, .inl ⟨0, rfl, rfl⟩⟩
theorem entersKnown13 : Am.Enters Try.prog 6 := ⟨Try.f6, Try.func6, by kernel_rfl, by kernel_rfl⟩
set_option maxRecDepth 20000 in
set_option maxHeartbeats 16000000 in
theorem knownC (W0 : World) {nx : Nat} {H : Heap} : ACalls Try.prog W0 6 [] nx H fun v nx' H' => v = .bool true ∧ Ext nx H nx' H' := by
 refine ACalls.by_trip (fn := Try.f6) (c := _) Try.func6 rfl (fun tm n hn0 htm => ?_)
 replace hn0 : n = 95 := hn0
 obtain ⟨σ, hσ1, hσ2⟩ : ∃ σ : CH, σ.nx = nx ∧ σ.H = H := ⟨⟨nx, fun _ => .old, H⟩, rfl, rfl⟩
 subst hσ1 hσ2
 have hold : OldC ⟨σ.nx, fun _ => .old, σ.H⟩ ⟨σ.nx, fun _ => .old, σ.H⟩ := OldC.refl
 clear hold
 obtain ⟨σ', hold, hs1, hs2⟩ : ∃ σ' : CH, OldC ⟨σ.nx, fun _ => .old, σ.H⟩ σ' ∧ σ'.nx = σ.nx ∧ σ'.H = σ.H := ⟨⟨σ.nx, fun _ => .old, σ.H⟩, OldC.refl, rfl, rfl⟩
 rw [← hs1, ← hs2] at hold ⊢
 clear hs1 hs2
 refine zg25 ?_
 refine OpsL.newC .tmp (aop_buildSlice (l := [(0, .int .i64 0)]) (r := (.slice (some ⟨σ'.nx, 0, none⟩) 1 1, .new (.cells [.int .i64 0] 1 none false (some 3)))) (by simp [evParts, ASt.ev, tmPut, Am.plainC, plain1, *]) xrf) sdc ?_
 intro σ1 ho1 xo1
 obtain ⟨bo1, qo1⟩ : ∃ b, σ'.nx = b := ⟨_, rfl⟩
 rw [qo1] at ho1 hold ⊢
 clear qo1
 replace hold := hold.keep xo1 (by simp)
 clear xo1
 refine OpsL.newC .tmp (aop_buildSlice (l := [(0, .int .i64 0)]) (r := (.slice (some ⟨σ1.nx, 0, none⟩) 1 1, .new (.cells [.int .i64 0] 1 none false (some 3)))) (by simp [evParts, ASt.ev, tmPut, Am.plainC, plain1, *]) xrf) sdc ?_
 intro σ2 he1 xe1
 obtain ⟨be1, qe1⟩ : ∃ b, σ1.nx = b := ⟨_, rfl⟩
 rw [qe1] at he1 ⊢
 clear qe1
 replace hold := hold.keep xe1 (by simp)
 replace ho1 := ho1.keep xe1 (by simp)
 clear xe1
 refine OpsL.newC .tmp (aop_buildSlice (l := [(0, .bool true)]) (r := (.slice (some ⟨σ2.nx, 0, none⟩) 1 1, .new (.cells [.bool true] 1 none false (some 4)))) (by simp [evParts, ASt.ev, tmPut, Am.plainC, plain1, *]) xrf) sdc ?_
 intro σ3 hf1 xf1
 obtain ⟨bf1, qf1⟩ : ∃ b, σ2.nx = b := ⟨_, rfl⟩
 rw [qf1] at hf1 ⊢
 clear qf1
 replace hold := hold.keep xf1 (by simp)
 replace ho1 := ho1.keep xf1 (by simp)
 replace he1 := he1.keep xf1 (by simp)
 clear xf1
 refine OpsL.newC .tmp (aop_buildSlice (l := [(0, .slice none 0 0)]) (r := (.slice (some ⟨σ3.nx, 0, none⟩) 1 1, .new (.cells [.slice none 0 0] 1 none false (some 22)))) (by simp [evParts, ASt.ev, tmPut, Am.plainC, plain1, *]) xrf) sdc ?_
 intro σ4 hi1 xi1
 obtain ⟨bi1, qi1⟩ : ∃ b, σ3.nx = b := ⟨_, rfl⟩
 rw [qi1] at hi1 ⊢
 clear qi1
 replace hold := hold.keep xi1 (by simp)
 replace ho1 := ho1.keep xi1 (by simp)
 replace he1 := he1.keep xi1 (by simp)
 replace hf1 := hf1.keep xi1 (by simp)
 clear xi1
 refine OpsL.newC .tmp (aop_buildSlice (l := [(0, .slice none 0 0)]) (r := (.slice (some ⟨σ4.nx, 0, none⟩) 1 1, .new (.cells [.slice none 0 0] 1 none false (some 22)))) (by simp [evParts, ASt.ev, tmPut, Am.plainC, plain1, *]) xrf) sdc ?_
 intro σ5 hl1 xl1
 obtain ⟨bl1, ql1⟩ : ∃ b, σ4.nx = b := ⟨_, rfl⟩
 rw [ql1] at hl1 ⊢
 clear ql1
 replace hold := hold.keep xl1 (by simp)
 replace ho1 := ho1.keep xl1 (by simp)
 replace he1 := he1.keep xl1 (by simp)
 replace hf1 := hf1.keep xl1 (by simp)
 replace hi1 := hi1.keep xl1 (by simp)
 clear xl1
 refine OpsL.newC .tmp (aop_buildSlice (l := [(0, .slice none 0 0)]) (r := (.slice (some ⟨σ5.nx, 0, none⟩) 1 1, .new (.cells [.slice none 0 0] 1 none false (some 26)))) (by simp [evParts, ASt.ev, tmPut, Am.plainC, plain1, *]) xrf) sdc ?_
 intro σ6 hr1 xr1
 obtain ⟨br1, qr1⟩ : ∃ b, σ5.nx = b := ⟨_, rfl⟩
 rw [qr1] at hr1 ⊢
 clear qr1
 replace hold := hold.keep xr1 (by simp)
 replace ho1 := ho1.keep xr1 (by simp)
 replace he1 := he1.keep xr1 (by simp)
 replace hf1 := hf1.keep xr1 (by simp)
 replace hi1 := hi1.keep xr1 (by simp)
 replace hl1 := hl1.keep xr1 (by simp)
 clear xr1
 refine OpsL.p sdc (aop_build (l := [(2, .slice (some ⟨bo1, 0, none⟩) 1 1), (3, .slice (some ⟨be1, 0, none⟩) 1 1), (4, .slice (some ⟨bf1, 0, none⟩) 1 1), (5, .slice (some ⟨bi1, 0, none⟩) 1 1), (6, .slice (some ⟨bl1, 0, none⟩) 1 1), (7, .slice (some ⟨br1, 0, none⟩) 1 1)]) (v := .agg (moV kn1 ⟨.slice (some ⟨bo1, 0, none⟩) 1 1, .slice (some ⟨be1, 0, none⟩) 1 1, .slice (some ⟨bf1, 0, none⟩) 1 1, .slice (some ⟨bi1, 0, none⟩) 1 1, .slice (some ⟨bl1, 0, none⟩) 1 1, .slice (some ⟨br1, 0, none⟩) 1 1⟩).toArray) (by simp [evParts, ASt.ev, tmPut, Am.plainC, plain1, *]) krf) ?_
 refine OpsL.newC .self (aop_alloc (l := moV noMo nilV) xrf) sdc ?_
 intro σ7 hA1 xA1
 obtain ⟨bA1, qA1⟩ : ∃ b, σ6.nx = b := ⟨_, rfl⟩
 rw [qA1] at hA1 ⊢
 clear qA1
 replace hold := hold.keep xA1 (by simp)
 replace ho1 := ho1.keep xA1 (by simp)
 replace he1 := he1.keep xA1 (by simp)
 replace hf1 := hf1.keep xA1 (by simp)
 replace hi1 := hi1.keep xA1 (by simp)
 replace hl1 := hl1.keep xA1 (by simp)
 replace hr1 := hr1.keep xA1 (by simp)
 clear xA1
 refine OpsL.setAllC (vs := moV kn1 ⟨.slice (some ⟨bo1, 0, none⟩) 1 1, .slice (some ⟨be1, 0, none⟩) 1 1, .slice (some ⟨bf1, 0, none⟩) 1 1, .slice (some ⟨bi1, 0, none⟩) 1 1, .slice (some ⟨bl1, 0, none⟩) 1 1, .slice (some ⟨br1, 0, none⟩) 1 1⟩) hA1 xrf rfl rfl rfl evd evd ?_
 intro σ8 hA12 xA1
 clear hA1
 have hA1 := hA12
 clear hA12
 replace hold := hold.keep xA1 (by simp)
 replace ho1 := ho1.keep xA1 (by simp)
 replace he1 := he1.keep xA1 (by simp)
 replace hf1 := hf1.keep xA1 (by simp)
 replace hi1 := hi1.keep xA1 (by simp)
 replace hl1 := hl1.keep xA1 (by simp)
 replace hr1 := hr1.keep xA1 (by simp)
 clear xA1
 refine zg46 ?_
 (change Trip _ _ _ _ _)
 refine zg64 ?_
 refine OpsL.newC .tmp (aop_buildSlice (l := [(0, .int .i64 0), (1, .int .i64 0)]) (r := (.slice (some ⟨σ8.nx, 0, none⟩) 2 2, .new (.cells [.int .i64 0, .int .i64 0] 1 none false (some 3)))) (by simp [evParts, ASt.ev, tmPut, Am.plainC, plain1, *]) xrf) sdc ?_
 intro σ9 ho2 xo2
 obtain ⟨bo2, qo2⟩ : ∃ b, σ8.nx = b := ⟨_, rfl⟩
 rw [qo2] at ho2 ⊢
 clear qo2
 replace hold := hold.keep xo2 (by simp)
 replace ho1 := ho1.keep xo2 (by simp)
 replace he1 := he1.keep xo2 (by simp)
 replace hf1 := hf1.keep xo2 (by simp)
 replace hi1 := hi1.keep xo2 (by simp)
 replace hl1 := hl1.keep xo2 (by simp)
 replace hr1 := hr1.keep xo2 (by simp)
 replace hA1 := hA1.keep xo2 (by simp)
 clear xo2
 refine OpsL.newC .tmp (aop_buildSlice (l := [(0, .int .i64 0)]) (r := (.slice (some ⟨σ9.nx, 0, none⟩) 1 1, .new (.cells [.int .i64 0] 1 none false (some 3)))) (by simp [evParts, ASt.ev, tmPut, Am.plainC, plain1, *]) xrf) sdc ?_
 intro σ10 he2 xe2
 obtain ⟨be2, qe2⟩ : ∃ b, σ9.nx = b := ⟨_, rfl⟩
 rw [qe2] at he2 ⊢
 clear qe2
 replace hold := hold.keep xe2 (by simp)
 replace ho1 := ho1.keep xe2 (by simp)
 replace he1 := he1.keep xe2 (by simp)
 replace hf1 := hf1.keep xe2 (by simp)
 replace hi1 := hi1.keep xe2 (by simp)
 replace hl1 := hl1.keep xe2 (by simp)
 replace hr1 := hr1.keep xe2 (by simp)
 replace hA1 := hA1.keep xe2 (by simp)
 replace ho2 := ho2.keep xe2 (by simp)
 clear xe2
 refine OpsL.newC .tmp (aop_buildSlice (l := [(0, .bool true), (1, .bool true)]) (r := (.slice (some ⟨σ10.nx, 0, none⟩) 2 2, .new (.cells [.bool true, .bool true] 1 none false (some 4)))) (by simp [evParts, ASt.ev, tmPut, Am.plainC, plain1, *]) xrf) sdc ?_
 intro σ11 hf2 xf2
 obtain ⟨bf2, qf2⟩ : ∃ b, σ10.nx = b := ⟨_, rfl⟩
 rw [qf2] at hf2 ⊢
 clear qf2
 replace hold := hold.keep xf2 (by simp)
 replace ho1 := ho1.keep xf2 (by simp)
 replace he1 := he1.keep xf2 (by simp)
 replace hf1 := hf1.keep xf2 (by simp)
 replace hi1 := hi1.keep xf2 (by simp)
 replace hl1 := hl1.keep xf2 (by simp)
 replace hr1 := hr1.keep xf2 (by simp)
 replace hA1 := hA1.keep xf2 (by simp)
 replace ho2 := ho2.keep xf2 (by simp)
 replace he2 := he2.keep xf2 (by simp)
 clear xf2
 refine OpsL.newC .tmp (aop_buildSlice (l := [(0, .int .i64 1)]) (r := (.slice (some ⟨σ11.nx, 0, none⟩) 1 1, .new (.cells [.int .i64 1] 1 none false (some 3)))) (by simp [evParts, ASt.ev, tmPut, Am.plainC, plain1, *]) xrf) sdc ?_
 intro σ12 hx2 xx2
 obtain ⟨bx2, qx2⟩ : ∃ b, σ11.nx = b := ⟨_, rfl⟩
 rw [qx2] at hx2 ⊢
 clear qx2
 replace hold := hold.keep xx2 (by simp)
 replace ho1 := ho1.keep xx2 (by simp)
 replace he1 := he1.keep xx2 (by simp)
 replace hf1 := hf1.keep xx2 (by simp)
 replace hi1 := hi1.keep xx2 (by simp)
 replace hl1 := hl1.keep xx2 (by simp)
 replace hr1 := hr1.keep xx2 (by simp)
 replace hA1 := hA1.keep xx2 (by simp)
 replace ho2 := ho2.keep xx2 (by simp)
 replace he2 := he2.keep xx2 (by simp)
 replace hf2 := hf2.keep xx2 (by simp)
 clear xx2
 refine OpsL.newC .tmp (aop_buildSlice (l := [(0, .int .i64 0)]) (r := (.slice (some ⟨σ12.nx, 0, none⟩) 1 1, .new (.cells [.int .i64 0] 1 none false (some 3)))) (by simp [evParts, ASt.ev, tmPut, Am.plainC, plain1, *]) xrf) sdc ?_
 intro σ13 hy2 xy2
 obtain ⟨by2, qy2⟩ : ∃ b, σ12.nx = b := ⟨_, rfl⟩
 rw [qy2] at hy2 ⊢
 clear qy2
 replace hold := hold.keep xy2 (by simp)
 replace ho1 := ho1.keep xy2 (by simp)
 replace he1 := he1.keep xy2 (by simp)
 replace hf1 := hf1.keep xy2 (by simp)
 replace hi1 := hi1.keep xy2 (by simp)
 replace hl1 := hl1.keep xy2 (by simp)
 replace hr1 := hr1.keep xy2 (by simp)
 replace hA1 := hA1.keep xy2 (by simp)
 replace ho2 := ho2.keep xy2 (by simp)
 replace he2 := he2.keep xy2 (by simp)
 replace hf2 := hf2.keep xy2 (by simp)
 replace hx2 := hx2.keep xy2 (by simp)
 clear xy2
 refine OpsL.newC .tmp (aop_buildSlice (l := [(0, .slice (some ⟨bx2, 0, none⟩) 1 1), (1, .slice (some ⟨by2, 0, none⟩) 1 1)]) (r := (.slice (some ⟨σ13.nx, 0, none⟩) 2 2, .new (.cells [.slice (some ⟨bx2, 0, none⟩) 1 1, .slice (some ⟨by2, 0, none⟩) 1 1] 1 none false (some 22)))) (by simp [evParts, ASt.ev, tmPut, Am.plainC, plain1, *]) xrf) sdc ?_
 intro σ14 hi2 xi2
 obtain ⟨bi2, qi2⟩ : ∃ b, σ13.nx = b := ⟨_, rfl⟩
 rw [qi2] at hi2 ⊢
 clear qi2
 replace hold := hold.keep xi2 (by simp)
 replace ho1 := ho1.keep xi2 (by simp)
 replace he1 := he1.keep xi2 (by simp)
 replace hf1 := hf1.keep xi2 (by simp)
 replace hi1 := hi1.keep xi2 (by simp)
 replace hl1 := hl1.keep xi2 (by simp)
 replace hr1 := hr1.keep xi2 (by simp)
 replace hA1 := hA1.keep xi2 (by simp)
 replace ho2 := ho2.keep xi2 (by simp)
 replace he2 := he2.keep xi2 (by simp)
 replace hf2 := hf2.keep xi2 (by simp)
 replace hx2 := hx2.keep xi2 (by simp)
 replace hy2 := hy2.keep xi2 (by simp)
 clear xi2
 refine OpsL.newC .tmp (aop_buildSlice (l := [(0, .slice none 0 0), (1, .slice none 0 0)]) (r := (.slice (some ⟨σ14.nx, 0, none⟩) 2 2, .new (.cells [.slice none 0 0, .slice none 0 0] 1 none false (some 22)))) (by simp [evParts, ASt.ev, tmPut, Am.plainC, plain1, *]) xrf) sdc ?_
 intro σ15 hl2 xl2
 obtain ⟨bl2, ql2⟩ : ∃ b, σ14.nx = b := ⟨_, rfl⟩
 rw [ql2] at hl2 ⊢
 clear ql2
 replace hold := hold.keep xl2 (by simp)
 replace ho1 := ho1.keep xl2 (by simp)
 replace he1 := he1.keep xl2 (by simp)
 replace hf1 := hf1.keep xl2 (by simp)
 replace hi1 := hi1.keep xl2 (by simp)
 replace hl1 := hl1.keep xl2 (by simp)
 replace hr1 := hr1.keep xl2 (by simp)
 replace hA1 := hA1.keep xl2 (by simp)
 replace ho2 := ho2.keep xl2 (by simp)
 replace he2 := he2.keep xl2 (by simp)
 replace hf2 := hf2.keep xl2 (by simp)
 replace hx2 := hx2.keep xl2 (by simp)
 replace hy2 := hy2.keep xl2 (by simp)
 replace hi2 := hi2.keep xl2 (by simp)
 clear xl2
 refine OpsL.newC .tmp (aop_buildSlice (l := [(0, .slice none 0 0), (1, .slice none 0 0)]) (r := (.slice (some ⟨σ15.nx, 0, none⟩) 2 2, .new (.cells [.slice none 0 0, .slice none 0 0] 1 none false (some 26)))) (by simp [evParts, ASt.ev, tmPut, Am.plainC, plain1, *]) xrf) sdc ?_
 intro σ16 hr2 xr2
 obtain ⟨br2, qr2⟩ : ∃ b, σ15.nx = b := ⟨_, rfl⟩
 rw [qr2] at hr2 ⊢
 clear qr2
 replace hold := hold.keep xr2 (by simp)
 replace ho1 := ho1.keep xr2 (by simp)
 replace he1 := he1.keep xr2 (by simp)
 replace hf1 := hf1.keep xr2 (by simp)
 replace hi1 := hi1.keep xr2 (by simp)
 replace hl1 := hl1.keep xr2 (by simp)
 replace hr1 := hr1.keep xr2 (by simp)
 replace hA1 := hA1.keep xr2 (by simp)
 replace ho2 := ho2.keep xr2 (by simp)
 replace he2 := he2.keep xr2 (by simp)
 replace hf2 := hf2.keep xr2 (by simp)
 replace hx2 := hx2.keep xr2 (by simp)
 replace hy2 := hy2.keep xr2 (by simp)
 replace hi2 := hi2.keep xr2 (by simp)
 replace hl2 := hl2.keep xr2 (by simp)
 clear xr2
 refine OpsL.p sdc (aop_build (l := [(0, .int .i64 1), (2, .slice (some ⟨bo2, 0, none⟩) 2 2), (3, .slice (some ⟨be2, 0, none⟩) 1 1), (4, .slice (some ⟨bf2, 0, none⟩) 2 2), (5, .slice (some ⟨bi2, 0, none⟩) 2 2), (6, .slice (some ⟨bl2, 0, none⟩) 2 2), (7, .slice (some ⟨br2, 0, none⟩) 2 2)]) (v := .agg (moV kn2 ⟨.slice (some ⟨bo2, 0, none⟩) 2 2, .slice (some ⟨be2, 0, none⟩) 1 1, .slice (some ⟨bf2, 0, none⟩) 2 2, .slice (some ⟨bi2, 0, none⟩) 2 2, .slice (some ⟨bl2, 0, none⟩) 2 2, .slice (some ⟨br2, 0, none⟩) 2 2⟩).toArray) (by simp [evParts, ASt.ev, tmPut, Am.plainC, plain1, *]) krf) ?_
 refine OpsL.newC .next (aop_alloc (l := moV noMo nilV) xrf) sdc ?_
 intro σ17 hA2 xA2
 obtain ⟨bA2, qA2⟩ : ∃ b, σ16.nx = b := ⟨_, rfl⟩
 rw [qA2] at hA2 ⊢
 clear qA2
 replace hold := hold.keep xA2 (by simp)
 replace ho1 := ho1.keep xA2 (by simp)
 replace he1 := he1.keep xA2 (by simp)
 replace hf1 := hf1.keep xA2 (by simp)
 replace hi1 := hi1.keep xA2 (by simp)
 replace hl1 := hl1.keep xA2 (by simp)
 replace hr1 := hr1.keep xA2 (by simp)
 replace hA1 := hA1.keep xA2 (by simp)
 replace ho2 := ho2.keep xA2 (by simp)
 replace he2 := he2.keep xA2 (by simp)
 replace hf2 := hf2.keep xA2 (by simp)
 replace hx2 := hx2.keep xA2 (by simp)
 replace hy2 := hy2.keep xA2 (by simp)
 replace hi2 := hi2.keep xA2 (by simp)
 replace hl2 := hl2.keep xA2 (by simp)
 replace hr2 := hr2.keep xA2 (by simp)
 clear xA2
 refine OpsL.setAllC (vs := moV kn2 ⟨.slice (some ⟨bo2, 0, none⟩) 2 2, .slice (some ⟨be2, 0, none⟩) 1 1, .slice (some ⟨bf2, 0, none⟩) 2 2, .slice (some ⟨bi2, 0, none⟩) 2 2, .slice (some ⟨bl2, 0, none⟩) 2 2, .slice (some ⟨br2, 0, none⟩) 2 2⟩) hA2 xrf rfl rfl rfl evd evd ?_
 intro σ18 hA22 xA2
 clear hA2
 have hA2 := hA22
 clear hA22
 replace hold := hold.keep xA2 (by simp)
 replace ho1 := ho1.keep xA2 (by simp)
 replace he1 := he1.keep xA2 (by simp)
 replace hf1 := hf1.keep xA2 (by simp)
 replace hi1 := hi1.keep xA2 (by simp)
 replace hl1 := hl1.keep xA2 (by simp)
 replace hr1 := hr1.keep xA2 (by simp)
 replace hA1 := hA1.keep xA2 (by simp)
 replace ho2 := ho2.keep xA2 (by simp)
 replace he2 := he2.keep xA2 (by simp)
 replace hf2 := hf2.keep xA2 (by simp)
 replace hx2 := hx2.keep xA2 (by simp)
 replace hy2 := hy2.keep xA2 (by simp)
 replace hi2 := hi2.keep xA2 (by simp)
 replace hl2 := hl2.keep xA2 (by simp)
 replace hr2 := hr2.keep xA2 (by simp)
 clear xA2
 refine zg46 ?_
 (change Trip _ _ _ _ _)
 refine Trip.ok fun hok => ?_
 replace hok : ∀ id o, σ18.H id = some o → id < σ18.nx := hok
 have hm1 : MoIn σ18.H kn1 ⟨.slice (some ⟨bo1, 0, none⟩) 1 1, .slice (some ⟨be1, 0, none⟩) 1 1, .slice (some ⟨bf1, 0, none⟩) 1 1, .slice (some ⟨bi1, 0, none⟩) 1 1, .slice (some ⟨bl1, 0, none⟩) 1 1, .slice (some ⟨br1, 0, none⟩) 1 1⟩ := by
  refine ⟨ints_of (l := [0]) ho1.2.2 rfl, ints_of (l := [0]) he1.2.2 rfl, bools_of (l := [true]) hf1.2.2 rfl, listAt_of (l := [[]]) hi1.2.2 rfl rfl (fun i h1 _ => ?_), listAt_of (l := [[]]) hl1.2.2 rfl rfl (fun i h1 _ => ?_), listAt_of (l := [[]]) hr1.2.2 rfl rfl (fun i h1 _ => ?_)⟩
  ·match i, h1 with
   | 0, _ => exact nones2
  ·match i, h1 with
   | 0, _ => exact nones2
  ·match i, h1 with
   | 0, _ => exact nones3
 have hm2 : MoIn σ18.H kn2 ⟨.slice (some ⟨bo2, 0, none⟩) 2 2, .slice (some ⟨be2, 0, none⟩) 1 1, .slice (some ⟨bf2, 0, none⟩) 2 2, .slice (some ⟨bi2, 0, none⟩) 2 2, .slice (some ⟨bl2, 0, none⟩) 2 2, .slice (some ⟨br2, 0, none⟩) 2 2⟩ := by
  refine ⟨ints_of (l := [0, 0]) ho2.2.2 rfl, ints_of (l := [0]) he2.2.2 rfl, bools_of (l := [true, true]) hf2.2.2 rfl, listAt_of (l := [[1], [0]]) hi2.2.2 rfl rfl (fun i h1 _ => ?_), listAt_of (l := [[], []]) hl2.2.2 rfl rfl (fun i h1 _ => ?_), listAt_of (l := [[], []]) hr2.2.2 rfl rfl (fun i h1 _ => ?_)⟩
  ·match i, h1 with
   | 0, _ => exact ints_of (l := [1]) hx2.2.2 rfl
   | 1, _ => exact ints_of (l := [0]) hy2.2.2 rfl
  ·match i, h1 with
   | 0, _ => exact nones2
   | 1, _ => exact nones2
  ·match i, h1 with
   | 0, _ => exact nones3
   | 1, _ => exact nones3
 have hA1 : getc σ18.H ⟨bA1, 0, none⟩ 8 = some (moV kn1 ⟨.slice (some ⟨bo1, 0, none⟩) 1 1, .slice (some ⟨be1, 0, none⟩) 1 1, .slice (some ⟨bf1, 0, none⟩) 1 1, .slice (some ⟨bi1, 0, none⟩) 1 1, .slice (some ⟨bl1, 0, none⟩) 1 1, .slice (some ⟨br1, 0, none⟩) 1 1⟩) := getc_all (m := 8) hA1.2.2 rfl
 have hA2 : getc σ18.H ⟨bA2, 0, none⟩ 8 = some (moV kn2 ⟨.slice (some ⟨bo2, 0, none⟩) 2 2, .slice (some ⟨be2, 0, none⟩) 1 1, .slice (some ⟨bf2, 0, none⟩) 2 2, .slice (some ⟨bi2, 0, none⟩) 2 2, .slice (some ⟨bl2, 0, none⟩) 2 2, .slice (some ⟨br2, 0, none⟩) 2 2⟩) := getc_all (m := 8) hA2.2.2 rfl
 have hx0 := hold.ext
 clear ho1 he1 hf1 hi1 hl1 hr1 ho2 he2 hf2 hi2 hl2 hr2 hx2 hy2 hold
 obtain ⟨V1, hV1⟩ : ∃ V1 : MoV, V1 = ⟨.slice (some ⟨bo1, 0, none⟩) 1 1, .slice (some ⟨be1, 0, none⟩) 1 1, .slice (some ⟨bf1, 0, none⟩) 1 1, .slice (some ⟨bi1, 0, none⟩) 1 1, .slice (some ⟨bl1, 0, none⟩) 1 1, .slice (some ⟨br1, 0, none⟩) 1 1⟩ := ⟨_, rfl⟩
 obtain ⟨V2, hV2⟩ : ∃ V2 : MoV, V2 = ⟨.slice (some ⟨bo2, 0, none⟩) 2 2, .slice (some ⟨be2, 0, none⟩) 1 1, .slice (some ⟨bf2, 0, none⟩) 2 2, .slice (some ⟨bi2, 0, none⟩) 2 2, .slice (some ⟨bl2, 0, none⟩) 2 2, .slice (some ⟨br2, 0, none⟩) 2 2⟩ := ⟨_, rfl⟩
 rw [← hV1] at hm1 hA1
 rw [← hV2] at hm2 hA2
 clear hV1 hV2
 have hok1 := modF_iff.1 kn_m1
 have hok2 := modF_iff.1 kn_m2
 have F1 : ∀ {N : Nat} {H' : Heap}, Ext σ18.nx σ18.H N H' → getc H' ⟨bA1, 0, none⟩ 8 = some (moV kn1 V1) ∧ MoIn H' kn1 V1 := fun h => ⟨getc_ext h hok hA1, hm1.ext h hok⟩
 have F2 : ∀ {N : Nat} {H' : Heap}, Ext σ18.nx σ18.H N H' → getc H' ⟨bA2, 0, none⟩ 8 = some (moV kn2 V2) ∧ MoIn H' kn2 V2 := fun h => ⟨getc_ext h hok hA2, hm2.ext h hok⟩
 clear hA1 hA2 hm1 hm2 hok
 refine zg64 ?_
 refine OpsL.p sdc (aop_loadAgg (k := 8) evd xrf rfl xrf (F1 Ext.refl).1) ?_
 refine OpsL.c1 (hf := entersFSmall) (hc := (fSmallC W0 (F1 Ext.refl).2 hok1.lens hok1)) (h := ?_)
 rintro v1 N1 H1 ⟨V3, τ, rfl, rfl, rfl, ho, hM⟩
 rw [kn_s1] at hM ⊢
 repeat (first | (refine OpsL.q (by first | exact omv | exact aop_extract evr xrf) ?_))
 refine OpsL.newC .self (aop_alloc (l := moV noMo nilV) xrf) sdc ?_
 intro τ1 hA x
 obtain ⟨bA3, hb⟩ : ∃ b, τ.nx = b := ⟨_, rfl⟩
 rw [hb] at hA ⊢
 clear hb
 replace ho := ho.keep x (by simp)
 replace hM := hM.keep x (by simp)
 clear x
 refine OpsL.setAllC (vs := moV kn1 V3) hA xrf rfl rfl (MoIn.one hM.in) evd evr ?_
 intro τ2 hA2 x
 replace ho := (ho.keep x (by simp)).ext
 replace hM := (hM.keep x (by simp)).in
 have hA3 : getc τ2.H ⟨bA3, 0, none⟩ 8 = some (moV kn1 V3) := getc_all (m := 8) hA2.2.2 rfl
 clear x hA hA2
 (first | (refine OpsL.q (by exact oasg) ?_))
 refine zg46 ?_
 (change Trip _ _ _ _ _)
 refine Trip.ok fun hok => ?_
 replace hok : ∀ id o, τ2.H id = some o → id < τ2.nx := hok
 have F3 : ∀ {N : Nat} {H' : Heap}, Ext τ2.nx τ2.H N H' → getc H' ⟨bA3, 0, none⟩ 8 = some (moV kn1 V3) ∧ MoIn H' kn1 V3 := fun h => ⟨getc_ext h hok hA3, hM.ext h hok⟩
 clear hM hA3 hok
 replace F1 : ∀ {N : Nat} {H' : Heap}, Ext τ2.nx τ2.H N H' → getc H' ⟨bA1, 0, none⟩ 8 = some (moV kn1 V1) ∧ MoIn H' kn1 V1 := fun h => F1 (ho.trans h)
 replace F2 : ∀ {N : Nat} {H' : Heap}, Ext τ2.nx τ2.H N H' → getc H' ⟨bA2, 0, none⟩ 8 = some (moV kn2 V2) ∧ MoIn H' kn2 V2 := fun h => F2 (ho.trans h)
 replace ho := hx0.trans ho
 clear hx0
 refine zg64 ?_
 refine OpsL.p sdc (aop_loadAgg (k := 8) evd xrf rfl xrf (F2 Ext.refl).1) ?_
 refine OpsL.c1 (hf := entersFSmall) (hc := (fSmallC W0 (F2 Ext.refl).2 hok2.lens hok2)) (h := ?_)
 rintro v1 N1 H1 ⟨V5, τ, rfl, rfl, rfl, hp, hM⟩
 repeat (first | (refine OpsL.q (by first | exact omv | exact aop_extract evr xrf) ?_))
 refine OpsL.newC .self (aop_alloc (l := moV noMo nilV) xrf) sdc ?_
 intro τ3 hA x
 obtain ⟨bA5, hb⟩ : ∃ b, τ.nx = b := ⟨_, rfl⟩
 rw [hb] at hA ⊢
 clear hb
 replace hp := hp.keep x (by simp)
 replace hM := hM.keep x (by simp)
 clear x
 refine OpsL.setAllC (vs := moV (smallF kn2) V5) hA xrf rfl rfl (MoIn.one hM.in) evd evr ?_
 intro τ4 hA5 x
 replace hp := (hp.keep x (by simp)).ext
 obtain ⟨sa, sc, hsl⟩ := hM.in.of.slice
 rw [kn_s2] at hsl
 have g5 : cellAt τ4.H ⟨bA5, 2, none⟩ V5.o := hA5.cell rfl
 rw [hsl] at g5
 have l5 : bA5 < τ4.nx := hA5.1
 have o5 := hA5.2.2
 clear x hA hA5 hM
 have z4 : Ext τ2.nx τ2.H τ4.nx τ4.H := hp
 clear hp
 refine zg25 ?_
 refine OpsL.p sdc (aop_loadAgg (k := 8) evd xrf rfl xrf (F2 z4).1) ?_
 refine OpsL.c1 (hf := entersFClasses) (hc := (fClassesC W0 (F2 z4).2 hok2.lens hok2)) (h := ?_)
 rintro v2 N5 H5 ⟨⟨c, c1, c2, rfl, c4⟩, z5⟩
 rw [kn_c2] at c4 ⊢
 change OpsL _ _ _ _ ⟨tmPut _ _ (.slice (some ⟨c, 0, none⟩) 2 2), _, _, _⟩ _
 refine zg25 ?_
 have z6 := z4.trans z5
 refine OpsL.p sdc (aop_loadAgg (k := 8) evd xrf rfl xrf (F2 z6).1) ?_
 refine OpsL.c1 (hf := entersFReached) (hc := (fReachedC W0 (F2 z6).2 hok2.lens hok2)) (h := ?_)
 rintro v3 N7 H7 ⟨⟨r, r1, r2, rfl, r4⟩, z7⟩
 rw [kn_r2] at r4 ⊢
 change OpsL _ _ _ _ ⟨tmPut _ _ (.slice (some ⟨r, 0, none⟩) 2 2), _, _, _⟩ _
 (first | (refine OpsL.q (by exact oasg) ?_))
 refine zg46 ?_
 (change Trip _ _ _ _ _)
 refine Trip.ok fun hok7 => ?_
 replace hok7 : ∀ id o, H7 id = some o → id < N7 := hok7
 have z8 := z6.trans z7
 have z57 := z5.trans z7
 replace g5 : cellAt H7 ⟨bA5, 2, none⟩ (.slice sa 1 sc) := cell_of ((z57.2 bA5 l5).trans o5) (by show some V5.o = _; rw [hsl])
 have gc1 : cellAt H7 ⟨c, 0 + (1 : Int).toNat * 1, none⟩ (.int .i64 0) := cell_of ((z7.2 c c2).trans c4) rfl
 have gr1 : cellAt H7 ⟨r, 0 + (1 : Int).toNat * 1, none⟩ (.bool true) := cell_of r4 rfl
 clear c4 r4 z4 z5 z6 z7 z57 o5 hsl
 refine zg38 ?_
 refine OpsL.eqlT ?_ (c := rfl)
 refine zg99 ?_
 refine OpsL.p sdc (aop_loadAgg (k := 8) evd xrf rfl xrf (F3 z8).1) ?_
 refine zg69 ?_
 refine OpsL.p sdc (aop_loadAgg (k := 8) evd xrf rfl xrf (F1 z8).1) ?_
 refine zg69 ?_
 refine OpsL.c2 (hf := entersRefSame) (hc := (refSameC W0 (F3 z8).2 (F1 z8).2 hok1.lens)) (h := ?_)
 rintro v4 N8 H8 ⟨d, rfl, hd, z9⟩
 have hdt := hd.2 rfl
 subst hdt
 clear hd
 replace g5 := cell_ext z9 hok7 g5
 replace gc1 := cell_ext z9 hok7 gc1
 replace gr1 := cell_ext z9 hok7 gr1
 have za := z8.trans z9
 repeat (first | (refine OpsL.q (by first | exact opkT | exact omv) ?_) | (refine OpsL.ung ?_))
 refine OpsL.eqlT ?_ (c := rfl)
 repeat (first | (refine OpsL.q (by first | exact opkT | exact omv | exact ofa | exact old | exact olen) ?_) | (refine OpsL.ung ?_))
 refine OpsL.eqlT ?_ (c := rfl)
 repeat (first | (refine OpsL.q (by first | exact opkT | exact omv | exact olen) ?_) | (refine OpsL.ung ?_))
 refine OpsL.eqlT ?_ (c := rfl)
 repeat (first | (refine OpsL.q (by first | exact opkT | exact omv | exact oixa | exact old) ?_) | (refine OpsL.ung ?_))
 refine OpsL.eqlT ?_ (c := rfl)
 repeat (first | (refine OpsL.q (by first | exact opkT | exact omv | exact olen) ?_) | (refine OpsL.ung ?_))
 refine OpsL.eqlT ?_ (c := rfl)
 repeat (first | (refine OpsL.q (by first | exact opkT | exact omv | exact oixa | exact old) ?_) | (refine OpsL.ung ?_))
 refine OpsL.p sdc (aop_loadAgg (k := 8) evd xrf rfl xrf (F2 za).1) ?_
 refine zg69 ?_
 refine OpsL.p sdc (aop_build (l := [(0, .int .i64 3)]) (v := .agg #[.int .i64 3, .int .i64 0]) (by simp [evParts, ASt.ev, tmPut, Am.plainC, plain1, *]) krf) ?_
 refine zg69 ?_
 refine OpsL.new sdc (aop_buildSlice (l := [(0, .agg #[.int .i64 3, .int .i64 0])]) (r := (.slice (some ⟨N8, 0, none⟩) 1 1, .new (.cells [.int .i64 3, .int .i64 0] 2 none false (some 47)))) (by simp [evParts, ASt.ev, tmPut, Am.plainC, plain1, *]) xrf) ?_
 have y20 := za.trans (Ext.newPut (o := .cells [.int .i64 3, .int .i64 0] 2 none false (some 47)))
 refine zg69 ?_
 refine OpsL.c2 (hf := entersFTakes) (hc := (fTakesC W0 (w := [(3, 0)]) (F2 y20).2 hok2.lens hok2 (word1 Heap.put_eq) (by simp))) (h := ?_)
 rintro v20 N20 H20 ⟨rfl, z20⟩
 rw [kn_t2]
 have w20 := y20.trans z20
 repeat (first | (refine OpsL.q (by first | exact opkT | exact omv) ?_) | (refine OpsL.ung ?_))
 refine OpsL.p sdc (aop_loadAgg (k := 8) evd xrf rfl xrf (F1 w20).1) ?_
 refine zg69 ?_
 refine OpsL.p sdc (aop_build (l := [(0, .int .i64 3)]) (v := .agg #[.int .i64 3, .int .i64 0]) (by simp [evParts, ASt.ev, tmPut, Am.plainC, plain1, *]) krf) ?_
 refine zg69 ?_
 refine OpsL.new sdc (aop_buildSlice (l := [(0, .agg #[.int .i64 3, .int .i64 0])]) (r := (.slice (some ⟨N20, 0, none⟩) 1 1, .new (.cells [.int .i64 3, .int .i64 0] 2 none false (some 47)))) (by simp [evParts, ASt.ev, tmPut, Am.plainC, plain1, *]) xrf) ?_
 have y21 := w20.trans (Ext.newPut (o := .cells [.int .i64 3, .int .i64 0] 2 none false (some 47)))
 refine zg69 ?_
 refine OpsL.c2 (hf := entersFTakes) (hc := (fTakesC W0 (w := [(3, 0)]) (F1 y21).2 hok1.lens hok1 (word1 Heap.put_eq) (by simp))) (h := ?_)
 rintro v21 N21 H21 ⟨rfl, z21⟩
 rw [kn_t1]
 have w21 := y21.trans z21
 repeat (first | (refine OpsL.q (by first | exact opkT | exact omv | exact onot) ?_) | (refine OpsL.ung ?_))
 refine OpsL.p sdc (aop_build (l := []) (v := .agg (moV noMo nilV).toArray) (by simp [evParts]) krf) ?_
 refine zg69 ?_
 refine OpsL.c1 (hf := entersFCheck) (hc := (fcheckC W0 noMo_in ⟨by simp [noMo], by simp [noMo], by simp [noMo], by simp [noMo], by simp [noMo], by simp [noMo], by simp [noMo], by simp [noMo], by simp [noMo], by simp [noMo]⟩)) (h := ?_)
 rintro v5 N9 H9 ⟨rfl, z10⟩
 rw [kn_m0]
 refine zg69 ?_
 refine OpsL.eqlT ?_ (c := rfl)
 repeat (first | (refine OpsL.q (by first | exact opkT | exact oasg) ?_) | (refine Trip.ret ?_; (dsimp only)) | (refine OpsL.nil ?_; (change Trip _ _ _ _ _)))
 exact ⟨.inr rfl, _, res_tmp, by simp [tmPut], ho.trans (w21.trans z10)⟩
end Go.Proofs.Ytjgbcpagfghfnaa
