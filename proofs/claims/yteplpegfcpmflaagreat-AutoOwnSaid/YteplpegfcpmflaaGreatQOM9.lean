import Derived.Shelf.Lay
import Derived.Ground.SlsfProg
import Derived.Shelf.SlSortCmp.NoneTotal
import Derived.Test.YteplpegfcpmflaaGreatQOM8
set_option linter.unusedSimpArgs false
set_option linter.unusedVariables false
set_option maxRecDepth 100000
set_option maxHeartbeats 64000000
namespace Go.Proofs.YteplpegfcpmflaaGreat
open Go.Shelf Go.RowKit Go.Lib Go.Am
open Go.Sort hiding Below
shelf_lay_g SlLaysF0.n6 Slsf 6 at Tryz 68 as sortOL
shelf_lay_g SlLaysF0.n6 Slsf 6 at Tryz 72 as sortCL
shelf_lay_g SlLaysF0.n6 Slsf 6 at Tryz 75 as sortNL
shelf_lay_g SlLaysF.n6 Slsf 6 at Tryz 64 as sortIL
theorem zhh (w : World) : (isAgg 43).run Tryz.prog w = .ok true w := z1V Tryz.underlying43 w
theorem zfP (w : World) : (Go.sizeOf 43).run Tryz.prog w = .ok 4 w := zU rfl w
theorem zhj (w : World) : (isAgg 45).run Tryz.prog w = .ok true w := z1V Tryz.underlying45 w
theorem zfR (w : World) : (Go.sizeOf 45).run Tryz.prog w = .ok 4 w := zU rfl w
theorem zhi (w : World) : (isAgg 51).run Tryz.prog w = .ok true w := z1V Tryz.underlying51 w
theorem zfQ (w : World) : (Go.sizeOf 51).run Tryz.prog w = .ok 3 w := zU rfl w
theorem ziS : Sort.SWO (ltOf zco) where
 irrefl x := by unfold ltOf; simp only [decide_eq_false_iff_not]; rw [z62]; exact zaG.irr x
 trans x y z h1 h2 := by unfold ltOf at *; simp only [decide_eq_true_eq, z62] at *; exact zaG.tr h1 h2
 ntrans x y z h1 h2 := by unfold ltOf at *; simp only [decide_eq_false_iff_not, z62] at *; unfold lt4 at *; omega
theorem zj0 : Sort.SWO (ltOf zf4) where
 irrefl x := by unfold ltOf; simp only [decide_eq_false_iff_not]; rw [z7j]; exact zhS.irr x
 trans x y z h1 h2 := by unfold ltOf at *; simp only [decide_eq_true_eq, z7j] at *; exact zhS.tr h1 h2
 ntrans x y z h1 h2 := by unfold ltOf at *; simp only [decide_eq_false_iff_not, z7j] at *; unfold lt3 at *; omega
theorem zj1 : Sort.SWO (ltOf Lib.compareInt) where
 irrefl x := by unfold ltOf; simp only [decide_eq_false_iff_not]; rw [z7k]; exact zbq.irr x
 trans x y z h1 h2 := by unfold ltOf at *; simp only [decide_eq_true_eq, z7k] at *; exact zbq.tr h1 h2
 ntrans x y z h1 h2 := by unfold ltOf at *; simp only [decide_eq_false_iff_not, z7k] at *; unfold lt1 at *; omega
theorem zid (x : R4) : ∀ v ∈ zS x, ∃ k n, v = .int k n := fun v hv => by simp [zS, e4] at hv; rcases hv with rfl | rfl | rfl | rfl <;> exact ⟨_, _, rfl⟩
theorem ziV (x : R3) : ∀ v ∈ z0Y x, ∃ k n, v = .int k n := fun v hv => by simp [z0Y, e3] at hv; rcases hv with rfl | rfl | rfl <;> exact ⟨_, _, rfl⟩
theorem ziU (x : R4) : ∀ v ∈ zS x, v.oneCell' = true := fun v hv => by obtain ⟨k, n, rfl⟩ := zid x v hv; rfl
theorem zj3 (x : R3) : ∀ v ∈ z0Y x, v.oneCell' = true := fun v hv => by obtain ⟨k, n, rfl⟩ := ziV x v hv; rfl
theorem za7 : Am.z0O Tryz.prog 68 := ⟨Tryz.f68, Tryz.func68, by kernel_rfl, by kernel_rfl⟩
theorem zgY (W0 : World) {nx b t e c : Nat} {H : Heap} {q : Option TypeId} {l : List R4} {rest : List Value} (ho : H b = some (.cells (l.flatMap zS ++ rest) e (some t) false q)) (hl : l.length < 1000000000000) :
  ACalls Tryz.prog W0 68 [.slice (some ⟨b, 0, some t⟩) l.length c, .func (.func 47) #[] #[]] nx H fun v nx' H' => v = .tuple #[] ∧ nx' = nx ∧ ∃ l' : List R4, l'.Perm l ∧ z3l lt4 l' ∧ H' = H.put b (.cells (l'.flatMap zS ++ rest) e (some t) false q) := by
 have eg : ∀ args w, (callFunc 47 args).run Tryz.prog w = .ok (.enter 47 args) w := enters_of Tryz.func47 krf rfl
 have := z4k (P := Tryz.prog) (W0 := W0) (nx := nx) (H := H) (enc := zS) (k := 4) (cf := zco) (f := 68) (g := 47) (fun _ => rfl) zid
  (fun blk off cap d w hH hb hsz => AnyQ.slices_SortFunc sortOL 4 zhh zfP zS (fun _ => rfl) ziU zco ziS 47 #[] blk off cap d w eg (fun _ _ _ _ x y => z97 x y _) hH hb hsz) (c := c) ho zom
 refine ACalls.weaken this ?_;rintro v nx' H' ⟨h1, h2, l', h3, h4, h5⟩;exact ⟨h1, h2, l', h3, h4.imp (fun {x y} h hlt => h ((z62 y x).2 hlt)), h5⟩
theorem zaa : Am.z0O Tryz.prog 72 := ⟨Tryz.f72, Tryz.func72, by kernel_rfl, by kernel_rfl⟩
theorem zhb (W0 : World) {nx b t e c : Nat} {H : Heap} {q : Option TypeId} {l : List R4} {rest : List Value} (ho : H b = some (.cells (l.flatMap zS ++ rest) e (some t) false q)) (hl : l.length < 1000000000000) :
  ACalls Tryz.prog W0 72 [.slice (some ⟨b, 0, some t⟩) l.length c, .func (.func 49) #[] #[]] nx H fun v nx' H' => v = .tuple #[] ∧ nx' = nx ∧ ∃ l' : List R4, l'.Perm l ∧ z3l lt4 l' ∧ H' = H.put b (.cells (l'.flatMap zS ++ rest) e (some t) false q) := by
 have eg : ∀ args w, (callFunc 49 args).run Tryz.prog w = .ok (.enter 49 args) w := enters_of Tryz.func49 krf rfl
 have := z4k (P := Tryz.prog) (W0 := W0) (nx := nx) (H := H) (enc := zS) (k := 4) (cf := zco) (f := 72) (g := 49) (fun _ => rfl) zid
  (fun blk off cap d w hH hb hsz => AnyQ.slices_SortFunc sortCL 4 zhj zfR zS (fun _ => rfl) ziU zco ziS 49 #[] blk off cap d w eg (fun _ _ _ _ x y => z7R x y _) hH hb hsz) (c := c) ho zom
 refine ACalls.weaken this ?_;rintro v nx' H' ⟨h1, h2, l', h3, h4, h5⟩;exact ⟨h1, h2, l', h3, h4.imp (fun {x y} h hlt => h ((z62 y x).2 hlt)), h5⟩
theorem za8 : Am.z0O Tryz.prog 75 := ⟨Tryz.f75, Tryz.func75, by kernel_rfl, by kernel_rfl⟩
theorem zgZ (W0 : World) {nx b t e c : Nat} {H : Heap} {q : Option TypeId} {l : List R3} {rest : List Value} (ho : H b = some (.cells (l.flatMap z0Y ++ rest) e (some t) false q)) (hl : l.length < 1000000000000) :
  ACalls Tryz.prog W0 75 [.slice (some ⟨b, 0, some t⟩) l.length c, .func (.func 51) #[] #[]] nx H fun v nx' H' => v = .tuple #[] ∧ nx' = nx ∧ ∃ l' : List R3, l'.Perm l ∧ z3l lt3 l' ∧ H' = H.put b (.cells (l'.flatMap z0Y ++ rest) e (some t) false q) := by
 have eg : ∀ args w, (callFunc 51 args).run Tryz.prog w = .ok (.enter 51 args) w := enters_of Tryz.func51 krf rfl
 have := z4k (P := Tryz.prog) (W0 := W0) (nx := nx) (H := H) (enc := z0Y) (k := 3) (cf := zf4) (f := 75) (g := 51) (fun _ => rfl) ziV
  (fun blk off cap d w hH hb hsz => AnyQ.slices_SortFunc sortNL 3 zhi zfQ z0Y (fun _ => rfl) zj3 zf4 zj0 51 #[] blk off cap d w eg (fun _ _ _ _ x y => z7Q x y _) hH hb hsz) (c := c) ho zom
 refine ACalls.weaken this ?_;rintro v nx' H' ⟨h1, h2, l', h3, h4, h5⟩;exact ⟨h1, h2, l', h3, h4.imp (fun {x y} h hlt => h ((z7j y x).2 hlt)), h5⟩
theorem za9 : Am.z0O Tryz.prog 64 := ⟨Tryz.f64, Tryz.func64, by kernel_rfl, by kernel_rfl⟩
theorem zha (W0 : World) {nx b t e c : Nat} {H : Heap} {q : Option TypeId} {l : List Int} {rest : List Value} (ho : H b = some (.cells (l.map (.int .i64 ·) ++ rest) e (some t) false q)) (hl : l.length < 1000000000000) :
  ACalls Tryz.prog W0 64 [.slice (some ⟨b, 0, some t⟩) l.length c, .func (.func 45) #[] #[]] nx H fun v nx' H' => v = .tuple #[] ∧ nx' = nx ∧ ∃ l' : List Int, l'.Perm l ∧ z3l lt1 l' ∧ H' = H.put b (.cells (l'.map (.int .i64 ·) ++ rest) e (some t) false q) := by
 have eg : ∀ args w, (callFunc 45 args).run Tryz.prog w = .ok (.enter 45 args) w := enters_of Tryz.func45 krf rfl
 have := z9S (P := Tryz.prog) (W0 := W0) (nx := nx) (H := H) (enc := fun x : Int => .int .i64 x) (cf := Lib.compareInt) (f := 64) (g := 45) (fun x => ⟨_, _, rfl⟩)
  (fun blk off cap d w hH hb hsz => Any.slices_SortFunc sortIL (fun x : Int => .int .i64 x) (fun _ => rfl) Lib.compareInt zj1 45 #[] blk off cap d w eg (fun _ _ _ _ x y => zc5 x y _) hH hb hsz) (c := c) ho zom
 refine ACalls.weaken this ?_;rintro v nx' H' ⟨h1, h2, l', h3, h4, h5⟩;exact ⟨h1, h2, l', h3, h4.imp (fun {x y} h hlt => h ((z7k y x).2 hlt)), h5⟩
end Go.Proofs.YteplpegfcpmflaaGreat
namespace Go.Proofs.YteplpegfcpmflaaGreat
open Go.RowKit Go.Am
attribute [local irreducible] aop OpsL Trip zI z2r OpsK OpsR
theorem za4 : Am.z0O Tryz.prog 46 := ⟨Tryz.f46, Tryz.func46, by kernel_rfl, by kernel_rfl⟩
theorem ze9 (W0 : World) {nx : Nat} {H : Heap} {ob : Option (Nat × Nat)} {v : Value} {l : List (R4)} (h : zaJ H ob v l) (hl : l.length ≤ 1000000) :
  ACalls Tryz.prog W0 68 [v, .func (.func 47) #[] #[]] nx H fun _ nx' H' => nx' = nx ∧ ∃ l' : List (R4), l'.Perm l ∧ z3l lt4 l' ∧ zaJ H' ob v l' ∧ ∀ i, (∀ b t, ob = some (b, t) → i ≠ b) → H' i = H i := by
 cases ob with
 | none =>
  obtain ⟨rfl, _, hl0⟩ := h;have hnil : l = [] := List.eq_nil_of_length_eq_zero hl0;subst hnil;intro C w args' hR ha;obtain ⟨h1, h2⟩ := ha
  obtain ⟨v1, v2, rfl⟩ : ∃ v1 v2, args' = [v1, v2] := by
   match args', h1 with
   | [v1, v2], _ => exact ⟨v1, v2, rfl⟩
  have hv1 := h2 0 (by simp) (by simp);simp only [List.getElem_cons_zero] at hv1;obtain rfl : v1 = .slice none 0 0 := by cases hv1; rfl
  refine (AnyF.slices_SortFunc_none { sortOL with } none 0 v2 w).mono ?_;rintro e w' ⟨rfl, rfl⟩;exact ⟨_, _, C, nx, H, rfl, ⟨rfl, [], List.Perm.refl _, List.Pairwise.nil, ⟨rfl, rfl, rfl⟩, fun _ _ => rfl⟩, hR, .tuple #[] #[] rfl (fun i h => absurd h (by simp)), Stp.refl _ _ _⟩
 | some bt =>
  obtain ⟨b, t⟩ := bt;obtain ⟨rfl, _, rest, hH⟩ := h;refine ACalls.weaken (zgY W0 hH zom) ?_;rintro v nx' H' ⟨_, rfl, l', hp, hs, rfl⟩;refine ⟨rfl, l', hp, hs, ⟨by rw [hp.length_eq], by rw [z0j z0f], rest, zb⟩, fun i hi => za (hi b t rfl)⟩
theorem zd6 {A : Prop} (h : A := by
 refine zm (fn := zp0) (c := _) zp1 rfl (fun tm n hn0 htm => ?_);have e0 : tm 0 = v := htm 0;have e1 : tm 1 = .func (.func zp2) #[] #[] := htm 1;clear htm;replace hn0 : n = 13 := hn0;refine Trip.ok fun hok => ?_;replace hok : ∀ id o, H id = some o → id < nx := hok;obtain ⟨va, vc, rfl⟩ := hr.slice;refine z6v ?_;refine OpsL.new zsd (zq (l := [(0, .slice va l.length vc)]) (r := (.slice (some ⟨nx, 0, none⟩) 1 1, .new (.cells [.slice va l.length vc] 1 none false (some zp3)))) zeq krf) ?_;have hx0 : Ext nx H (nx + 1) (H.put nx (.cells [.slice va l.length vc] 1 none false (some zp3))) := zj;have hin : zp4 (H.put nx (.cells [.slice va l.length vc] 1 none false (some zp3))) (.slice (some ⟨nx, 0, none⟩) 1 1) [(.slice va l.length vc, l)] := ⟨nx, rfl, zb, fun x hx => by rw [List.mem_singleton] at hx; subst hx; exact hr.ext hx0 hok⟩;have hall : zp5 [(Value.slice va l.length vc, l)] = l := by simp [zp5]
 refine z0c (hf := zp6) (hc := (zp7 W0 hin (by rw [hall]; exact hm) (by simp))) (h := ?_);rintro v1 nx1 H1 ⟨ob, ho1, hx1, hob1⟩;rw [hall] at ho1;refine z6v ?_;refine OpsL.c2 (hf := zp8) (hc := (zp9 W0 ho1 zom)) (h := ?_);rintro v2 nx2 H2 ⟨rfl, l', hp, hs, ho2, hsame2⟩;refine zaE ?_;refine z0c (hf := zp10) (hc := (zp11 W0 ho2 (by rw [hp.length_eq]; omega))) (h := ?_);rintro v3 nx3 H3 ⟨rfl, ho3, hsame3⟩;refine zhP ?_;have heq := z2J zp12 (z9R zp12 l' hs) (fun x => by rw [z7E, hp.mem_iff] : ∀ x, x ∈ z3P l' ↔ x ∈ l);rw [heq] at ho3;refine ⟨.inr rfl, _, zy, ob, by simpa [zl] using ho3, hx0.trans ⟨hx1.1, fun i hi => ?_⟩, fun b t h => by have := hob1 b t h; omega⟩;rw [hsame3 i (fun b t h => by have := (hob1 b t h).1; omega), hsame2 i (fun b t h => by have := (hob1 b t h).1; omega), hx1.2 i hi]) : A := h
namespace zd6a
noncomputable section
abbrev zp0 := @Tryz.f46
abbrev zp1 := @Tryz.func46
abbrev zp2 := 47
abbrev zp3 := 26
end
end zd6a
open zd6a in
open Go.Proofs.YteplpegfcpmflaaGreat renaming zcZ → zp4, z5X → zp5, zag → zp6, zht → zp7, za7 → zp8, ze9 → zp9, zak → zp10, zhx → zp11 in
open Go.Am renaming zaG → zp12 in
theorem zgU (W0 : World) {nx : Nat} {H : Heap} {v : Value} {l : List R4} (hr : AtO H v l) (hm : l.length ≤ 100000) :
  ACalls Tryz.prog W0 46 [v, .func (.func 47) #[] #[]] nx H fun v nx' H' => ∃ ob, zaJ H' ob v (zB lt4 l) ∧ z2g nx H nx' H' ob := zd6
end Go.Proofs.YteplpegfcpmflaaGreat
namespace Go.Proofs.YteplpegfcpmflaaGreat
open Go.RowKit Go.Am
attribute [local irreducible] aop OpsL Trip zI z2r OpsK OpsR
abbrev AtC (H : Heap) (v : Value) (l : List (R4)) : Prop := RowsAt zS 4 H v l
abbrev zaL (H : Heap) (ob : Option (Nat × Nat)) (v : Value) (l : List (R4)) : Prop := OwnOf zS 4 45 H ob v l
theorem zae : Am.z0O Tryz.prog 85 := ⟨Tryz.f85, Tryz.func85, by kernel_rfl, by kernel_rfl⟩
theorem zaj : Am.z0O Tryz.prog 71 := ⟨Tryz.f71, Tryz.func71, by kernel_rfl, by kernel_rfl⟩
namespace zd2b
noncomputable section
abbrev zp0 := @Tryz.f85
abbrev zp1 := @Tryz.func85
abbrev zp2 := 45
abbrev zp3 := 27
end
end zd2b
open zd2b in
theorem zhn (W0 : World) {nx m : Nat} {H : Heap} (hm : m ≤ 1000000) :
  ACalls Tryz.prog W0 85 [.slice none 0 0, .int .i64 m] nx H fun v nx' H' => ∃ ob, zaL H' ob v [] ∧ z2g nx H nx' H' ob := zd2
def zda (H : Heap) (v : Value) (ls : List (Value × List (R4))) : Prop :=
 ∃ a, v = .slice (some ⟨a, 0, none⟩) ls.length ls.length ∧ H a = some (.cells (ls.map (·.1)) 1 none false (some 27)) ∧ ∀ x ∈ ls, AtC H x.1 x.2
def z5Y (ls : List (Value × List (R4))) : List (R4) := ls.flatMap (·.2)
theorem zav (ls : List (Value × List (R4))) {i : Nat} (h : i < ls.length) : z5Y (ls.take (i + 1)) = z5Y (ls.take i) ++ ls[i].2 := by
 unfold z5Y;rw [List.take_add_one, List.getElem?_eq_getElem h, Option.toList_some, List.flatMap_append];simp
namespace zd3b
noncomputable section
abbrev zp0 := @Tryz.f71
abbrev zp1 := @Tryz.func71
abbrev zp2 := 27
end
end zd3b
open zd3b in
open Go.Proofs.YteplpegfcpmflaaGreat renaming z5Y → zp3, zav → zp4, zae → zp5, zhn → zp6, zaL → zp7 in
theorem zhw (W0 : World) {nx : Nat} {H : Heap} {v : Value} {ls : List (Value × List (R4))} (hr : zda H v ls) (hm : (z5Y ls).length ≤ 100000) (hl : ls.length ≤ 100) :
  ACalls Tryz.prog W0 71 [v] nx H fun v nx' H' => ∃ ob, zaL H' ob v (z5Y ls) ∧ z2g nx H nx' H' ob := zd3
end Go.Proofs.YteplpegfcpmflaaGreat
namespace Go.Proofs.YteplpegfcpmflaaGreat
open Go.RowKit Go.Am
attribute [local irreducible] aop OpsL Trip zI z2r OpsK OpsR
theorem zan : Am.z0O Tryz.prog 73 := ⟨Tryz.f73, Tryz.func73, by kernel_rfl, by kernel_rfl⟩
namespace zd4b
noncomputable section
abbrev zp0 := @Tryz.f73
abbrev zp1 := @Tryz.func73
abbrev zp2 := 45
abbrev zp3 := 27
end
end zd4b
open zd4b in
open Go.Proofs.YteplpegfcpmflaaGreat renaming eqC → zp4 in
theorem zhA (W0 : World) {nx : Nat} {H : Heap} {ob : Option (Nat × Nat)} {v : Value} {l : List (R4)} (h : zaL H ob v l) (hl : l.length ≤ 100000) :
  ACalls Tryz.prog W0 73 [v] nx H fun v' nx' H' => nx' = nx ∧ zaL H' ob v' (z3P l) ∧ ∀ i, (∀ b t, ob = some (b, t) → i ≠ b) → H' i = H i := zd4
end Go.Proofs.YteplpegfcpmflaaGreat
namespace Go.Proofs.YteplpegfcpmflaaGreat
open Go.RowKit Go.Am
attribute [local irreducible] aop OpsL Trip zI z2r OpsK OpsR
theorem za6 : Am.z0O Tryz.prog 48 := ⟨Tryz.f48, Tryz.func48, by kernel_rfl, by kernel_rfl⟩
theorem zec (W0 : World) {nx : Nat} {H : Heap} {ob : Option (Nat × Nat)} {v : Value} {l : List (R4)} (h : zaL H ob v l) (hl : l.length ≤ 1000000) :
  ACalls Tryz.prog W0 72 [v, .func (.func 49) #[] #[]] nx H fun _ nx' H' => nx' = nx ∧ ∃ l' : List (R4), l'.Perm l ∧ z3l lt4 l' ∧ zaL H' ob v l' ∧ ∀ i, (∀ b t, ob = some (b, t) → i ≠ b) → H' i = H i := by
 cases ob with
 | none =>
  obtain ⟨rfl, _, hl0⟩ := h;have hnil : l = [] := List.eq_nil_of_length_eq_zero hl0;subst hnil;intro C w args' hR ha;obtain ⟨h1, h2⟩ := ha
  obtain ⟨v1, v2, rfl⟩ : ∃ v1 v2, args' = [v1, v2] := by
   match args', h1 with
   | [v1, v2], _ => exact ⟨v1, v2, rfl⟩
  have hv1 := h2 0 (by simp) (by simp);simp only [List.getElem_cons_zero] at hv1;obtain rfl : v1 = .slice none 0 0 := by cases hv1; rfl
  refine (AnyF.slices_SortFunc_none { sortCL with } none 0 v2 w).mono ?_;rintro e w' ⟨rfl, rfl⟩;exact ⟨_, _, C, nx, H, rfl, ⟨rfl, [], List.Perm.refl _, List.Pairwise.nil, ⟨rfl, rfl, rfl⟩, fun _ _ => rfl⟩, hR, .tuple #[] #[] rfl (fun i h => absurd h (by simp)), Stp.refl _ _ _⟩
 | some bt =>
  obtain ⟨b, t⟩ := bt;obtain ⟨rfl, _, rest, hH⟩ := h;refine ACalls.weaken (zhb W0 hH zom) ?_;rintro v nx' H' ⟨_, rfl, l', hp, hs, rfl⟩;refine ⟨rfl, l', hp, hs, ⟨by rw [hp.length_eq], by rw [z0j z0f], rest, zb⟩, fun i hi => za (hi b t rfl)⟩
namespace zd6b
noncomputable section
abbrev zp0 := @Tryz.f48
abbrev zp1 := @Tryz.func48
abbrev zp2 := 49
abbrev zp3 := 27
end
end zd6b
open zd6b in
open Go.Proofs.YteplpegfcpmflaaGreat renaming zda → zp4, z5Y → zp5, zaj → zp6, zhw → zp7, zaa → zp8, zec → zp9, zan → zp10, zhA → zp11 in
open Go.Am renaming zaG → zp12 in
theorem zgW (W0 : World) {nx : Nat} {H : Heap} {v : Value} {l : List R4} (hr : AtC H v l) (hm : l.length ≤ 100000) :
  ACalls Tryz.prog W0 48 [v, .func (.func 49) #[] #[]] nx H fun v nx' H' => ∃ ob, zaL H' ob v (zB lt4 l) ∧ z2g nx H nx' H' ob := zd6
end Go.Proofs.YteplpegfcpmflaaGreat
namespace Go.Proofs.YteplpegfcpmflaaGreat
open Go.RowKit Go.Am
attribute [local irreducible] aop OpsL Trip zI z2r OpsK OpsR
abbrev AtN (H : Heap) (v : Value) (l : List (R3)) : Prop := RowsAt z0Y 3 H v l
abbrev zaK (H : Heap) (ob : Option (Nat × Nat)) (v : Value) (l : List (R3)) : Prop := OwnOf z0Y 3 51 H ob v l
theorem zac : Am.z0O Tryz.prog 87 := ⟨Tryz.f87, Tryz.func87, by kernel_rfl, by kernel_rfl⟩
theorem zah : Am.z0O Tryz.prog 74 := ⟨Tryz.f74, Tryz.func74, by kernel_rfl, by kernel_rfl⟩
theorem zhl (W0 : World) {nx m : Nat} {H : Heap} (hm : m ≤ 1000000) :
  ACalls Tryz.prog W0 87 [.slice none 0 0, .int .i64 m] nx H fun v nx' H' => ∃ ob, zaK H' ob v [] ∧ z2g nx H nx' H' ob := by
 refine zm (fn := Tryz.f87) (c := _) Tryz.func87 rfl (fun tm n hn0 htm => ?_);have e0 : tm 0 = .slice none 0 0 := htm 0;have e1 : tm 1 = .int .i64 m := htm 1;clear htm;replace hn0 : n = 27 := hn0;refine z6v ?_;refine z7a ?_;refine zdV ?_;refine zd (z3S evr zxr) ?_;refine zi4 ?_;by_cases h0 : 0 < m
 ·refine z2y ?_;refine z9o ?_;refine zbs ?_;refine zd (z3S evr zxr) ?_;refine zd (z06 (r := .slice none 0 0) (a := none) (b := some (.int .i64 0)) (c := none) evd rfl (by simp only [z2d, ASt.ev, zl, ↓reduceIte, reduceIte, Option.some.injEq, Nat.reduceEqDiff, Option.map_some]; rfl) rfl (z3f (el := 51) (sz := 3) zxr zxr (.inl ⟨rfl, rfl⟩) (.inr ⟨.i64, rfl⟩))) ?_;refine z87 ?_;refine OpsL.new zsd (z4n (k := m) (el := 51) (kd := .i64) (size := 3) (bytes := 24) (z := [.int .i64 0, .int .i64 0, .int .i64 0]) evd (by simp only [ASt.ev, zl, ↓reduceIte, reduceIte, Nat.reduceEqDiff, zL, *]; simp) zxr zxr zxr zxr zxr rfl h0 zom zom) ?_
  repeat (refine zd (by first | exact omv | exact z1D) ?_)
  refine zd (z06 (r := .slice (some ⟨nx, 0, some nx⟩) 0 0) (a := none) (b := some (.int .i64 0)) (c := none) evr rfl (by simp only [z2d, ASt.ev, zl, ↓reduceIte, reduceIte, Option.some.injEq, Nat.reduceEqDiff, Option.map_some]; rfl) rfl (by
   have := z03 (P := Tryz.prog) (H := H.put nx (.cells (z0p [.int .i64 0, .int .i64 0, .int .i64 0] m) 3 (some nx) false (some 51))) (t := 28) (el := 51) (sz := 3) (a := ⟨nx, 0, some nx⟩) (len := m) (cap := m) (l := 0) (h := 0) (tg := nx) (lo := none) (hi := some (.int .i64 0)) zxr zxr zb rfl rfl rfl (.inl ⟨rfl, rfl⟩) (.inr ⟨.i64, rfl⟩) (Nat.le_refl _) (Nat.zero_le _);simpa using this)) ?_
  refine zcr ?_;refine ⟨.inr rfl, _, zy, some (nx, nx), ?_, ⟨zj, fun b t h => by cases h; exact ⟨Nat.le_refl _, Nat.lt_succ_self _⟩⟩⟩;refine ⟨by simp [zl], rfl, z0p [.int .i64 0, .int .i64 0, .int .i64 0] m, ?_⟩;rw [zb];simp
 ·refine z1L ?_;refine zi6 ?_;refine ⟨.inr rfl, _, zy, none, ⟨stp, rfl, rfl⟩, Ext.refl, fun b t h => by cases h⟩
def zd8 (H : Heap) (v : Value) (ls : List (Value × List (R3))) : Prop :=
 ∃ a, v = .slice (some ⟨a, 0, none⟩) ls.length ls.length ∧ H a = some (.cells (ls.map (·.1)) 1 none false (some 28)) ∧ ∀ x ∈ ls, AtN H x.1 x.2
def z1P (ls : List (Value × List (R3))) : List (R3) := ls.flatMap (·.2)
theorem z6m (ls : List (Value × List (R3))) {i : Nat} (h : i < ls.length) : z1P (ls.take (i + 1)) = z1P (ls.take i) ++ ls[i].2 := by
 unfold z1P;rw [List.take_add_one, List.getElem?_eq_getElem h, Option.toList_some, List.flatMap_append];simp
theorem ziG {A : Prop} (h : A := by
 intro v' nx2 H2 ob2 hA;refine zg7 ?_;refine ⟨i + 1, ⟨_, nx2, H2, ob2, v', rfl, ⟨⟨by have := hx.1; have := hA.le; omega, fun j hj => ?_⟩, fun b t h => ?_⟩, ?_, by rw [hst]; exact hA.own, stp, stp, stp, stp, zom⟩, zom⟩
 ·rw [hA.same j (by have := hx.1; omega) (fun b t h => by have := (hob b t h).1; omega), hx.2 j hj]
 ·obtain ⟨q1, q2⟩ := hA.blk b t h;refine ⟨?_, q1⟩;rcases q2 with rfl | ⟨t', h'⟩
  ·exact hx.1
  ·exact (hob _ _ h').1
 ·exact hA.ok (fun b t h => (hob b t h).2) hok') : A := h
theorem zhu (W0 : World) {nx : Nat} {H : Heap} {v : Value} {ls : List (Value × List (R3))} (hr : zd8 H v ls) (hm : (z1P ls).length ≤ 100000) (hl : ls.length ≤ 100) :
  ACalls Tryz.prog W0 74 [v] nx H fun v nx' H' => ∃ ob, zaK H' ob v (z1P ls) ∧ z2g nx H nx' H' ob := by
 obtain ⟨a, rfl, hH, hrows⟩ := hr;refine zm (fn := Tryz.f74) (c := _) Tryz.func74 rfl (fun tm n hn0 htm => ?_);have e0 : tm 0 = .slice (some ⟨a, 0, none⟩) ls.length ls.length := htm 0;clear htm;replace hn0 : n = 36 := hn0;refine Trip.ok fun hok => ?_;replace hok : ∀ id o, H id = some o → id < nx := hok
 have hcell : ∀ (G : Heap), G a = some (.cells (ls.map (·.1)) 1 none false (some 28)) → ∀ i (h : i < ls.length), zh G ⟨a, 0 + (i : Int).toNat * 1, none⟩ ls[i].1 := fun G hG i h => by
  have := z3e (off := i) hG (by simpa using h);simpa using this
 have hlen : ∀ i, i ≤ ls.length → (z1P (ls.take i)).length ≤ (z1P ls).length := fun i hi => by
  have h1 : z1P ls = z1P (ls.take i) ++ z1P (ls.drop i) := by
   unfold z1P;rw [← List.flatMap_append, List.take_append_drop]
  rw [h1, List.length_append]; omega
 refine zaF ?_;refine zu (fun (i : Nat) st => ∃ (tm : Nat → Value), st = ⟨tm, n, H, nx⟩ ∧ tm 0 = .slice (some ⟨a, 0, none⟩) ls.length ls.length ∧ tm 9 = .slice (some ⟨a, 0, none⟩) ls.length ls.length ∧ tm 10 = .int .i64 ls.length ∧ tm 11 = .int .i64 i ∧ tm 3 = .int .i64 (z1P (ls.take i)).length ∧ i ≤ ls.length) (fun i => ls.length - i) 0 ?_ ?_
 ·exact ⟨_, rfl, stp, stp, stp, stp, by simp [zl, z1P], zom⟩
 ·clear e0;rintro i st ⟨tm, rfl, e0, e9, e10, e11, e3, hi⟩;by_cases hlt : i < ls.length
  ·have hc := hcell H hH i hlt;obtain ⟨ua, uc, hu⟩ := (hrows _ (List.getElem_mem hlt)).slice;have hst := z6m ls hlt;have hl1 := hlen (i + 1) zom;rw [hst, List.length_append] at hl1;rw [hu] at hc;generalize ls[i].2 = us at *;generalize z1P (ls.take i) = zs at *;refine zi7 ?_;exact ⟨i + 1, ⟨_, rfl, stp, stp, stp, stp, by rw [hst]; simp [zl, *], zom⟩, zom⟩
  ·have hin : i = ls.length := by omega
   subst hin;rw [List.take_length] at e3;refine zcl ?_;refine zfo ?_;refine OpsL.c2 (hf := zac) (hc := (zhl W0 (m := (z1P ls).length) zom).ok) (h := ?_);rintro gv nx1 H1 ⟨⟨ob1, ho1, hx1, hob1⟩, hok1⟩;refine zaF ?_;refine zu (fun (i : Nat) st => ∃ (tm : Nat → Value) (nx' : Nat) (H' : Heap) (ob : Option (Nat × Nat)) (v : Value), st = ⟨tm, n, H', nx'⟩ ∧ z2g nx H nx' H' ob ∧ (∀ id o, H' id = some o → id < nx') ∧ zaK H' ob v (z1P (ls.take i)) ∧ tm 25 = .slice (some ⟨a, 0, none⟩) ls.length ls.length ∧ tm 26 = .int .i64 ls.length ∧ tm 27 = .int .i64 i ∧ tm 6 = v ∧ i ≤ ls.length) (fun i => ls.length - i) 0 ?_ ?_
   ·exact ⟨_, _, _, ob1, gv, rfl, ⟨hx1, hob1⟩, hok1, ho1, stp, stp, stp, stp, zom⟩
   ·clear e0 e9 e10 e11 e3 ho1 hx1 hob1 hok1;rintro i st ⟨tm, nx', H', ob, v, rfl, ⟨hx, hob⟩, hok', hown, e25, e26, e27, e6, hi⟩;by_cases hlt : i < ls.length
    ·have hst := z6m ls hlt;have hl1 := hlen (i + 1) zom;rw [hst, List.length_append] at hl1;have hrow := (hrows _ (List.getElem_mem hlt)).ext hx hok;have hc := hcell H' (by rw [hx.2 a (hok _ _ hH)]; exact hH) i hlt;obtain ⟨ua, uc, hu⟩ := hrow.slice;rw [hu] at hc hrow;generalize ls[i].2 = us at *;generalize z1P (ls.take i) = zs at *;refine zfp ?_;refine zO (bytes := 24) (z := [.int .i64 0, .int .i64 0, .int .i64 0]) z13 z7D zom zsd hown hrow evd evd (fun b t h => (hob b t h).2) zxr zxr zxr zxr zxr rfl zom zom ?_;exact ziG
    ·have hin : i = ls.length := by omega
     subst hin;rw [List.take_length] at hown;refine zcl ?_;refine z9w ?_;exact ⟨.inr rfl, _, zy, ob, stp, hx, hob⟩
end Go.Proofs.YteplpegfcpmflaaGreat
namespace Go.Proofs.YteplpegfcpmflaaGreat
open Go.RowKit Go.Am
attribute [local irreducible] aop OpsL Trip zI z2r OpsK OpsR
theorem zal : Am.z0O Tryz.prog 76 := ⟨Tryz.f76, Tryz.func76, by kernel_rfl, by kernel_rfl⟩
theorem zhy (W0 : World) {nx : Nat} {H : Heap} {ob : Option (Nat × Nat)} {v : Value} {l : List (R3)} (h : zaK H ob v l) (hl : l.length ≤ 100000) :
  ACalls Tryz.prog W0 76 [v] nx H fun v' nx' H' => nx' = nx ∧ zaK H' ob v' (z3P l) ∧ ∀ i, (∀ b t, ob = some (b, t) → i ≠ b) → H' i = H i := by
 have hrow := h.at z13;obtain ⟨va, vc, rfl⟩ := hrow.slice;refine zm (fn := Tryz.f76) (c := _) Tryz.func76 rfl (fun tm n hn0 htm => ?_);have e0 : tm 0 = .slice va l.length vc := htm 0;clear htm;replace hn0 : n = 61 := hn0;by_cases hsh : l.length < 2
 ·repeat (first | (refine zd (by first | exact omv | exact z0y | exact z1D) ?_) | refine Trip.seq ?_ | refine zk ?_ | (refine OpsL.nil ?_; (change Trip _ _ _ _ _)))
  refine z6z ?_;refine zcr ?_;exact ⟨.inr rfl, _, zy, rfl, by rw [z4D l zom]; simp [zl, *], fun _ _ => rfl⟩
 ·obtain ⟨b, t, rfl⟩ : ∃ b t, ob = some (b, t) := by
   cases ob with
   | none => obtain ⟨_, _, h2⟩ := h; omega
   | some bt => exact ⟨_, _, rfl⟩
  obtain ⟨hv, _, rest, hH⟩ := h;obtain ⟨rfl, _, rfl⟩ := Value.slice.inj hv
  have hS : ∀ (G : Heap) (A rest : List Value), G b = some (.cells (A ++ rest) 3 (some t) false (some 51)) → ∀ k, k < l.length → z0E Tryz.prog G 28 (.slice (some ⟨b, 0, some t⟩) l.length l.length) (some (.int .i64 k)) none none = some (.slice (some ⟨b, 0 + k * 3, some t⟩) (l.length - k) (l.length - k)) := fun G A rest hG k hk => by
   have := z03 (P := Tryz.prog) (H := G) (t := 28) (el := 51) (sz := 3) (a := ⟨b, 0, some t⟩) (len := l.length) (cap := l.length) (l := k) (h := l.length) (tg := t) (lo := some (.int .i64 k)) (hi := none) zxr zxr hG rfl rfl rfl (.inr ⟨.i64, rfl⟩) (.inl ⟨rfl, rfl⟩) zom (Nat.le_refl _);rw [if_neg zom] at this;exact this
  have hS2 : ∀ (G : Heap) (A rest : List Value), G b = some (.cells (A ++ rest) 3 (some t) false (some 51)) → ∀ k, k ≤ l.length → z0E Tryz.prog G 28 (.slice (some ⟨b, 0, some t⟩) l.length l.length) none (some (.int .i64 k)) none = some (.slice (some ⟨b, 0, some t⟩) k k) := fun G A rest hG k hk => by
   have := z03 (P := Tryz.prog) (H := G) (t := 28) (el := 51) (sz := 3) (a := ⟨b, 0, some t⟩) (len := l.length) (cap := l.length) (l := 0) (h := k) (tg := t) (lo := none) (hi := some (.int .i64 k)) zxr zxr hG rfl rfl rfl (.inl ⟨rfl, rfl⟩) (.inr ⟨.i64, rfl⟩) (Nat.zero_le _) hk;simpa using this
  refine zgl ?_;refine z7a ?_;refine zdM ?_;refine zu (fun (k : Nat) st => ∃ (tm : Nat → Value), st = ⟨tm, n, H, nx⟩ ∧ tm 0 = .slice (some ⟨b, 0, some t⟩) l.length l.length ∧ tm 3 = .int .i64 k ∧ 1 ≤ k ∧ k ≤ l.length ∧ ∀ i (h : i < l.length), 0 < i → i < k → l[i - 1] ≠ l[i]) (fun k => l.length - k) 1 ?_ ?_
  ·exact ⟨_, rfl, stp, by simp [zl], zom, zom, fun i h h0 h1 => by omega⟩
  ·clear e0;rintro k st ⟨tm, rfl, e0, e3, hk1, hk2, hne⟩;by_cases hlt : k < l.length
   ·repeat (first | (refine zd (by first | exact omv | exact z1D) ?_) | refine Trip.seq ?_ | refine zk ?_)
    refine z9r ?_;have g1 := z0G z13 hH hlt;have g2 := z0G z13 hH (show k - 1 < l.length by omega);refine Trip.mono (Q := fun e st => e = .normal ∧ ∃ (tm' : Nat → Value), st = ⟨tm', n, H, nx⟩ ∧ tm' 25 = .bool (decide (l[k] = l[k - 1])) ∧ tm' 0 = .slice (some ⟨b, 0, some t⟩) l.length l.length ∧ tm' 3 = .int .i64 k) ?_ ?_
    ·refine OpsK.drawn (K := fun _ _ => True) z0q krf krf trivial ?_;refine zeW ?_;refine zd (zg (k := 3) (vs := z0Y l[k]) evr zxr rfl zxr (by show z0A H ⟨b, 0 + (k : Int).toNat * 3, some t⟩ 3 = _; rw [Int.toNat_natCast]; exact g1)) ?_;refine z4X ?_;refine zgm ?_;refine zd (zg (k := 3) (vs := z0Y l[k - 1]) evr zxr rfl zxr (by show z0A H ⟨b, 0 + ((k : Int) - 1).toNat * 3, some t⟩ 3 = _; rw [show ((k : Int) - 1).toNat = k - 1 by omega]; exact g2)) ?_;refine z88 ?_;refine zd (zbg (r := decide (l[k] = l[k - 1])) evd evd krf (eqN _ _ _ _ rfl)) ?_;refine z5S ?_;exact ⟨rfl, _, rfl, by simp [zl], stp, stp⟩
    ·rintro e st ⟨rfl, tm', rfl, e25, e0, e3⟩;dsimp only;clear g1 g2;by_cases heq : l[k] = l[k - 1]
     ·rw [decide_eq_true heq] at e25
      repeat fail
      refine z11 ?_;refine zaD ?_;refine zd (z06 (a := some (.int .i64 k)) (b := none) (c := none) evd zer rfl rfl (hS H _ _ hH k hlt)) ?_;refine zg9 ?_
      have hd0 : z3P (l.take (k + 1)) = l.take k := by
       rw [z29 l zom hlt, if_pos heq.symm];exact z36 l k zom (fun i hi a c => hne i hi a c)
      refine zu (fun (k2 : Nat) st => ∃ (tm : Nat → Value) (H' : Heap) (A : List (R3)) (rest : List Value) (kk : Nat), st = ⟨tm, n, H', nx⟩ ∧ H' b = some (.cells (A.flatMap z0Y ++ rest) 3 (some t) false (some 51)) ∧ A.length = l.length ∧ (∀ i, i ≠ b → H' i = H i) ∧ tm 0 = .slice (some ⟨b, 0, some t⟩) l.length l.length ∧ tm 3 = .int .i64 kk ∧ tm 4 = .slice (some ⟨b, 0 + k * 3, some t⟩) (l.length - k) (l.length - k) ∧ tm 5 = .int .i64 k2 ∧
       1 ≤ kk ∧ kk ≤ k + k2 - 1 ∧ 1 ≤ k2 ∧ k2 ≤ l.length - k ∧ A.take kk = z3P (l.take (k + k2)) ∧ A.drop (k + k2 - 1) = l.drop (k + k2 - 1)) (fun k2 => l.length - k - k2) 1 ?_ ?_
      ·exact ⟨_, H, l, rest, k, rfl, hH, rfl, fun _ _ => rfl, stp, stp, stp, stp, zom, zom, zom, zom, hd0.symm, rfl⟩
      ·clear e0 e3 e25;rintro k2 st ⟨tm, H', A, rest', kk, rfl, hG, hAl, hsame, e0, e3, e4, e5, k1, k3, k4, k5, hta, hda⟩;by_cases hlt2 : k + k2 < l.length
       ·have hA1 : A[k + k2]'zom = l[k + k2] := by
         have : (A.drop (k + k2 - 1))[1]? = (l.drop (k + k2 - 1))[1]? := by rw [hda]
         rw [List.getElem?_drop, List.getElem?_drop, show k + k2 - 1 + 1 = k + k2 by omega, List.getElem?_eq_getElem zom, List.getElem?_eq_getElem hlt2] at this;exact Option.some.inj this
        have hA2 : A[k + k2 - 1]'zom = l[k + k2 - 1] := by
         have : (A.drop (k + k2 - 1))[0]? = (l.drop (k + k2 - 1))[0]? := by rw [hda]
         rw [List.getElem?_drop, List.getElem?_drop, Nat.add_zero, List.getElem?_eq_getElem zom, List.getElem?_eq_getElem zom] at this;exact Option.some.inj this
        have hstep := z29 l (m := k + k2) zom hlt2
        have hdn : A.drop (k + (k2 + 1) - 1) = l.drop (k + (k2 + 1) - 1) := by
         have := congrArg (List.drop 1) hda;rw [List.drop_drop, List.drop_drop] at this;rw [show k + (k2 + 1) - 1 = k + k2 - 1 + 1 by omega]; exact this
        have g1 := z0G z13 hG (show k + k2 < A.length by omega);have g2 := z0G z13 hG (show k + k2 - 1 < A.length by omega);rw [hA1] at g1;rw [hA2] at g2
        replace g1 : z0A H' ⟨b, 0 + k * 3 + (k2 : Int).toNat * 3, some t⟩ 3 = some (z0Y l[k + k2]) := by
         rw [Int.toNat_natCast, show 0 + k * 3 + k2 * 3 = 0 + (k + k2) * 3 by omega]; exact g1
        replace g2 : z0A H' ⟨b, 0 + k * 3 + ((k2 : Int) - 1).toNat * 3, some t⟩ 3 = some (z0Y l[k + k2 - 1]) := by
         rw [show 0 + k * 3 + ((k2 : Int) - 1).toNat * 3 = 0 + (k + k2 - 1) * 3 by omega]; exact g2
        refine z4s ?_;refine z9r ?_;refine Trip.mono (Q := fun e st => e = .normal ∧ ∃ (tm' : Nat → Value), st = ⟨tm', n, H', nx⟩ ∧ tm' 44 = .bool (!decide (l[k + k2] = l[k + k2 - 1])) ∧ tm' 0 = .slice (some ⟨b, 0, some t⟩) l.length l.length ∧ tm' 3 = .int .i64 kk ∧ tm' 4 = .slice (some ⟨b, 0 + k * 3, some t⟩) (l.length - k) (l.length - k) ∧ tm' 5 = .int .i64 k2) ?_ ?_
        ·refine OpsK.drawn (K := fun _ _ => True) z0q krf krf trivial ?_;refine zeW ?_;refine zd (zg (k := 3) (vs := z0Y l[k + k2]) evr zxr rfl zxr g1) ?_;refine z4X ?_;refine zgm ?_;refine zd (zg (k := 3) (vs := z0Y l[k + k2 - 1]) evr zxr rfl zxr g2) ?_;refine z88 ?_;refine zd (z3Q (r := decide (l[k + k2] = l[k + k2 - 1])) evd evd krf (eqN _ _ _ _ rfl)) ?_;refine z5S ?_;exact ⟨rfl, _, rfl, by simp [zl], stp, stp, stp, stp⟩
        ·rintro e st ⟨rfl, tm', rfl, e44, e0, e3, e4, e5⟩;dsimp only;by_cases he2 : l[k + k2] = l[k + k2 - 1]
         ·rw [decide_eq_true he2] at e44;rw [if_pos he2.symm] at hstep
          repeat fail
          refine zg4 ?_;exact ⟨k2 + 1, ⟨_, H', A, rest', kk, rfl, hG, hAl, hsame, stp, stp, stp, stp, k1, zom, zom, zom, by rw [hta, ← hstep]; rfl, hdn⟩, zom⟩
         ·rw [decide_eq_false he2] at e44;rw [if_neg (fun h => he2 h.symm)] at hstep
          repeat fail
          refine z11 ?_;refine zfl ?_;refine zd (zg (k := 3) (vs := z0Y l[k + k2]) evr zxr rfl zxr g1) ?_;refine zcu ?_
          refine OpsL.upd (zw (u := .agg (z0Y l[k + k2]).toArray) (o := .cells ((A.set kk l[k + k2]).flatMap z0Y ++ rest') 3 (some t) false (some 51)) evr evd zxr rfl (by
           have := z64 (x := l[k + k2]) z13 z7D hG (show kk < A.length by omega);show z5j H' ⟨b, 0 + (kk : Int).toNat * 3, some t⟩ (z0Y l[k + k2]) = _;rw [Int.toNat_natCast]; exact this)) ?_
          exact zhZ
       ·have hk2 : k2 = l.length - k := by omega
        rw [show k + k2 = l.length by omega, List.take_length] at hta;refine z4s ?_;refine z7a ?_;refine zfo ?_;refine zd (z06 (a := some (.int .i64 kk)) (b := none) (c := none) evd zer rfl rfl (hS H' _ _ hG kk zom)) ?_;obtain ⟨rest2, hend⟩ := z7t (k := kk) (z := [.int .i64 0, .int .i64 0, .int .i64 0]) z13 rfl rfl hG zom;rw [hAl, hta] at hend;refine OpsL.clear (z := [.int .i64 0, .int .i64 0, .int .i64 0]) evr zxr zxr zom hend ?_;refine zaE ?_;have hlen : (z3P l).length = kk := by rw [← hta, List.length_take]; omega
        refine zd (z06 (a := none) (b := some (.int .i64 kk)) (c := none) evd rfl zer rfl (hS2 _ _ rest2 zb kk zom)) ?_;refine zi2 ?_;refine ⟨.inr rfl, _, zy, rfl, ?_, fun i hi => ?_⟩
        ·refine ⟨by simp [zl, hlen], by rw [z0j z13], rest2, zb⟩
        ·show Heap.put H' b _ i = _;rw [za (hi b t rfl)];exact hsame i (hi b t rfl)
     ·rw [decide_eq_false heq] at e25
      repeat fail
      refine zg4 ?_;refine ⟨k + 1, ⟨_, rfl, stp, stp, zom, zom, fun i hi h0 h1 => ?_⟩, zom⟩;by_cases hik : i = k
      ·subst hik;exact fun hh => heq hh.symm
      ·exact hne i hi h0 zom
   ·repeat (first | (refine zd (by first | exact omv | exact z1D) ?_) | refine Trip.seq ?_ | refine zk ?_)
    refine z7a ?_;refine z9w ?_;have hd := z36 l l.length (Nat.le_refl _) (fun i hi a c => hne i hi a zom);rw [List.take_length] at hd;refine ⟨.inr rfl, _, zy, rfl, ?_, fun _ _ => rfl⟩;rw [hd];exact ⟨stp, by rw [z0j z13], rest, hH⟩
end Go.Proofs.YteplpegfcpmflaaGreat
namespace Go.Proofs.YteplpegfcpmflaaGreat
open Go.RowKit Go.Am
attribute [local irreducible] aop OpsL Trip zI z2r OpsK OpsR
theorem za5 : Am.z0O Tryz.prog 50 := ⟨Tryz.f50, Tryz.func50, by kernel_rfl, by kernel_rfl⟩
theorem zea (W0 : World) {nx : Nat} {H : Heap} {ob : Option (Nat × Nat)} {v : Value} {l : List (R3)} (h : zaK H ob v l) (hl : l.length ≤ 1000000) :
  ACalls Tryz.prog W0 75 [v, .func (.func 51) #[] #[]] nx H fun _ nx' H' => nx' = nx ∧ ∃ l' : List (R3), l'.Perm l ∧ z3l lt3 l' ∧ zaK H' ob v l' ∧ ∀ i, (∀ b t, ob = some (b, t) → i ≠ b) → H' i = H i := by
 cases ob with
 | none =>
  obtain ⟨rfl, _, hl0⟩ := h;have hnil : l = [] := List.eq_nil_of_length_eq_zero hl0;subst hnil;intro C w args' hR ha;obtain ⟨h1, h2⟩ := ha
  obtain ⟨v1, v2, rfl⟩ : ∃ v1 v2, args' = [v1, v2] := by
   match args', h1 with
   | [v1, v2], _ => exact ⟨v1, v2, rfl⟩
  have hv1 := h2 0 (by simp) (by simp);simp only [List.getElem_cons_zero] at hv1;obtain rfl : v1 = .slice none 0 0 := by cases hv1; rfl
  refine (AnyF.slices_SortFunc_none { sortNL with } none 0 v2 w).mono ?_;rintro e w' ⟨rfl, rfl⟩;exact ⟨_, _, C, nx, H, rfl, ⟨rfl, [], List.Perm.refl _, List.Pairwise.nil, ⟨rfl, rfl, rfl⟩, fun _ _ => rfl⟩, hR, .tuple #[] #[] rfl (fun i h => absurd h (by simp)), Stp.refl _ _ _⟩
 | some bt =>
  obtain ⟨b, t⟩ := bt;obtain ⟨rfl, _, rest, hH⟩ := h;refine ACalls.weaken (zgZ W0 hH zom) ?_;rintro v nx' H' ⟨_, rfl, l', hp, hs, rfl⟩;refine ⟨rfl, l', hp, hs, ⟨by rw [hp.length_eq], by rw [z0j z13], rest, zb⟩, fun i hi => za (hi b t rfl)⟩
namespace zd6c
noncomputable section
abbrev zp0 := @Tryz.f50
abbrev zp1 := @Tryz.func50
abbrev zp2 := 51
abbrev zp3 := 28
end
end zd6c
open zd6c in
open Go.Proofs.YteplpegfcpmflaaGreat renaming zd8 → zp4, z1P → zp5, zah → zp6, zhu → zp7, za8 → zp8, zea → zp9, zal → zp10, zhy → zp11 in
open Go.Am renaming zhS → zp12 in
theorem zgV (W0 : World) {nx : Nat} {H : Heap} {v : Value} {l : List R3} (hr : AtN H v l) (hm : l.length ≤ 100000) :
  ACalls Tryz.prog W0 50 [v, .func (.func 51) #[] #[]] nx H fun v nx' H' => ∃ ob, zaK H' ob v (zB lt3 l) ∧ z2g nx H nx' H' ob := zd6
end Go.Proofs.YteplpegfcpmflaaGreat
namespace Go.Proofs.YteplpegfcpmflaaGreat
open Go.RowKit Go.Am
attribute [local irreducible] aop OpsL Trip zI z2r OpsK OpsR
abbrev AtI (H : Heap) (v : Value) (l : List (Int)) : Prop := RowsAt z9x 1 H v l
abbrev z5H (H : Heap) (ob : Option (Nat × Nat)) (v : Value) (l : List (Int)) : Prop := OwnOf z9x 1 3 H ob v l
theorem zad : Am.z0O Tryz.prog 81 := ⟨Tryz.f81, Tryz.func81, by kernel_rfl, by kernel_rfl⟩
theorem zai : Am.z0O Tryz.prog 63 := ⟨Tryz.f63, Tryz.func63, by kernel_rfl, by kernel_rfl⟩
theorem zhm (W0 : World) {nx m : Nat} {H : Heap} (hm : m ≤ 1000000) :
  ACalls Tryz.prog W0 81 [.slice none 0 0, .int .i64 m] nx H fun v nx' H' => ∃ ob, z5H H' ob v [] ∧ z2g nx H nx' H' ob := by
 refine zm (fn := Tryz.f81) (c := _) Tryz.func81 rfl (fun tm n hn0 htm => ?_);have e0 : tm 0 = .slice none 0 0 := htm 0;have e1 : tm 1 = .int .i64 m := htm 1;clear htm;replace hn0 : n = 27 := hn0;refine z6v ?_;refine z7a ?_;refine zdV ?_;refine zd (z3S evr zxr) ?_;refine zi4 ?_;by_cases h0 : 0 < m
 ·refine z2y ?_;refine z9o ?_;refine zbs ?_;refine zd (z3S evr zxr) ?_;refine zd (z06 (r := .slice none 0 0) (a := none) (b := some (.int .i64 0)) (c := none) evd rfl (by simp only [z2d, ASt.ev, zl, ↓reduceIte, reduceIte, Option.some.injEq, Nat.reduceEqDiff, Option.map_some]; rfl) rfl (z3f (el := 3) (sz := 1) zxr zxr (.inl ⟨rfl, rfl⟩) (.inr ⟨.i64, rfl⟩))) ?_;refine z87 ?_;refine OpsL.new zsd (z4n (k := m) (el := 3) (kd := .i64) (size := 1) (bytes := 8) (z := [.int .i64 0]) evd (by simp only [ASt.ev, zl, ↓reduceIte, reduceIte, Nat.reduceEqDiff, zL, *]; simp) zxr zxr zxr zxr zxr rfl h0 zom zom) ?_
  repeat (refine zd (by first | exact omv | exact z1D) ?_)
  refine zd (z06 (r := .slice (some ⟨nx, 0, some nx⟩) 0 0) (a := none) (b := some (.int .i64 0)) (c := none) evr rfl (by simp only [z2d, ASt.ev, zl, ↓reduceIte, reduceIte, Option.some.injEq, Nat.reduceEqDiff, Option.map_some]; rfl) rfl (by
   have := z03 (P := Tryz.prog) (H := H.put nx (.cells (z0p [.int .i64 0] m) 1 (some nx) false (some 3))) (t := 22) (el := 3) (sz := 1) (a := ⟨nx, 0, some nx⟩) (len := m) (cap := m) (l := 0) (h := 0) (tg := nx) (lo := none) (hi := some (.int .i64 0)) zxr zxr zb rfl rfl rfl (.inl ⟨rfl, rfl⟩) (.inr ⟨.i64, rfl⟩) (Nat.le_refl _) (Nat.zero_le _);simpa using this)) ?_
  refine zcr ?_;refine ⟨.inr rfl, _, zy, some (nx, nx), ?_, ⟨zj, fun b t h => by cases h; exact ⟨Nat.le_refl _, Nat.lt_succ_self _⟩⟩⟩;refine ⟨by simp [zl], rfl, z0p [.int .i64 0] m, ?_⟩;rw [zb];simp
 ·refine z1L ?_;refine zi6 ?_;refine ⟨.inr rfl, _, zy, none, ⟨stp, rfl, rfl⟩, Ext.refl, fun b t h => by cases h⟩
def zd9 (H : Heap) (v : Value) (ls : List (Value × List (Int))) : Prop :=
 ∃ a, v = .slice (some ⟨a, 0, none⟩) ls.length ls.length ∧ H a = some (.cells (ls.map (·.1)) 1 none false (some 22)) ∧ ∀ x ∈ ls, AtI H x.1 x.2
def z1Q (ls : List (Value × List (Int))) : List (Int) := ls.flatMap (·.2)
theorem z6n (ls : List (Value × List (Int))) {i : Nat} (h : i < ls.length) : z1Q (ls.take (i + 1)) = z1Q (ls.take i) ++ ls[i].2 := by
 unfold z1Q;rw [List.take_add_one, List.getElem?_eq_getElem h, Option.toList_some, List.flatMap_append];simp
theorem zhv (W0 : World) {nx : Nat} {H : Heap} {v : Value} {ls : List (Value × List (Int))} (hr : zd9 H v ls) (hm : (z1Q ls).length ≤ 100000) (hl : ls.length ≤ 100) :
  ACalls Tryz.prog W0 63 [v] nx H fun v nx' H' => ∃ ob, z5H H' ob v (z1Q ls) ∧ z2g nx H nx' H' ob := by
 obtain ⟨a, rfl, hH, hrows⟩ := hr;refine zm (fn := Tryz.f63) (c := _) Tryz.func63 rfl (fun tm n hn0 htm => ?_);have e0 : tm 0 = .slice (some ⟨a, 0, none⟩) ls.length ls.length := htm 0;clear htm;replace hn0 : n = 36 := hn0;refine Trip.ok fun hok => ?_;replace hok : ∀ id o, H id = some o → id < nx := hok
 have hcell : ∀ (G : Heap), G a = some (.cells (ls.map (·.1)) 1 none false (some 22)) → ∀ i (h : i < ls.length), zh G ⟨a, 0 + (i : Int).toNat * 1, none⟩ ls[i].1 := fun G hG i h => by
  have := z3e (off := i) hG (by simpa using h);simpa using this
 have hlen : ∀ i, i ≤ ls.length → (z1Q (ls.take i)).length ≤ (z1Q ls).length := fun i hi => by
  have h1 : z1Q ls = z1Q (ls.take i) ++ z1Q (ls.drop i) := by
   unfold z1Q;rw [← List.flatMap_append, List.take_append_drop]
  rw [h1, List.length_append]; omega
 refine zaF ?_;refine zu (fun (i : Nat) st => ∃ (tm : Nat → Value), st = ⟨tm, n, H, nx⟩ ∧ tm 0 = .slice (some ⟨a, 0, none⟩) ls.length ls.length ∧ tm 9 = .slice (some ⟨a, 0, none⟩) ls.length ls.length ∧ tm 10 = .int .i64 ls.length ∧ tm 11 = .int .i64 i ∧ tm 3 = .int .i64 (z1Q (ls.take i)).length ∧ i ≤ ls.length) (fun i => ls.length - i) 0 ?_ ?_
 ·exact ⟨_, rfl, stp, stp, stp, stp, by simp [zl, z1Q], zom⟩
 ·clear e0;rintro i st ⟨tm, rfl, e0, e9, e10, e11, e3, hi⟩;by_cases hlt : i < ls.length
  ·have hc := hcell H hH i hlt;obtain ⟨ua, uc, hu⟩ := (hrows _ (List.getElem_mem hlt)).slice;have hst := z6n ls hlt;have hl1 := hlen (i + 1) zom;rw [hst, List.length_append] at hl1;rw [hu] at hc;generalize ls[i].2 = us at *;generalize z1Q (ls.take i) = zs at *;refine zi7 ?_;exact ⟨i + 1, ⟨_, rfl, stp, stp, stp, stp, by rw [hst]; simp [zl, *], zom⟩, zom⟩
  ·have hin : i = ls.length := by omega
   subst hin;rw [List.take_length] at e3;refine zcl ?_;refine zfo ?_;refine OpsL.c2 (hf := zad) (hc := (zhm W0 (m := (z1Q ls).length) zom).ok) (h := ?_);rintro gv nx1 H1 ⟨⟨ob1, ho1, hx1, hob1⟩, hok1⟩;refine zaF ?_;refine zu (fun (i : Nat) st => ∃ (tm : Nat → Value) (nx' : Nat) (H' : Heap) (ob : Option (Nat × Nat)) (v : Value), st = ⟨tm, n, H', nx'⟩ ∧ z2g nx H nx' H' ob ∧ (∀ id o, H' id = some o → id < nx') ∧ z5H H' ob v (z1Q (ls.take i)) ∧ tm 25 = .slice (some ⟨a, 0, none⟩) ls.length ls.length ∧ tm 26 = .int .i64 ls.length ∧ tm 27 = .int .i64 i ∧ tm 6 = v ∧ i ≤ ls.length) (fun i => ls.length - i) 0 ?_ ?_
   ·exact ⟨_, _, _, ob1, gv, rfl, ⟨hx1, hob1⟩, hok1, ho1, stp, stp, stp, stp, zom⟩
   ·clear e0 e9 e10 e11 e3 ho1 hx1 hob1 hok1;rintro i st ⟨tm, nx', H', ob, v, rfl, ⟨hx, hob⟩, hok', hown, e25, e26, e27, e6, hi⟩;by_cases hlt : i < ls.length
    ·have hst := z6n ls hlt;have hl1 := hlen (i + 1) zom;rw [hst, List.length_append] at hl1;have hrow := (hrows _ (List.getElem_mem hlt)).ext hx hok;have hc := hcell H' (by rw [hx.2 a (hok _ _ hH)]; exact hH) i hlt;obtain ⟨ua, uc, hu⟩ := hrow.slice;rw [hu] at hc hrow;generalize ls[i].2 = us at *;generalize z1Q (ls.take i) = zs at *;refine zfp ?_;refine zO (bytes := 8) (z := [.int .i64 0]) z04 z2k zom zsd hown hrow evd evd (fun b t h => (hob b t h).2) zxr zxr zxr zxr zxr rfl zom zom ?_;exact ziG
    ·have hin : i = ls.length := by omega
     subst hin;rw [List.take_length] at hown;refine zcl ?_;refine z9w ?_;exact ⟨.inr rfl, _, zy, ob, stp, hx, hob⟩
end Go.Proofs.YteplpegfcpmflaaGreat
namespace Go.Proofs.YteplpegfcpmflaaGreat
open Go.RowKit Go.Am
attribute [local irreducible] aop OpsL Trip zI z2r OpsK OpsR
theorem zam : Am.z0O Tryz.prog 65 := ⟨Tryz.f65, Tryz.func65, by kernel_rfl, by kernel_rfl⟩
theorem zhz (W0 : World) {nx : Nat} {H : Heap} {ob : Option (Nat × Nat)} {v : Value} {l : List (Int)} (h : z5H H ob v l) (hl : l.length ≤ 100000) :
  ACalls Tryz.prog W0 65 [v] nx H fun v' nx' H' => nx' = nx ∧ z5H H' ob v' (z3P l) ∧ ∀ i, (∀ b t, ob = some (b, t) → i ≠ b) → H' i = H i := by
 have hrow := h.at z04;obtain ⟨va, vc, rfl⟩ := hrow.slice;refine zm (fn := Tryz.f65) (c := _) Tryz.func65 rfl (fun tm n hn0 htm => ?_);have e0 : tm 0 = .slice va l.length vc := htm 0;clear htm;replace hn0 : n = 61 := hn0;by_cases hsh : l.length < 2
 ·repeat (first | (refine zd (by first | exact omv | exact z0y | exact z1D) ?_) | refine Trip.seq ?_ | refine zk ?_ | (refine OpsL.nil ?_; (change Trip _ _ _ _ _)))
  refine z6z ?_;refine zcr ?_;exact ⟨.inr rfl, _, zy, rfl, by rw [z4D l zom]; simp [zl, *], fun _ _ => rfl⟩
 ·obtain ⟨b, t, rfl⟩ : ∃ b t, ob = some (b, t) := by
   cases ob with
   | none => obtain ⟨_, _, h2⟩ := h; omega
   | some bt => exact ⟨_, _, rfl⟩
  obtain ⟨hv, _, rest, hH⟩ := h;obtain ⟨rfl, _, rfl⟩ := Value.slice.inj hv
  have hS : ∀ (G : Heap) (A rest : List Value), G b = some (.cells (A ++ rest) 1 (some t) false (some 3)) → ∀ k, k < l.length → z0E Tryz.prog G 22 (.slice (some ⟨b, 0, some t⟩) l.length l.length) (some (.int .i64 k)) none none = some (.slice (some ⟨b, 0 + k * 1, some t⟩) (l.length - k) (l.length - k)) := fun G A rest hG k hk => by
   have := z03 (P := Tryz.prog) (H := G) (t := 22) (el := 3) (sz := 1) (a := ⟨b, 0, some t⟩) (len := l.length) (cap := l.length) (l := k) (h := l.length) (tg := t) (lo := some (.int .i64 k)) (hi := none) zxr zxr hG rfl rfl rfl (.inr ⟨.i64, rfl⟩) (.inl ⟨rfl, rfl⟩) zom (Nat.le_refl _);rw [if_neg zom] at this;exact this
  have hS2 : ∀ (G : Heap) (A rest : List Value), G b = some (.cells (A ++ rest) 1 (some t) false (some 3)) → ∀ k, k ≤ l.length → z0E Tryz.prog G 22 (.slice (some ⟨b, 0, some t⟩) l.length l.length) none (some (.int .i64 k)) none = some (.slice (some ⟨b, 0, some t⟩) k k) := fun G A rest hG k hk => by
   have := z03 (P := Tryz.prog) (H := G) (t := 22) (el := 3) (sz := 1) (a := ⟨b, 0, some t⟩) (len := l.length) (cap := l.length) (l := 0) (h := k) (tg := t) (lo := none) (hi := some (.int .i64 k)) zxr zxr hG rfl rfl rfl (.inl ⟨rfl, rfl⟩) (.inr ⟨.i64, rfl⟩) (Nat.zero_le _) hk;simpa using this
  refine zgl ?_;refine z7a ?_;refine zdM ?_;refine zu (fun (k : Nat) st => ∃ (tm : Nat → Value), st = ⟨tm, n, H, nx⟩ ∧ tm 0 = .slice (some ⟨b, 0, some t⟩) l.length l.length ∧ tm 3 = .int .i64 k ∧ 1 ≤ k ∧ k ≤ l.length ∧ ∀ i (h : i < l.length), 0 < i → i < k → l[i - 1] ≠ l[i]) (fun k => l.length - k) 1 ?_ ?_
  ·exact ⟨_, rfl, stp, by simp [zl], zom, zom, fun i h h0 h1 => by omega⟩
  ·clear e0;rintro k st ⟨tm, rfl, e0, e3, hk1, hk2, hne⟩;by_cases hlt : k < l.length
   ·repeat (first | (refine zd (by first | exact omv | exact z1D) ?_) | refine Trip.seq ?_ | refine zk ?_)
    refine z9r ?_;have g1 := z0G z04 hH hlt;have g2 := z0G z04 hH (show k - 1 < l.length by omega);refine Trip.mono (Q := fun e st => e = .normal ∧ ∃ (tm' : Nat → Value), st = ⟨tm', n, H, nx⟩ ∧ tm' 25 = .bool (decide (l[k] = l[k - 1])) ∧ tm' 0 = .slice (some ⟨b, 0, some t⟩) l.length l.length ∧ tm' 3 = .int .i64 k) ?_ ?_
    ·refine OpsK.drawn (K := fun _ _ => True) z0q krf krf trivial ?_;refine zeW ?_;refine zd (zp (v := .int .i64 l[k]) evr zxr rfl (by show z0A H ⟨b, 0 + (k : Int).toNat * 1, some t⟩ 1 = _; rw [Int.toNat_natCast]; exact g1)) ?_;refine z4X ?_;refine zgm ?_;refine zd (zp (v := .int .i64 l[k - 1]) evr zxr rfl (by show z0A H ⟨b, 0 + ((k : Int) - 1).toNat * 1, some t⟩ 1 = _; rw [show ((k : Int) - 1).toNat = k - 1 by omega]; exact g2)) ?_;refine z88 ?_;refine zd (zfr) ?_;refine z5S ?_;exact ⟨rfl, _, rfl, by simp [zl], stp, stp⟩
    ·rintro e st ⟨rfl, tm', rfl, e25, e0, e3⟩;dsimp only;clear g1 g2;by_cases heq : l[k] = l[k - 1]
     ·rw [decide_eq_true heq] at e25
      repeat fail
      refine z11 ?_;refine zaD ?_;refine zd (z06 (a := some (.int .i64 k)) (b := none) (c := none) evd zer rfl rfl (hS H _ _ hH k hlt)) ?_;refine zg9 ?_
      have hd0 : z3P (l.take (k + 1)) = l.take k := by
       rw [z29 l zom hlt, if_pos heq.symm];exact z36 l k zom (fun i hi a c => hne i hi a c)
      refine zu (fun (k2 : Nat) st => ∃ (tm : Nat → Value) (H' : Heap) (A : List (Int)) (rest : List Value) (kk : Nat), st = ⟨tm, n, H', nx⟩ ∧ H' b = some (.cells (A.flatMap z9x ++ rest) 1 (some t) false (some 3)) ∧ A.length = l.length ∧ (∀ i, i ≠ b → H' i = H i) ∧ tm 0 = .slice (some ⟨b, 0, some t⟩) l.length l.length ∧ tm 3 = .int .i64 kk ∧ tm 4 = .slice (some ⟨b, 0 + k * 1, some t⟩) (l.length - k) (l.length - k) ∧ tm 5 = .int .i64 k2 ∧
       1 ≤ kk ∧ kk ≤ k + k2 - 1 ∧ 1 ≤ k2 ∧ k2 ≤ l.length - k ∧ A.take kk = z3P (l.take (k + k2)) ∧ A.drop (k + k2 - 1) = l.drop (k + k2 - 1)) (fun k2 => l.length - k - k2) 1 ?_ ?_
      ·exact ⟨_, H, l, rest, k, rfl, hH, rfl, fun _ _ => rfl, stp, stp, stp, stp, zom, zom, zom, zom, hd0.symm, rfl⟩
      ·clear e0 e3 e25;rintro k2 st ⟨tm, H', A, rest', kk, rfl, hG, hAl, hsame, e0, e3, e4, e5, k1, k3, k4, k5, hta, hda⟩;by_cases hlt2 : k + k2 < l.length
       ·have hA1 : A[k + k2]'zom = l[k + k2] := by
         have : (A.drop (k + k2 - 1))[1]? = (l.drop (k + k2 - 1))[1]? := by rw [hda]
         rw [List.getElem?_drop, List.getElem?_drop, show k + k2 - 1 + 1 = k + k2 by omega, List.getElem?_eq_getElem zom, List.getElem?_eq_getElem hlt2] at this;exact Option.some.inj this
        have hA2 : A[k + k2 - 1]'zom = l[k + k2 - 1] := by
         have : (A.drop (k + k2 - 1))[0]? = (l.drop (k + k2 - 1))[0]? := by rw [hda]
         rw [List.getElem?_drop, List.getElem?_drop, Nat.add_zero, List.getElem?_eq_getElem zom, List.getElem?_eq_getElem zom] at this;exact Option.some.inj this
        have hstep := z29 l (m := k + k2) zom hlt2
        have hdn : A.drop (k + (k2 + 1) - 1) = l.drop (k + (k2 + 1) - 1) := by
         have := congrArg (List.drop 1) hda;rw [List.drop_drop, List.drop_drop] at this;rw [show k + (k2 + 1) - 1 = k + k2 - 1 + 1 by omega]; exact this
        have g1 := z0G z04 hG (show k + k2 < A.length by omega);have g2 := z0G z04 hG (show k + k2 - 1 < A.length by omega);rw [hA1] at g1;rw [hA2] at g2
        replace g1 : z0A H' ⟨b, 0 + k * 1 + (k2 : Int).toNat * 1, some t⟩ 1 = some (z9x l[k + k2]) := by
         rw [Int.toNat_natCast, show 0 + k * 1 + k2 * 1 = 0 + (k + k2) * 1 by omega]; exact g1
        replace g2 : z0A H' ⟨b, 0 + k * 1 + ((k2 : Int) - 1).toNat * 1, some t⟩ 1 = some (z9x l[k + k2 - 1]) := by
         rw [show 0 + k * 1 + ((k2 : Int) - 1).toNat * 1 = 0 + (k + k2 - 1) * 1 by omega]; exact g2
        refine z4s ?_;refine z9r ?_;refine Trip.mono (Q := fun e st => e = .normal ∧ ∃ (tm' : Nat → Value), st = ⟨tm', n, H', nx⟩ ∧ tm' 44 = .bool (decide (l[k + k2] ≠ l[k + k2 - 1])) ∧ tm' 0 = .slice (some ⟨b, 0, some t⟩) l.length l.length ∧ tm' 3 = .int .i64 kk ∧ tm' 4 = .slice (some ⟨b, 0 + k * 1, some t⟩) (l.length - k) (l.length - k) ∧ tm' 5 = .int .i64 k2) ?_ ?_
        ·refine OpsK.drawn (K := fun _ _ => True) z0q krf krf trivial ?_;refine zeW ?_;refine zd (zp (v := .int .i64 l[k + k2]) evr zxr rfl g1) ?_;refine z4X ?_;refine zgm ?_;refine zd (zp (v := .int .i64 l[k + k2 - 1]) evr zxr rfl g2) ?_;refine z88 ?_;refine zd (zhT) ?_;refine z5S ?_;exact ⟨rfl, _, rfl, by simp [zl], stp, stp, stp, stp⟩
        ·rintro e st ⟨rfl, tm', rfl, e44, e0, e3, e4, e5⟩;dsimp only;by_cases he2 : l[k + k2] = l[k + k2 - 1]
         ·rw [decide_eq_false (fun h => h he2)] at e44;rw [if_pos he2.symm] at hstep
          repeat fail
          refine zg4 ?_;exact ⟨k2 + 1, ⟨_, H', A, rest', kk, rfl, hG, hAl, hsame, stp, stp, stp, stp, k1, zom, zom, zom, by rw [hta, ← hstep]; rfl, hdn⟩, zom⟩
         ·rw [decide_eq_true he2] at e44;rw [if_neg (fun h => he2 h.symm)] at hstep
          repeat fail
          refine z11 ?_
          repeat (first | (refine zd (by first | exact omv | exact z2Z | exact old) ?_) | refine Trip.seq ?_ | refine zk ?_)
          refine OpsL.upd (zw (u := .int .i64 l[k + k2]) (o := .cells ((A.set kk l[k + k2]).flatMap z9x ++ rest') 1 (some t) false (some 3)) evr evd zxr rfl (by
           have := z64 (x := l[k + k2]) z04 z2k hG (show kk < A.length by omega);show z5j H' ⟨b, 0 + (kk : Int).toNat * 1, some t⟩ (z9x l[k + k2]) = _;rw [Int.toNat_natCast]; exact this)) ?_
          exact zhZ
       ·have hk2 : k2 = l.length - k := by omega
        rw [show k + k2 = l.length by omega, List.take_length] at hta;refine z4s ?_;refine z7a ?_;refine zfo ?_;refine zd (z06 (a := some (.int .i64 kk)) (b := none) (c := none) evd zer rfl rfl (hS H' _ _ hG kk zom)) ?_;obtain ⟨rest2, hend⟩ := z7t (k := kk) (z := [.int .i64 0]) z04 rfl rfl hG zom;rw [hAl, hta] at hend;refine OpsL.clear (z := [.int .i64 0]) evr zxr zxr zom hend ?_;refine zaE ?_;have hlen : (z3P l).length = kk := by rw [← hta, List.length_take]; omega
        refine zd (z06 (a := none) (b := some (.int .i64 kk)) (c := none) evd rfl zer rfl (hS2 _ _ rest2 zb kk zom)) ?_;refine zi2 ?_;refine ⟨.inr rfl, _, zy, rfl, ?_, fun i hi => ?_⟩
        ·refine ⟨by simp [zl, hlen], by rw [z0j z04], rest2, zb⟩
        ·show Heap.put H' b _ i = _;rw [za (hi b t rfl)];exact hsame i (hi b t rfl)
     ·rw [decide_eq_false heq] at e25
      repeat fail
      refine zg4 ?_;refine ⟨k + 1, ⟨_, rfl, stp, stp, zom, zom, fun i hi h0 h1 => ?_⟩, zom⟩;by_cases hik : i = k
      ·subst hik;exact fun hh => heq hh.symm
      ·exact hne i hi h0 zom
   ·repeat (first | (refine zd (by first | exact omv | exact z1D) ?_) | refine Trip.seq ?_ | refine zk ?_)
    refine z7a ?_;refine z9w ?_;have hd := z36 l l.length (Nat.le_refl _) (fun i hi a c => hne i hi a zom);rw [List.take_length] at hd;refine ⟨.inr rfl, _, zy, rfl, ?_, fun _ _ => rfl⟩;rw [hd];exact ⟨stp, by rw [z0j z04], rest, hH⟩
end Go.Proofs.YteplpegfcpmflaaGreat
