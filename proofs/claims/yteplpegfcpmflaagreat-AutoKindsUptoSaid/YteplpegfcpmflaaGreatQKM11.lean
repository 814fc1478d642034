import Derived.Test.YteplpegfcpmflaaGreatQKM10
set_option linter.unusedSimpArgs false
set_option linter.unusedVariables false
set_option maxRecDepth 100000
set_option maxHeartbeats 32000000
namespace Go.Proofs.YteplpegfcpmflaaGreat
open Go.Am Go.RowKit
attribute [local irreducible] aop OpsL Trip zI z2w
theorem zfA (W0 : World) {nx : Nat} {H : Heap} {a : Aut} {vi vf vo vc vn : Value} (ha : AutIn H a vi vf vo vc vn) (hl : AutLen a) :
  ACalls Tryz.prog W0 29 [.agg (zy a vi vf vo vc vn).toArray] nx H fun v nx' H' => v = .int .i64 (((a.opens.length : Int) + a.closes.length) + a.inners.length) ∧ Ext nx H nx' H' := by
 obtain ⟨oa, oc, rfl⟩ := ha.opens.slice;obtain ⟨ca, cc, rfl⟩ := ha.closes.slice;obtain ⟨na, nc, rfl⟩ := ha.inners.slice;have q1 := hl.opens;have q2 := hl.closes;have q3 := hl.inners;refine zl (fn := Tryz.f29) (c := _) Tryz.func29 rfl (fun tm n hn0 htm => ?_);have e0 : tm 0 = .agg (zy a vi vf (.slice oa a.opens.length oc) (.slice ca a.closes.length cc) (.slice na a.inners.length nc)).toArray := htm 0;clear htm;replace hn0 : n = 14 := hn0;refine z5L ?_;refine OpsL.new zsd (z0f evr) ?_;obtain ⟨F, hF⟩ : ∃ F, F = H.put nx (.cells (Value.agg (zy a vi vf (.slice oa a.opens.length oc) (.slice ca a.closes.length cc) (.slice na a.inners.length nc)).toArray).cells.toList 0 none false (some 30)) := ⟨_, rfl⟩;have hx0 : Ext nx H (nx + 1) F := by rw [hF]; exact zh
 have hFn : F nx = some (.cells (zy a vi vf (.slice oa a.opens.length oc) (.slice ca a.closes.length cc) (.slice na a.inners.length nc)) 0 none false (some 30)) := by rw [hF, zb]; rfl
 have g4 : zj F ⟨nx, 4, none⟩ (.slice oa a.opens.length oc) := ze hFn rfl;have g5 : zj F ⟨nx, 5, none⟩ (.slice ca a.closes.length cc) := ze hFn rfl;have g6 : zj F ⟨nx, 6, none⟩ (.slice na a.inners.length nc) := ze hFn rfl;rw [← hF];clear hF
 repeat' (first | (refine zd (by first | exact z0E | exact z6P | exact z2i | exact ofa | exact old) ?_) | refine Trip.seq ?_ | refine zm ?_ | (refine Trip.ret ?_; (dsimp only)) | (refine OpsL.nil ?_; (change Trip _ _ _ _ _)))
 exact ⟨.inr rfl, _, zx, by simp [zk], hx0⟩
theorem zis (W0 : World) {nx : Nat} {H : Heap} {a : Aut} {vi vf vo vc vn : Value} (ha : AutIn H a vi vf vo vc vn) (hl : AutLen a) :
  ACalls Tryz.prog W0 39 [.agg (zy a vi vf vo vc vn).toArray] nx H fun v nx' H' => v = .bool (z9W a) ∧ Ext nx H nx' H' := by
 refine zl (fn := Tryz.f39) (c := _) Tryz.func39 rfl (fun tm n hn0 htm => ?_);have e0 : tm 0 = .agg (zy a vi vf vo vc vn).toArray := htm 0;clear htm;replace hn0 : n = 16 := hn0;refine Trip.ok fun hok => ?_;replace hok : ∀ id o, H id = some o → id < nx := hok;refine z5L ?_;refine OpsL.new zsd (z0f evr) ?_;obtain ⟨F, hF⟩ : ∃ F, F = H.put nx (.cells (Value.agg (zy a vi vf vo vc vn).toArray).cells.toList 0 none false (some 30)) := ⟨_, rfl⟩;have hx0 : Ext nx H (nx + 1) F := by rw [hF]; exact zh
 have hFn : F nx = some (.cells (zy a vi vf vo vc vn) 0 none false (some 30)) := by rw [hF, zb]; rfl
 have g0 : zj F ⟨nx, 0, none⟩ (.int .i64 a.N) := ze hFn rfl;have g1 : zj F ⟨nx, 1, none⟩ (.int .i64 a.G) := ze hFn rfl;rw [← hF];clear hF
 repeat' (first | (refine zd (by first | exact z0E | exact ofa | exact old) ?_) | refine Trip.seq ?_ | refine zm ?_ | (refine OpsL.nil ?_; (change Trip _ _ _ _ _)))
 refine z3o (hf := z2t) (hc := (z61 W0 _ _ _)) (h := ?_);rintro v2 n2 H2 ⟨rfl, rfl, rfl⟩;cases hs1 : btF a.N 0 200
 ·repeat' (first | (refine zd (by first | exact omv | exact z0E | exact z3i) ?_) | (refine Trip.ret ?_; (dsimp only)) | (refine OpsL.nil ?_; (change Trip _ _ _ _ _)) | refine zQ ?_)
  exact ⟨.inr rfl, _, zx, by simp [zk, z9W, *], hx0⟩
 repeat' (first | (refine zd (by first | exact omv | exact ofa | exact old) ?_) | refine zz ?_)
 refine z3o (hf := z2t) (hc := (z61 W0 _ _ _)) (h := ?_);rintro v2 n2 H2 ⟨rfl, rfl, rfl⟩;cases hs2 : btF a.G 0 10000
 ·repeat' (first | (refine zd (by first | exact omv | exact z0E | exact z2R | exact z3i) ?_) | (refine Trip.ret ?_; (dsimp only)) | (refine OpsL.nil ?_; (change Trip _ _ _ _ _)) | refine zQ ?_)
  exact ⟨.inr rfl, _, zx, by simp [zk, z9W, *], hx0⟩
 repeat' (first | (refine zd (by first | exact omv | exact z2R) ?_) | refine zz ?_)
 refine zd (zg (k := 7) evd zxr rfl zxr (zG hFn rfl)) ?_
 repeat' (refine zz ?_)
 refine z0c (hf := z6y) (hc := (zfA W0 (ha.ext hx0 hok) hl)) (h := ?_);rintro v2 n2 H2 ⟨rfl, hx2⟩
 repeat' (first | (refine zd (by first | exact z0E | exact zgP | exact z2R) ?_) | (refine Trip.ret ?_; (dsimp only)) | (refine OpsL.nil ?_; (change Trip _ _ _ _ _)) | refine zz ?_)
 exact ⟨.inr rfl, _, zx, by simp [zk, z9W, *], hx0.trans hx2⟩
theorem z7s : Am.z0U Tryz.prog 40 := ⟨Tryz.f40, Tryz.func40, by kernel_rfl, by kernel_rfl⟩
theorem zcq : Am.z0U Tryz.prog 41 := ⟨Tryz.f41, Tryz.func41, by kernel_rfl, by kernel_rfl⟩
theorem zcs : Am.z0U Tryz.prog 42 := ⟨Tryz.f42, Tryz.func42, by kernel_rfl, by kernel_rfl⟩
theorem zcr : Am.z0U Tryz.prog 43 := ⟨Tryz.f43, Tryz.func43, by kernel_rfl, by kernel_rfl⟩
theorem zhm (W0 : World) {nx : Nat} {H : Heap} {f : FuncId} {cap : Array Value} {p : Int → Bool} {va : Value} {xs : List Int} (hf : Am.z0U Tryz.prog f) (hx : IntsAt H va xs) (hlen : xs.length ≤ 1000)
  (hp : ∀ (x : Int) nx1 H1, Ext nx H nx1 H1 → ACalls Tryz.prog W0 f (.int .i64 x :: cap.toList) nx1 H1 fun v n2 H2 => v = .bool (p x) ∧ Ext nx1 H1 n2 H2) :
  ACalls Tryz.prog W0 40 [va, .func (.func f) #[] cap] nx H fun v nx' H' => v = .bool (xs.all p) ∧ Ext nx H nx' H' := by
 obtain ⟨xa, xc, rfl⟩ := hx.slice;refine zl (fn := Tryz.f40) (c := _) Tryz.func40 rfl (fun tm n hn0 htm => ?_);have e0 : tm 0 = .slice xa xs.length xc := htm 0;have e1 : tm 1 = .func (.func f) #[] cap := htm 1;clear htm;replace hn0 : n = 18 := hn0;refine Trip.ok fun hok => ?_;replace hok : ∀ id o, H id = some o → id < nx := hok;refine z9I ?_
 refine zD (fun (i : Nat) s => ∃ (tm : Nat → Value) (nx' : Nat) (H' : Heap), s = ⟨tm, n, H', nx'⟩ ∧ Ext nx H nx' H' ∧
   tm 1 = .func (.func f) #[] cap ∧ tm 7 = .slice xa xs.length xc ∧ tm 8 = .int .i64 xs.length ∧ tm 9 = .int .i64 i ∧ i ≤ xs.length ∧ (xs.take i).all p = true) (fun i => xs.length - i) 0 ?_ ?_
 ·exact ⟨_, _, _, rfl, Ext.refl, stp, stp, stp, stp, zom, rfl⟩
 ·clear e0 e1;rintro i s ⟨tm, nx', H', rfl, hext, e1, e7, e8, e9, hi, hall⟩
  repeat (first | refine zd (by exact zev) ?_ | refine Trip.seq ?_ | refine zm ?_ | refine Trip.block ?_ | refine z3s (fun _ => ?_) (fun _ => ?_) | (refine Trip.skip ?_; (change Trip _ _ _ _ _)) | (refine OpsL.nil ?_; (change Trip _ _ _ _ _)))
  ·have hlt : i < xs.length := by omega
   obtain ⟨q, rfl, hc⟩ := z17 hx hlt;replace hc := z09 hext hok hc
   repeat (first | (refine zd (by first | exact omv | exact z0E | exact z45 | exact old) ?_) | refine Trip.seq ?_ | refine zm ?_ | (refine OpsL.nil ?_; (change Trip _ _ _ _ _)))
   refine z15 (cap := cap) zsd evd evr hf (hp _ _ _ hext) ?_;rintro v2 n2 H2 ⟨rfl, hx2⟩;cases hs : p xs[i]
   ·repeat (first | refine zd (by exact z8y) ?_ | (refine OpsL.nil ?_; (change Trip _ _ _ _ _)))
    refine zcV ?_;exact ⟨.inr rfl, _, zx, by simp [zk, zdj hlt hs], hext.trans hx2⟩
   ·repeat (first | refine zd (by exact z8y) ?_ | (refine OpsL.nil ?_; (change Trip _ _ _ _ _)))
    refine zcN ?_;exact ⟨i + 1, ⟨_, _, _, rfl, hext.trans hx2, stp, stp, stp, stp, zom, z85 hlt hall hs⟩, zom⟩
  ·repeat (first | refine zd (by exact z0E) ?_ | refine Trip.seq ?_ | refine zm ?_ | (refine Trip.exit ?_; ((repeat (refine z0e ?_)); change Trip _ _ _ _ _)) | (refine Trip.ret ?_; (dsimp only)) | (refine OpsL.nil ?_; (change Trip _ _ _ _ _)))
   have hi2 : i = xs.length := by omega
   subst hi2;rw [List.take_length] at hall;exact ⟨.inr rfl, _, zx, by simp [zk, hall], hext⟩
theorem zd6 {A : Prop} (h : A := by
 obtain ⟨xa, xc, rfl⟩ := hx.slice;refine zl (fn := zp0) (c := _) zp1 rfl (fun tm n hn0 htm => ?_);have e0 : tm 0 = .slice xa xs.length xc := htm 0;have e1 : tm 1 = .func (.func f) #[] cap := htm 1;clear htm;replace hn0 : n = 18 := hn0;refine Trip.ok fun hok => ?_;replace hok : ∀ id o, H id = some o → id < nx := hok;refine z9I ?_
 refine zD (fun (i : Nat) s => ∃ (tm : Nat → Value) (nx' : Nat) (H' : Heap), s = ⟨tm, n, H', nx'⟩ ∧ Ext nx H nx' H' ∧
   tm 1 = .func (.func f) #[] cap ∧ tm 7 = .slice xa xs.length xc ∧ tm 8 = .int .i64 xs.length ∧ tm 9 = .int .i64 i ∧ i ≤ xs.length ∧ (xs.take i).all p = true) (fun i => xs.length - i) 0 ?_ ?_
 ·exact ⟨_, _, _, rfl, Ext.refl, stp, stp, stp, stp, zom, rfl⟩
 ·clear e0 e1;rintro i s ⟨tm, nx', H', rfl, hext, e1, e7, e8, e9, hi, hall⟩
  repeat (first | refine zd (by exact zev) ?_ | refine Trip.seq ?_ | refine zm ?_ | refine Trip.block ?_ | refine z3s (fun _ => ?_) (fun _ => ?_) | (refine Trip.skip ?_; (change Trip _ _ _ _ _)) | (refine OpsL.nil ?_; (change Trip _ _ _ _ _)))
  ·have hlt : i < xs.length := by omega
   obtain ⟨q, rfl, hc⟩ := zS hx hlt;replace hc := z1O hext hok hc;refine zcY ?_;refine zd (zg (k := 4) evr zxr rfl zxr hc) ?_;refine OpsL.new zsd (zB (l := rep 4 [.int .i64 0]) zxr) ?_;refine OpsL.upd (zw (k := 4) evr evr zxr rfl (o := .cells (e4 xs[i]) 0 none false (some zp2)) (by simp [z5d, Heap.put, Value.cells, e4, rep, Value.oneCell'])) ?_;refine z7A ?_;refine zd (zg (k := 4) (vs := e4 xs[i]) evd zxr rfl zxr (zG zb rfl)) ?_;refine z15 (cap := cap) zsd evd evr hf (hp _ _ _ (hext.trans (zh.put (Nat.le_refl _)))) ?_;rintro v2 n2 H2 ⟨rfl, hx2⟩;replace hx2 := (hext.trans (zh.put (Nat.le_refl _))).trans hx2;cases hs : p xs[i]
   ·repeat (first | refine zd (by exact z8y) ?_ | (refine OpsL.nil ?_; (change Trip _ _ _ _ _)))
    refine zcV ?_;exact ⟨.inr rfl, _, zx, by simp [zk, zdj hlt hs], hx2⟩
   ·repeat (first | refine zd (by exact z8y) ?_ | (refine OpsL.nil ?_; (change Trip _ _ _ _ _)))
    refine zcN ?_;exact ⟨i + 1, ⟨_, _, _, rfl, hx2, stp, stp, stp, stp, zom, z85 hlt hall hs⟩, zom⟩
  ·repeat (first | refine zd (by exact z0E) ?_ | refine Trip.seq ?_ | refine zm ?_ | (refine Trip.exit ?_; ((repeat (refine z0e ?_)); change Trip _ _ _ _ _)) | (refine Trip.ret ?_; (dsimp only)) | (refine OpsL.nil ?_; (change Trip _ _ _ _ _)))
   have hi2 : i = xs.length := by omega
   subst hi2;rw [List.take_length] at hall;exact ⟨.inr rfl, _, zx, by simp [zk, hall], hext⟩) : A := h
namespace zd6a
noncomputable section
abbrev zp0 := @Tryz.f41
abbrev zp1 := @Tryz.func41
abbrev zp2 := 43
end
end zd6a
open zd6a in
theorem ziz (W0 : World) {nx : Nat} {H : Heap} {f : FuncId} {cap : Array Value} {p : R4 → Bool} {va : Value} {xs : List R4} (hf : Am.z0U Tryz.prog f) (hx : RowsAt e4 4 H va xs) (hlen : xs.length ≤ 1000)
  (hp : ∀ (x : R4) nx1 H1, Ext nx H nx1 H1 → ACalls Tryz.prog W0 f (.agg (e4 x).toArray :: cap.toList) nx1 H1 fun v n2 H2 => v = .bool (p x) ∧ Ext nx1 H1 n2 H2) :
  ACalls Tryz.prog W0 41 [va, .func (.func f) #[] cap] nx H fun v nx' H' => v = .bool (xs.all p) ∧ Ext nx H nx' H' := zd6
namespace zd6b
noncomputable section
abbrev zp0 := @Tryz.f42
abbrev zp1 := @Tryz.func42
abbrev zp2 := 45
end
end zd6b
open zd6b in
theorem ziB (W0 : World) {nx : Nat} {H : Heap} {f : FuncId} {cap : Array Value} {p : R4 → Bool} {va : Value} {xs : List R4} (hf : Am.z0U Tryz.prog f) (hx : RowsAt e4 4 H va xs) (hlen : xs.length ≤ 1000)
  (hp : ∀ (x : R4) nx1 H1, Ext nx H nx1 H1 → ACalls Tryz.prog W0 f (.agg (e4 x).toArray :: cap.toList) nx1 H1 fun v n2 H2 => v = .bool (p x) ∧ Ext nx1 H1 n2 H2) :
  ACalls Tryz.prog W0 42 [va, .func (.func f) #[] cap] nx H fun v nx' H' => v = .bool (xs.all p) ∧ Ext nx H nx' H' := zd6
theorem ziA (W0 : World) {nx : Nat} {H : Heap} {f : FuncId} {cap : Array Value} {p : R3 → Bool} {va : Value} {xs : List R3} (hf : Am.z0U Tryz.prog f) (hx : RowsAt e3 3 H va xs) (hlen : xs.length ≤ 1000)
  (hp : ∀ (x : R3) nx1 H1, Ext nx H nx1 H1 → ACalls Tryz.prog W0 f (.agg (e3 x).toArray :: cap.toList) nx1 H1 fun v n2 H2 => v = .bool (p x) ∧ Ext nx1 H1 n2 H2) :
  ACalls Tryz.prog W0 43 [va, .func (.func f) #[] cap] nx H fun v nx' H' => v = .bool (xs.all p) ∧ Ext nx H nx' H' := by
 obtain ⟨xa, xc, rfl⟩ := hx.slice;refine zl (fn := Tryz.f43) (c := _) Tryz.func43 rfl (fun tm n hn0 htm => ?_);have e0 : tm 0 = .slice xa xs.length xc := htm 0;have e1 : tm 1 = .func (.func f) #[] cap := htm 1;clear htm;replace hn0 : n = 18 := hn0;refine Trip.ok fun hok => ?_;replace hok : ∀ id o, H id = some o → id < nx := hok;refine z9I ?_
 refine zD (fun (i : Nat) s => ∃ (tm : Nat → Value) (nx' : Nat) (H' : Heap), s = ⟨tm, n, H', nx'⟩ ∧ Ext nx H nx' H' ∧
   tm 1 = .func (.func f) #[] cap ∧ tm 7 = .slice xa xs.length xc ∧ tm 8 = .int .i64 xs.length ∧ tm 9 = .int .i64 i ∧ i ≤ xs.length ∧ (xs.take i).all p = true) (fun i => xs.length - i) 0 ?_ ?_
 ·exact ⟨_, _, _, rfl, Ext.refl, stp, stp, stp, stp, zom, rfl⟩
 ·clear e0 e1;rintro i s ⟨tm, nx', H', rfl, hext, e1, e7, e8, e9, hi, hall⟩
  repeat (first | refine zd (by exact zev) ?_ | refine Trip.seq ?_ | refine zm ?_ | refine Trip.block ?_ | refine z3s (fun _ => ?_) (fun _ => ?_) | (refine Trip.skip ?_; (change Trip _ _ _ _ _)) | (refine OpsL.nil ?_; (change Trip _ _ _ _ _)))
  ·have hlt : i < xs.length := by omega
   obtain ⟨q, rfl, hc⟩ := zS hx hlt;replace hc := z1O hext hok hc;refine zcY ?_;refine zd (zg (k := 3) evr zxr rfl zxr hc) ?_;refine OpsL.new zsd (zB (l := rep 3 [.int .i64 0]) zxr) ?_;refine OpsL.upd (zw (k := 3) evr evr zxr rfl (o := .cells (e3 xs[i]) 0 none false (some 51)) (by simp [z5d, Heap.put, Value.cells, e3, rep, Value.oneCell'])) ?_;refine z7A ?_;refine zd (zg (k := 3) (vs := e3 xs[i]) evd zxr rfl zxr (zG zb rfl)) ?_;refine z15 (cap := cap) zsd evd evr hf (hp _ _ _ (hext.trans (zh.put (Nat.le_refl _)))) ?_;rintro v2 n2 H2 ⟨rfl, hx2⟩;replace hx2 := (hext.trans (zh.put (Nat.le_refl _))).trans hx2;cases hs : p xs[i]
   ·repeat (first | refine zd (by exact z8y) ?_ | (refine OpsL.nil ?_; (change Trip _ _ _ _ _)))
    refine zcV ?_;exact ⟨.inr rfl, _, zx, by simp [zk, zdj hlt hs], hx2⟩
   ·repeat (first | refine zd (by exact z8y) ?_ | (refine OpsL.nil ?_; (change Trip _ _ _ _ _)))
    refine zcN ?_;exact ⟨i + 1, ⟨_, _, _, rfl, hx2, stp, stp, stp, stp, zom, z85 hlt hall hs⟩, zom⟩
  ·repeat (first | refine zd (by exact z0E) ?_ | refine Trip.seq ?_ | refine zm ?_ | (refine Trip.exit ?_; ((repeat (refine z0e ?_)); change Trip _ _ _ _ _)) | (refine Trip.ret ?_; (dsimp only)) | (refine OpsL.nil ?_; (change Trip _ _ _ _ _)))
   have hi2 : i = xs.length := by omega
   subst hi2;rw [List.take_length] at hall;exact ⟨.inr rfl, _, zx, by simp [zk, hall], hext⟩
end Go.Proofs.YteplpegfcpmflaaGreat
namespace Go.Am
def z2S (r : R4) : R3 := (r.1, r.2.1, 0)
def z3F (r : R4) : R3 := (r.1, r.2.1, r.2.2.1)
def z47 (r : R3) : R3 := (r.1, r.2.1, 0)
def z6b (a : Aut) : List R3 := a.opens.map z2S ++ a.closes.map z3F ++ a.inners.map z47
def cuV (c : R3) : Value := .agg (e3 c).toArray
structure Dist (C l : List R3) : Prop where
 nodup : C.Nodup
 all : ∀ c, c ∈ C ↔ c ∈ l
theorem Dist.old {C l : List R3} {c : R3} (h : Dist C l) (hc : c ∈ C) : Dist C (l ++ [c]) := ⟨h.nodup, fun x => by
 rw [h.all, List.mem_append, List.mem_singleton];constructor
 ·exact .inl
 ·rintro (q | rfl)
  ·exact q
  ·exact (h.all _).1 hc⟩
theorem Dist.new {C l : List R3} {c : R3} (h : Dist C l) (hc : c ∉ C) : Dist (C ++ [c]) (l ++ [c]) := ⟨by
 rw [List.nodup_append];refine ⟨h.nodup, by simp, fun x hx y hy => ?_⟩;rw [List.mem_singleton] at hy;subst hy;exact fun e => hc (e ▸ hx), fun x => by rw [List.mem_append, List.mem_append, h.all]⟩
theorem zbq {α : Type} [DecidableEq α] : ∀ (l m : List α), l.Nodup → (∀ x ∈ l, x ∈ m) → l.length ≤ m.length := by
 intro l
 induction l with
 | nil => intro m _ _; simp
 | cons x l ih =>
  intro m hn h;obtain ⟨h1, h2⟩ := List.nodup_cons.1 hn;have hx := h x (by simp)
  have := ih (m.erase x) h2 (fun y hy => by
   have hne : y ≠ x := fun e => h1 (e ▸ hy);exact (List.mem_erase_of_ne hne).2 (h y (by simp [hy])))
  rw [List.length_erase_of_mem hx] at this;have := List.length_pos_of_mem hx;simp only [List.length_cons];omega
def z5N (l : List R3) : Nat := l.eraseDups.length
theorem z43 : ∀ (n : Nat) (l : List R3), l.length ≤ n → l.eraseDups.Nodup := by
 intro n
 induction n with
 | zero => intro l h; have : l = [] := List.eq_nil_of_length_eq_zero zom; subst this; simp
 | succ n ih =>
  intro l h;cases l with
  | nil => simp
  | cons x l =>
   rw [List.eraseDups_cons, List.nodup_cons];refine ⟨fun hm => ?_, ih _ (Nat.le_trans (List.length_filter_le _ _) (by simpa using h))⟩;rw [List.mem_eraseDups] at hm;simp at hm
theorem Dist.len {C l : List R3} (h : Dist C l) : C.length = z5N l := by
 have h2 := z43 l.length l (Nat.le_refl _);refine Nat.le_antisymm (zbq C _ h.nodup fun x hx => ?_) (zbq _ C h2 fun x hx => ?_)
 ·rw [List.mem_eraseDups]; exact (h.all x).1 hx
 ·rw [List.mem_eraseDups] at hx; exact (h.all x).2 hx
theorem z7P {α : Type} {f : α → R3} {l : List α} {i : Nat} (h : i < l.length) : (l.take (i + 1)).map f = (l.take i).map f ++ [f l[i]] := by
 rw [List.take_succ_eq_append_getElem h, List.map_append];rfl
end Go.Am
namespace Go.Proofs.YteplpegfcpmflaaGreat
open Go.RowKit Go.Am
attribute [local irreducible] aop OpsL Trip zI z2w OpsK OpsR
theorem z7r : Am.z0U Tryz.prog 28 := ⟨Tryz.f28, Tryz.func28, by kernel_rfl, by kernel_rfl⟩
theorem zil (H : Heap) (x y : R3) : aEq Tryz.prog H 60 112 (cuV x) (cuV y) = some (decide (x = y)) := by
 have h1 : Tryz.prog.stoodInHeld 112 = false := by kernel_rfl
 obtain ⟨a, b, c⟩ := x;obtain ⟨d, e, f⟩ := y
 have key : aEq Tryz.prog H 60 112 (cuV (a, b, c)) (cuV (d, e, f)) = some ((a == d) && ((b == e) && (c == f))) := by
  cases h : (a == d) <;> cases h2 : (b == e) <;> cases h3 : (c == f) <;> simp [cuV, Go.Am.e3, aEq, z27, z0D, z2y, h, h2, h3, h1, Tryz.underlying112, Tryz.underlying3]
 rw [key];congr 1;rw [Bool.eq_iff_iff];simp
theorem zci {v : R3 → Value} (H : Heap) (k : R3) : ∀ (l : List R3) (i : Nat), k ∉ l → z1i Tryz.prog H 112 (cuV k) (l.map fun t => (cuV t, v t)) i = some none := by
 intro l
 induction l with
 | nil => intro i _; rfl
 | cons t l ih =>
  intro i h;simp only [List.mem_cons, not_or] at h;simp only [List.map_cons, z1i, zil, decide_eq_false h.1];exact ih (i + 1) h.2
theorem zch {v : R3 → Value} (H : Heap) (k : R3) : ∀ (l : List R3) (i : Nat), k ∈ l → ∃ j, z1i Tryz.prog H 112 (cuV k) (l.map fun t => (cuV t, v t)) i = some (some (i + j, v k)) ∧ l[j]? = some k := by
 intro l
 induction l with
 | nil => intro i h; cases h
 | cons t l ih =>
  intro i h;by_cases e : k = t
  ·subst e;exact ⟨0, by simp only [List.map_cons, z1i, zil, decide_true]; rfl, rfl⟩
  ·obtain ⟨j, h1, h2⟩ := ih (i + 1) ((List.mem_cons.1 h).resolve_left e);refine ⟨j + 1, ?_, h2⟩;simp only [List.map_cons, z1i, zil, decide_eq_false e];rw [h1];congr 3;omega
theorem zhR (k : R3) (H : Heap) : z1l Tryz.prog 60 112 (cuV k) = true ∧ z8E H (cuV k) = true := ⟨by kernel_rfl, by kernel_rfl⟩
theorem zhQ (k : R3) : zM.veqk (cuV k) (cuV k) = true := by
 obtain ⟨a, b, c⟩ := k;simp [cuV, Go.Am.e3, zM.veqk, zM.eqs, zM.eq1]
theorem z82 {H : Heap} {m : Nat} {bs : List Nat} {clk : Nat} {C l : List R3} (hm : H m = some (.map (C.map fun t => (cuV t, .agg #[])) bs clk)) (hd : Dist C l) (k : R3) :
  ∃ C' bs' clk', Dist C' (l ++ [k]) ∧ zM Tryz.prog H 59 (.map (some m)) (cuV k) (.agg #[]) = some (.upd m (.map (C'.map fun t => (cuV t, .agg #[])) bs' clk')) := by
 obtain ⟨c1, c2⟩ := zhR k H;by_cases hk : k ∈ C
 ·obtain ⟨j, h1, h2⟩ := zch (v := fun _ => .agg #[]) H k C 0 hk;refine ⟨C, bs, clk, hd.old hk, ?_⟩;have h3 : (C.map fun t => ((cuV t, .agg #[]) : Value × Value))[0 + j]? = some (cuV k, .agg #[]) := by rw [List.getElem?_map, Nat.zero_add, h2]; rfl
  have h4 : (C.map fun t => ((cuV t, .agg #[]) : Value × Value)).set (0 + j) (cuV k, .agg #[]) = C.map fun t => ((cuV t, .agg #[]) : Value × Value) := by
   obtain ⟨hj, he⟩ := List.getElem?_eq_some_iff.1 h3;rw [← he, List.set_getElem_self]
  unfold zM;simp only [Tryz.underlying59, hm, c1, c2, show (Tryz.prog.underlying 112).isSome = true from rfl, and_self, if_true, h1, h3, zhQ, h4]
 ·refine ⟨C ++ [k], bs ++ [clk], clk + 1, hd.new hk, ?_⟩;unfold zM;simp only [Tryz.underlying59, hm, c1, c2, show (Tryz.prog.underlying 112).isSome = true from rfl, and_self, if_true, zci (v := fun _ => .agg #[]) H k C 0 hk, List.map_append, List.map_cons, List.map_nil]
theorem zhf (W0 : World) {nx : Nat} {H : Heap} {a : Aut} {vi vf vo vc vn : Value} (ha : AutIn H a vi vf vo vc vn) (hn : AutLen a) :
  ACalls Tryz.prog W0 28 [.agg (zy a vi vf vo vc vn).toArray] nx H fun v nx' H' => ∃ m C bs clk, v = .map (some m) ∧ H' m = some (.map (C.map fun t => (cuV t, .agg #[])) bs clk) ∧ Dist C (z6b a) ∧ Ext nx H nx' H' := by
 obtain ⟨oa, oc, rfl⟩ := ha.opens.slice;obtain ⟨ca, cc, rfl⟩ := ha.closes.slice;obtain ⟨na, nc, rfl⟩ := ha.inners.slice;refine zl (fn := Tryz.f28) (c := _) Tryz.func28 rfl (fun tm n hn0 htm => ?_);have e0 : tm 0 = .agg (zy a vi vf (.slice oa a.opens.length oc) (.slice ca a.closes.length cc) (.slice na a.inners.length nc)).toArray := htm 0;clear htm;replace hn0 : n = 59 := hn0;refine Trip.ok fun hok => ?_;replace hok : ∀ id o, H id = some o → id < nx := hok;refine z5L ?_;refine OpsL.new zsd (z0f evr) ?_;obtain ⟨G, hG⟩ : ∃ G, G = H.put nx (.cells (Value.agg (zy a vi vf (.slice oa a.opens.length oc) (.slice ca a.closes.length cc) (.slice na a.inners.length nc)).toArray).cells.toList 0 none false (some 30)) := ⟨_, rfl⟩;have hx0 : Ext nx H (nx + 1) G := by rw [hG]; exact zh
 have ok0 : ∀ id o, G id = some o → id < nx + 1 := by rw [hG]; exact zF hok
 have g0 : G nx = some (.cells (zy a vi vf (.slice oa a.opens.length oc) (.slice ca a.closes.length cc) (.slice na a.inners.length nc)) 0 none false (some 30)) := by rw [hG, zb]; rfl
 rw [← hG];clear hG e0;refine z8v ?_;refine OpsL.new zsd z2f ?_;obtain ⟨G1, hG1⟩ : ∃ G1, G1 = G.put (nx + 1) (.map [] [] 0) := ⟨_, rfl⟩;have x1 : Ext (nx + 1) G (nx + 1 + 1) G1 := by rw [hG1]; exact zh
 have ok1 : ∀ id o, G1 id = some o → id < nx + 1 + 1 := by rw [hG1]; exact zF ok0
 have gm : G1 (nx + 1) = some (.map [] [] 0) := by rw [hG1, zb]
 have g1 := (x1.2 nx zom).trans g0;rw [← hG1];clear hG1 g0;have hx1 := hx0.trans x1;have q4 := hn.opens;have q5 := hn.closes;have q6 := hn.inners;clear hx0 x1 ok0;have cl0 : zj G1 ⟨nx, 0 + 4, none⟩ (.slice oa a.opens.length oc) := by rw [Nat.zero_add]; exact ze g1 rfl
 refine zid ?_;refine Trip.mono (Q := fun e st => e = .exit 0 ∧ ∃ (tm' : Nat → Value) (J : Heap) (m : Nat) (C : List R3) (bs : List Nat) (clk : Nat), st = ⟨tm', n, J, m⟩ ∧ nx + 1 + 1 ≤ m ∧ (∀ j, j < nx + 1 → J j = G1 j) ∧ (∀ id o, J id = some o → id < m) ∧ J (nx + 1) = some (.map (C.map fun t => (cuV t, .agg #[])) bs clk) ∧ Dist C (a.opens.map z2S) ∧ tm' 1 = .pointer (some ⟨nx, 0, none⟩) ∧ tm' 3 = .map (some (nx + 1))) ?_ ?_
 ·refine zD (fun (i : Nat) st => ∃ (tm' : Nat → Value) (J : Heap) (m : Nat) (C : List R3) (bs : List Nat) (clk : Nat), st = ⟨tm', n, J, m⟩ ∧ nx + 1 + 1 ≤ m ∧ (∀ j, j < nx + 1 → J j = G1 j) ∧ (∀ id o, J id = some o → id < m) ∧ J (nx + 1) = some (.map (C.map fun t => (cuV t, .agg #[])) bs clk) ∧ Dist C ((a.opens.take i).map z2S) ∧ tm' 1 = .pointer (some ⟨nx, 0, none⟩) ∧ tm' 3 = .map (some (nx + 1)) ∧ tm' 12 = .slice oa a.opens.length oc ∧ tm' 13 = .int .i64 (a.opens.length : Int) ∧ tm' 14 = .int .i64 (i : Int) ∧ i ≤ a.opens.length) (fun i => a.opens.length - i) 0 ?_ ?_
  ·exact ⟨_, _, _, [], [], 0, rfl, Nat.le_refl _, fun _ _ => rfl, ok1, gm, ⟨List.nodup_nil, fun c => by simp⟩, stp, stp, stp, stp, stp, Nat.zero_le _⟩
  ·skip;rintro i st ⟨tm', J, m, C, bs, clk, rfl, hm, fr, okJ, hM, hd, e1, e3, ea, el, ei, hi⟩;have gJ := (fr nx zom).trans g1;by_cases hlt : i < a.opens.length
   case neg =>
    have hie : i = a.opens.length := by omega
    subst hie;rw [List.take_length] at hd;refine z9O ?_;exact ⟨rfl, _, J, m, C, bs, clk, rfl, hm, fr, okJ, hM, hd, stp, stp⟩
   case pos =>
    obtain ⟨p, hp, gr⟩ := zS (ha.ext (⟨zom, fun j hj => (fr j zom).trans (hx1.2 j hj)⟩ : Ext nx H m J) hok).opens hlt;subst hp;have htk := z7P (f := z2S) hlt;obtain ⟨r, hr⟩ : ∃ r, a.opens[i] = r := ⟨_, rfl⟩;rw [hr] at gr htk;refine zcT ?_;refine zd (zg (k := 4) (vs := Go.Am.e4 r) evr zxr rfl zxr gr) ?_;refine OpsL.new zsd (zB (l := [.int .i64 0, .int .i64 0, .int .i64 0, .int .i64 0]) krf) ?_;refine OpsL.upd (zw (k := 4) (u := .agg (Go.Am.e4 r).toArray) evd evd zxr rfl (o := .cells (Go.Am.e4 r) 0 none false (some 43)) (zC (vs := (Go.Am.e4 r)) zb rfl rfl)) ?_;obtain ⟨G4, hG4⟩ : ∃ G0, G0 = (J.put m (.cells [.int .i64 0, .int .i64 0, .int .i64 0, .int .i64 0] 0 none false (some 43))).put m (.cells (Go.Am.e4 r) 0 none false (some 43)) := ⟨_, rfl⟩;have xG4 : Ext m J (m + 1) G4 := ⟨Nat.le_succ _, fun j hj => by rw [hG4, za zom, za zom]⟩;have kG4 : ∀ id o, G4 id = some o → id < m + 1 := by rw [hG4]; exact zU (zF okJ) zb
    have bG4 : G4 m = some (.cells (Go.Am.e4 r) 0 none false (some 43)) := by rw [hG4, zb]
    first | rw [← hG4] | skip
    clear hG4;clear gr;have c0 : zj G4 ⟨m, 0 + 0, none⟩ (.int .i64 r.1) := by rw [Nat.zero_add]; exact ze bG4 rfl
    have c1 : zj G4 ⟨m, 0 + 1, none⟩ (.int .i64 r.2.1) := by rw [Nat.zero_add]; exact ze bG4 rfl
    have hM4 := (xG4.2 (nx + 1) zom).trans hM;obtain ⟨C', bs', clk', hd', hu⟩ := z82 hM4 hd (z2S r);refine zet ?_;refine zd (zE (v := cuV (z2S r)) (l := [(0, .int .i64 r.1), (1, .int .i64 r.2.1)]) zep krf) ?_;refine zd (zE (v := .agg #[]) (l := []) (by simp only [z0h]) krf) ?_;refine OpsL.upd (z1e evd evd evd hu) ?_;refine zfs ?_;exact ⟨i + 1, ⟨_, _, _, C', bs', clk', rfl, zom, fun j hj => by rw [za zom, xG4.2 j zom]; exact fr j hj, zU kG4 hM4, zb, by rw [htk]; exact hd', stp, stp, stp, stp, stp, zom⟩, zom⟩
 rintro e st ⟨rfl, tm1, J1, m1, C1, bs1, clk1, rfl, hm1, fr1, ok1d, hM1, hd1, e1, e3⟩;refine z5e ?_;have g11 := (fr1 nx zom).trans g1;have cl1 : zj J1 ⟨nx, 0 + 5, none⟩ (.slice ca a.closes.length cc) := by rw [Nat.zero_add]; exact ze g11 rfl
 refine zfN ?_;refine Trip.mono (Q := fun e st => e = .exit 2 ∧ ∃ (tm' : Nat → Value) (J : Heap) (m : Nat) (C : List R3) (bs : List Nat) (clk : Nat), st = ⟨tm', n, J, m⟩ ∧ nx + 1 + 1 ≤ m ∧ (∀ j, j < nx + 1 → J j = G1 j) ∧ (∀ id o, J id = some o → id < m) ∧ J (nx + 1) = some (.map (C.map fun t => (cuV t, .agg #[])) bs clk) ∧ Dist C (a.opens.map z2S ++ a.closes.map z3F) ∧ tm' 1 = .pointer (some ⟨nx, 0, none⟩) ∧ tm' 3 = .map (some (nx + 1))) ?_ ?_
 ·refine zD (fun (i : Nat) st => ∃ (tm' : Nat → Value) (J : Heap) (m : Nat) (C : List R3) (bs : List Nat) (clk : Nat), st = ⟨tm', n, J, m⟩ ∧ nx + 1 + 1 ≤ m ∧ (∀ j, j < nx + 1 → J j = G1 j) ∧ (∀ id o, J id = some o → id < m) ∧ J (nx + 1) = some (.map (C.map fun t => (cuV t, .agg #[])) bs clk) ∧ Dist C (a.opens.map z2S ++ (a.closes.take i).map z3F) ∧ tm' 1 = .pointer (some ⟨nx, 0, none⟩) ∧ tm' 3 = .map (some (nx + 1)) ∧ tm' 27 = .slice ca a.closes.length cc ∧ tm' 28 = .int .i64 (a.closes.length : Int) ∧ tm' 29 = .int .i64 (i : Int) ∧ i ≤ a.closes.length) (fun i => a.closes.length - i) 0 ?_ ?_
  ·exact ⟨_, _, _, C1, bs1, clk1, rfl, hm1, fr1, ok1d, hM1, by simpa using hd1, stp, stp, stp, stp, stp, Nat.zero_le _⟩
  ·clear e1 e3;rintro i st ⟨tm', J, m, C, bs, clk, rfl, hm, fr, okJ, hM, hd, e1, e3, ea, el, ei, hi⟩;have gJ := (fr nx zom).trans g1;by_cases hlt : i < a.closes.length
   case neg =>
    have hie : i = a.closes.length := by omega
    subst hie;rw [List.take_length] at hd;refine z9O ?_;exact ⟨rfl, _, J, m, C, bs, clk, rfl, hm, fr, okJ, hM, hd, stp, stp⟩
   case pos =>
    obtain ⟨p, hp, gr⟩ := zS (ha.ext (⟨zom, fun j hj => (fr j zom).trans (hx1.2 j hj)⟩ : Ext nx H m J) hok).closes hlt;subst hp;have htk := z7P (f := z3F) hlt;obtain ⟨r, hr⟩ : ∃ r, a.closes[i] = r := ⟨_, rfl⟩;rw [hr] at gr htk;refine zcT ?_;refine zd (zg (k := 4) (vs := Go.Am.e4 r) evr zxr rfl zxr gr) ?_;refine OpsL.new zsd (zB (l := [.int .i64 0, .int .i64 0, .int .i64 0, .int .i64 0]) krf) ?_;refine OpsL.upd (zw (k := 4) (u := .agg (Go.Am.e4 r).toArray) evd evd zxr rfl (o := .cells (Go.Am.e4 r) 0 none false (some 45)) (zC (vs := (Go.Am.e4 r)) zb rfl rfl)) ?_;obtain ⟨G4, hG4⟩ : ∃ G0, G0 = (J.put m (.cells [.int .i64 0, .int .i64 0, .int .i64 0, .int .i64 0] 0 none false (some 45))).put m (.cells (Go.Am.e4 r) 0 none false (some 45)) := ⟨_, rfl⟩;have xG4 : Ext m J (m + 1) G4 := ⟨Nat.le_succ _, fun j hj => by rw [hG4, za zom, za zom]⟩;have kG4 : ∀ id o, G4 id = some o → id < m + 1 := by rw [hG4]; exact zU (zF okJ) zb
    have bG4 : G4 m = some (.cells (Go.Am.e4 r) 0 none false (some 45)) := by rw [hG4, zb]
    first | rw [← hG4] | skip
    clear hG4;clear gr;have c0 : zj G4 ⟨m, 0 + 0, none⟩ (.int .i64 r.1) := by rw [Nat.zero_add]; exact ze bG4 rfl
    have c1 : zj G4 ⟨m, 0 + 1, none⟩ (.int .i64 r.2.1) := by rw [Nat.zero_add]; exact ze bG4 rfl
    have c2 : zj G4 ⟨m, 0 + 2, none⟩ (.int .i64 r.2.2.1) := by rw [Nat.zero_add]; exact ze bG4 rfl
    have hM4 := (xG4.2 (nx + 1) zom).trans hM;obtain ⟨C', bs', clk', hd', hu⟩ := z82 hM4 hd (z3F r);refine zet ?_;refine zd (zE (v := cuV (z3F r)) (l := [(0, .int .i64 r.1), (1, .int .i64 r.2.1), (2, .int .i64 r.2.2.1)]) zep krf) ?_;refine zd (zE (v := .agg #[]) (l := []) (by simp only [z0h]) krf) ?_;refine OpsL.upd (z1e evd evd evd hu) ?_;refine zfs ?_;exact ⟨i + 1, ⟨_, _, _, C', bs', clk', rfl, zom, fun j hj => by rw [za zom, xG4.2 j zom]; exact fr j hj, zU kG4 hM4, zb, by rw [htk, ← List.append_assoc]; exact hd', stp, stp, stp, stp, stp, zom⟩, zom⟩
 rintro e st ⟨rfl, tm2, J2, m2, C2, bs2, clk2, rfl, hm2, fr2, ok2d, hM2, hd2, e1, e3⟩;refine z5e ?_;have g12 := (fr2 nx zom).trans g1;have cl2 : zj J2 ⟨nx, 0 + 6, none⟩ (.slice na a.inners.length nc) := by rw [Nat.zero_add]; exact ze g12 rfl
 refine zfN ?_;refine Trip.mono (Q := fun e st => e = .exit 4 ∧ ∃ (tm' : Nat → Value) (J : Heap) (m : Nat) (C : List R3) (bs : List Nat) (clk : Nat), st = ⟨tm', n, J, m⟩ ∧ nx + 1 + 1 ≤ m ∧ (∀ j, j < nx + 1 → J j = G1 j) ∧ (∀ id o, J id = some o → id < m) ∧ J (nx + 1) = some (.map (C.map fun t => (cuV t, .agg #[])) bs clk) ∧ Dist C (a.opens.map z2S ++ a.closes.map z3F ++ a.inners.map z47) ∧ tm' 1 = .pointer (some ⟨nx, 0, none⟩) ∧ tm' 3 = .map (some (nx + 1))) ?_ ?_
 ·refine zD (fun (i : Nat) st => ∃ (tm' : Nat → Value) (J : Heap) (m : Nat) (C : List R3) (bs : List Nat) (clk : Nat), st = ⟨tm', n, J, m⟩ ∧ nx + 1 + 1 ≤ m ∧ (∀ j, j < nx + 1 → J j = G1 j) ∧ (∀ id o, J id = some o → id < m) ∧ J (nx + 1) = some (.map (C.map fun t => (cuV t, .agg #[])) bs clk) ∧ Dist C (a.opens.map z2S ++ a.closes.map z3F ++ (a.inners.take i).map z47) ∧ tm' 1 = .pointer (some ⟨nx, 0, none⟩) ∧ tm' 3 = .map (some (nx + 1)) ∧ tm' 44 = .slice na a.inners.length nc ∧ tm' 45 = .int .i64 (a.inners.length : Int) ∧ tm' 46 = .int .i64 (i : Int) ∧ i ≤ a.inners.length) (fun i => a.inners.length - i) 0 ?_ ?_
  ·exact ⟨_, _, _, C2, bs2, clk2, rfl, hm2, fr2, ok2d, hM2, by simpa using hd2, stp, stp, stp, stp, stp, Nat.zero_le _⟩
  ·clear e1 e3;rintro i st ⟨tm', J, m, C, bs, clk, rfl, hm, fr, okJ, hM, hd, e1, e3, ea, el, ei, hi⟩;have gJ := (fr nx zom).trans g1;by_cases hlt : i < a.inners.length
   case neg =>
    have hie : i = a.inners.length := by omega
    subst hie;rw [List.take_length] at hd;refine z9O ?_;exact ⟨rfl, _, J, m, C, bs, clk, rfl, hm, fr, okJ, hM, hd, stp, stp⟩
   case pos =>
    obtain ⟨p, hp, gr⟩ := zS (ha.ext (⟨zom, fun j hj => (fr j zom).trans (hx1.2 j hj)⟩ : Ext nx H m J) hok).inners hlt;subst hp;have htk := z7P (f := z47) hlt;obtain ⟨r, hr⟩ : ∃ r, a.inners[i] = r := ⟨_, rfl⟩;rw [hr] at gr htk;refine zcT ?_;refine zd (zg (k := 3) (vs := Go.Am.e3 r) evr zxr rfl zxr gr) ?_;refine OpsL.new zsd (zB (l := [.int .i64 0, .int .i64 0, .int .i64 0]) krf) ?_;refine OpsL.upd (zw (k := 3) (u := .agg (Go.Am.e3 r).toArray) evd evd zxr rfl (o := .cells (Go.Am.e3 r) 0 none false (some 51)) (zC (vs := (Go.Am.e3 r)) zb rfl rfl)) ?_;obtain ⟨G4, hG4⟩ : ∃ G0, G0 = (J.put m (.cells [.int .i64 0, .int .i64 0, .int .i64 0] 0 none false (some 51))).put m (.cells (Go.Am.e3 r) 0 none false (some 51)) := ⟨_, rfl⟩;have xG4 : Ext m J (m + 1) G4 := ⟨Nat.le_succ _, fun j hj => by rw [hG4, za zom, za zom]⟩;have kG4 : ∀ id o, G4 id = some o → id < m + 1 := by rw [hG4]; exact zU (zF okJ) zb
    have bG4 : G4 m = some (.cells (Go.Am.e3 r) 0 none false (some 51)) := by rw [hG4, zb]
    first | rw [← hG4] | skip
    clear hG4;clear gr;have c0 : zj G4 ⟨m, 0 + 0, none⟩ (.int .i64 r.1) := by rw [Nat.zero_add]; exact ze bG4 rfl
    have c1 : zj G4 ⟨m, 0 + 1, none⟩ (.int .i64 r.2.1) := by rw [Nat.zero_add]; exact ze bG4 rfl
    have hM4 := (xG4.2 (nx + 1) zom).trans hM;obtain ⟨C', bs', clk', hd', hu⟩ := z82 hM4 hd (z47 r);refine zet ?_;refine zd (zE (v := cuV (z47 r)) (l := [(0, .int .i64 r.1), (1, .int .i64 r.2.1)]) zep krf) ?_;refine zd (zE (v := .agg #[]) (l := []) (by simp only [z0h]) krf) ?_;refine OpsL.upd (z1e evd evd evd hu) ?_;refine zfs ?_;exact ⟨i + 1, ⟨_, _, _, C', bs', clk', rfl, zom, fun j hj => by rw [za zom, xG4.2 j zom]; exact fr j hj, zU kG4 hM4, zb, by rw [htk, ← List.append_assoc]; exact hd', stp, stp, stp, stp, stp, zom⟩, zom⟩
 rintro e st ⟨rfl, tm3, J3, m3, C3, bs3, clk3, rfl, hm3, fr3, ok3d, hM3, hd3, e1, e3⟩;refine z5e ?_;have hx3 : Ext nx H m3 J3 := ⟨zom, fun j hj => (fr3 j zom).trans (hx1.2 j hj)⟩;refine zcU ?_;exact ⟨.inr rfl, _, zx, nx + 1, C3, bs3, clk3, stp, hM3, hd3, hx3⟩
end Go.Proofs.YteplpegfcpmflaaGreat
namespace Go.Am
open Go.RowKit
section
variable {P : Program} {H : Heap} {nx : Nat} {ev : Operand → Option Value} {dst : Option Tmp} {type : TypeId} {pos : String} {after : Array Edge} {guard : Option (Nat × Bool)}
theorem z8g {t : TypeId} {m k : Operand} {a b : Value} {r : Value × Eff} (hm : ev m = some a) (hk : ev k = some b) (h : z2F P H t a b = some r) : aop P H nx ev ⟨dst, .mapEntry t m k, type, pos, after, guard⟩ = some r := by simp [aop, hm, hk, h]
theorem z6M {t : TypeId} {m s x : Operand} {a b c : Value} {e : Eff} (hm : ev m = some a) (hs : ev s = some b) (hx : ev x = some c) (h : z25 H a b c = some e) : aop P H nx ev ⟨dst, .entryStore t m s x, type, pos, after, guard⟩ = some (undef, e) := by simp [aop, hm, hs, hx, h]
end
theorem zef {P : Program} {W0 : World} {ops : Array Oper} {H : Heap} {nx n d k : Nat} {op : Op} {type : TypeId} {pos : String} {after : Array Edge} {l : List Oper} {tm : Nat → Value} {QQ : ASt → Prop} {v : Value} {o : AObj} (hd : d < n) (hop : aop P H nx (ASt.ev ⟨tm, n, H, nx⟩) ⟨some d, op, type, pos, after, none⟩ = some (v, .upd k o)) (h : OpsL P W0 ops l ⟨zk tm (some d) v, n, H.put k o, nx⟩ QQ) : OpsL P W0 ops (⟨some d, op, type, pos, after, none⟩ :: l) ⟨tm, n, H, nx⟩ QQ :=
 zdm hd hop h
structure WE where
 k : Thg
 v : Value
 ob : Option (Nat × Nat)
 l : List R4
def weV (x : WE) : Value × Value := (thV x.k, x.v)
def z4K (ms : List R4) (t : Thg) : List R4 := ms.filter fun m => decide (t ∈ z01 m)
def z4L (ms : List R4) (m : R4) (j : Nat) (t : Thg) : List R4 := z4K ms t ++ if t ∈ (z01 m).take j then [m] else []
theorem zbY (ms : List R4) (m : R4) : z4L ms m 0 = z4K ms := by funext t; simp [z4L]
theorem zdG (ms : List R4) (m : R4) : z4L ms m 2 = z4K (ms ++ [m]) := by
 funext t;unfold z4L z4K;rw [List.filter_append];by_cases h : t ∈ z01 m
 ·simp [h, List.take_of_length_le (show (z01 m).length ≤ 2 from Nat.le_refl _)]
 ·simp [h, List.take_of_length_le (show (z01 m).length ≤ 2 from Nat.le_refl _)]
theorem zdH (ms : List R4) (m : R4) (j : Nat) (t : Thg) : (z4L ms m j t).length ≤ ms.length + 1 := by
 unfold z4L z4K;have := List.length_filter_le (fun m => decide (t ∈ z01 m)) ms;rw [List.length_append];split <;> simp <;> omega
def zfu (f : Thg → List R4) (t : Thg) (l : List R4) : Thg → List R4 := fun x => if x = t then l else f x
theorem zbZ (ms : List R4) (m : R4) {j : Nat} (hj : j < 2) : z4L ms m (j + 1) = zfu (z4L ms m j) ((z01 m)[j]'hj) (z4L ms m j ((z01 m)[j]'hj) ++ [m]) := by
 funext t;obtain ⟨a, b, c, d⟩ := m
 match j, hj with
 | 0, _ => by_cases h : t = (0, a) <;> simp [z4L, zfu, z01, h]
 | 1, _ =>
  by_cases h : t = (1, b)
  ·subst h; simp [z4L, zfu, z01]
  ·by_cases h2 : t = (0, a) <;> simp [z4L, zfu, z01, h, h2]
end Go.Am
namespace Go.Proofs.YteplpegfcpmflaaGreat
open Go.RowKit Go.Am
attribute [local irreducible] aop OpsL Trip zI z2w OpsK OpsR
theorem z55 : Am.z0U Tryz.prog 58 := ⟨Tryz.f58, Tryz.func58, by kernel_rfl, by kernel_rfl⟩
theorem zdv (H : Heap) (k : Thg) : ∀ (W : List WE) (i : Nat), k ∉ W.map (·.k) → z1i Tryz.prog H 101 (thV k) (W.map weV) i = some none := by
 intro W
 induction W with
 | nil => intro i _; rfl
 | cons t W ih =>
  intro i h;simp only [List.map_cons, List.mem_cons, not_or] at h;simp only [List.map_cons, weV, z1i, zgO, decide_eq_false h.1];exact ih (i + 1) h.2
theorem zdu (H : Heap) : ∀ (W : List WE) (i j : Nat) (hj : j < W.length), (W.map (·.k)).Nodup → z1i Tryz.prog H 101 (thV W[j].k) (W.map weV) i = some (some (i + j, W[j].v)) := by
 intro W
 induction W with
 | nil => intro i j hj; simp at hj
 | cons t W ih =>
  intro i j hj hn;rw [List.map_cons, List.nodup_cons] at hn;cases j with
  | zero => simp only [List.map_cons, weV, z1i, zgO, List.getElem_cons_zero, decide_true, Nat.add_zero]
  | succ j =>
   have hj' : j < W.length := by simpa using hj
   have hne : W[j].k ≠ t.k := fun e => hn.1 (by rw [← e]; exact List.mem_map.2 ⟨_, List.getElem_mem hj', rfl⟩);simp only [List.map_cons, weV, z1i, zgO, List.getElem_cons_succ, decide_eq_false hne];rw [show i + (j + 1) = i + 1 + j by omega];exact ih (i + 1) j hj' hn.2
structure WaitIn (H : Heap) (base mr nx : Nat) (f : Thg → List R4) (W : List WE) : Prop where
 cell : H mr = some (.map (W.map weV) (List.range W.length) W.length)
 nodup : (W.map (·.k)).Nodup
 own : ∀ x ∈ W, zcQ H x.ob x.v x.l
 val : ∀ x ∈ W, x.l = f x.k
 out : ∀ t, t ∉ W.map (·.k) → f t = []
 blk : ∀ x ∈ W, ∀ b t, x.ob = some (b, t) → base ≤ b ∧ b < nx ∧ b ≠ mr
 sep : ∀ (i j : Nat) (hi : i < W.length) (hj : j < W.length), i ≠ j → ∀ b t b' t', W[i].ob = some (b, t) → W[j].ob = some (b', t') → b ≠ b'
 hmr : base ≤ mr ∧ mr < nx
theorem WaitIn.ext {H H' : Heap} {base mr nx nx' : Nat} {f : Thg → List R4} {W : List WE} (h : WaitIn H base mr nx f W) (hx : Ext nx H nx' H') : WaitIn H' base mr nx' f W :=
 ⟨by rw [hx.2 mr h.hmr.2]; exact h.cell, h.nodup, fun x hm => OwnOf.ext hx (fun b t e => (h.blk x hm b t e).2.1) (h.own x hm), h.val, h.out, fun x hm b t e => by have := h.blk x hm b t e; have := hx.1; omega, h.sep, by have := h.hmr; have := hx.1; omega⟩
theorem WaitIn.entry {H : Heap} {base mr nx : Nat} {f : Thg → List R4} {W : List WE} (h : WaitIn H base mr nx f W) (t : Thg) :
  ∃ (W' : List WE) (j : Nat) (hj : j < W'.length), W'[j].k = t ∧ z2F Tryz.prog H 96 (.map (some mr)) (thV t) = some (.tuple #[W'[j].v, .int .i64 j], .upd mr (.map (W'.map weV) (List.range W'.length) W'.length)) ∧
   WaitIn (H.put mr (.map (W'.map weV) (List.range W'.length) W'.length)) base mr nx f W' ∧ ∀ x ∈ W', ∀ b t, x.ob = some (b, t) → ∃ y ∈ W, y.ob = some (b, t) := by
 obtain ⟨c1, c2, c3⟩ := z8I t H;have hrow : ∀ (W' : List WE), (∀ x ∈ W', ∀ b t, x.ob = some (b, t) → base ≤ b ∧ b < nx ∧ b ≠ mr) → ∀ x ∈ W', zcQ H x.ob x.v x.l → zcQ (H.put mr (.map (W'.map weV) (List.range W'.length) W'.length)) x.ob x.v x.l := fun W' hb x hx ho => OwnRow.same (fun b t e => za (hb x hx b t e).2.2) ho;by_cases hin : t ∈ W.map (·.k)
 ·obtain ⟨x, hx, hxk⟩ := List.mem_map.1 hin;obtain ⟨j, hj, hje⟩ := List.getElem_of_mem hx;have hk : W[j].k = t := by rw [hje]; exact hxk
  refine ⟨W, j, hj, hk, ?_, ⟨zb, h.nodup, fun x hx => hrow W h.blk x hx (h.own x hx), h.val, h.out, h.blk, h.sep, h.hmr⟩, fun x hx b t e => ⟨x, hx, e⟩⟩;have hf := zdu H W 0 j hj h.nodup;rw [hk, Nat.zero_add] at hf;have hes : (W.map weV)[j]? = some (thV t, W[j].v) := by rw [List.getElem?_map, List.getElem?_eq_getElem hj]; simp [weV, hk]
  have hbs : (List.range W.length)[j]? = some j := by rw [List.getElem?_range hj]
  have hset : (W.map weV).set j (thV t, W[j].v) = W.map weV := by
   apply List.ext_getElem?;intro i;rw [List.getElem?_set];split
   ·rename_i e;subst e;rw [hes];split
    ·rfl
    ·rename_i h'; simp at h'; omega
   ·rfl
  have hv : zM.veqk (thV t) (thV t) = true := by obtain ⟨a, b⟩ := t; simp [zM.veqk, thV, z1A, zM.eqs, zM.eq1]
  unfold z2F;simp only [Tryz.underlying96, h.cell, c1, c3, show (Tryz.prog.underlying 101).isSome = true from rfl, and_self, if_true, hf, hes, hbs, hv, hset];rfl
 ·have hk : (W ++ [(⟨t, .slice none 0 0, none, []⟩ : WE)]).length = W.length + 1 := by simp
  refine ⟨W ++ [⟨t, .slice none 0 0, none, []⟩], W.length, zom, by simp, ?_, ?_, fun x hx b t' e => ?_⟩
  rotate_left 2
  ·rcases List.mem_append.1 hx with hx | hx
   ·exact ⟨x, hx, e⟩
   ·rw [List.mem_singleton] at hx; subst hx; cases e
  ·have hf := zdv H t W 0 hin;unfold z2F;simp only [Tryz.underlying96, h.cell, c1, c3, show (Tryz.prog.underlying 101).isSome = true from rfl, and_self, if_true, hf, show z6U Tryz.prog 98 = some (.slice none 0 0) from rfl];simp [weV, List.range_succ];rfl
  ·have hbk : ∀ x ∈ W ++ [(⟨t, .slice none 0 0, none, []⟩ : WE)], ∀ b t, x.ob = some (b, t) → base ≤ b ∧ b < nx ∧ b ≠ mr := fun x hx b t' e => by
    rcases List.mem_append.1 hx with hx | hx
    ·exact h.blk x hx b t' e
    ·rw [List.mem_singleton] at hx; subst hx; cases e
   refine ⟨zb, ?_, fun x hx => hrow _ hbk x hx ?_, fun x hx => ?_, fun t' ht' => h.out t' fun hh => ht' (by rw [List.map_append]; exact List.mem_append.2 (.inl hh)), hbk, fun i j hi hj hij b tt b' tt' e1 e2 => ?_, h.hmr⟩
   ·rw [List.map_append, List.nodup_append];refine ⟨h.nodup, by simp, fun a ha b hb => ?_⟩;simp at hb;subst hb;exact fun e => hin (by rw [← e]; exact ha)
   ·rcases List.mem_append.1 hx with hx | hx
    ·exact h.own x hx
    ·rw [List.mem_singleton] at hx; subst hx; exact ⟨rfl, rfl, rfl⟩
   ·rcases List.mem_append.1 hx with hx | hx
    ·exact h.val x hx
    ·rw [List.mem_singleton] at hx; subst hx; exact (h.out t hin).symm
   ·by_cases hi' : i < W.length
    ·by_cases hj' : j < W.length
     ·rw [List.getElem_append_left hi'] at e1;rw [List.getElem_append_left hj'] at e2;exact h.sep i j hi' hj' hij b tt b' tt' e1 e2
     ·rw [List.getElem_append_right zom] at e2;simp at e2
    ·rw [List.getElem_append_right zom] at e1;simp at e1
theorem zcf (n j : Nat) (hj : j < n) : (List.range n).findIdx? (fun (b : Nat) => decide ((b : Int) = (j : Int))) = some j := by
 rw [List.findIdx?_eq_some_iff_getElem];refine ⟨by simpa using hj, by simp, fun i hi => ?_⟩;simp;omega
theorem WaitIn.store {H HA H1 : Heap} {base mr nx nxA nx1 : Nat} {f : Thg → List R4} {W : List WE} {j : Nat} (h : WaitIn H base mr nx f W) (hj : j < W.length) (hxA : Ext nx H nxA HA) {m : R4} {v' : Value} {ob' : Option (Nat × Nat)}
  (hA : AppO Go.Am.e4 4 106 nxA HA W[j].ob (W[j].l ++ [m]) v' nx1 H1 ob') :
  ∃ W', z25 H1 (.map (some mr)) (.int .i64 j) v' = some (.upd mr (.map (W'.map weV) (List.range W'.length) W'.length)) ∧ WaitIn (H1.put mr (.map (W'.map weV) (List.range W'.length) W'.length)) base mr nx1 (zfu f W[j].k (f W[j].k ++ [m])) W' ∧ (∀ i, i < base → H1 i = HA i) ∧ ∀ x ∈ W', ∀ b t, x.ob = some (b, t) → nxA ≤ b ∨ ∃ y ∈ W, ∃ t', y.ob = some (b, t') := by
 have hmr := h.hmr;have hle := hxA.1;have hle1 := hA.le;have hbj := h.blk _ (List.getElem_mem hj)
 have hnm : ∀ b t, ob' = some (b, t) → base ≤ b ∧ b < nx1 ∧ b ≠ mr ∧ (nxA ≤ b ∨ ∃ t', W[j].ob = some (b, t')) := fun b t e => by
  obtain ⟨q1, q2⟩ := hA.blk b t e;rcases q2 with rfl | ⟨t', h'⟩
  ·exact ⟨zom, q1, zom, .inl (Nat.le_refl _)⟩
  ·have := hbj _ _ h'; exact ⟨this.1, q1, this.2.2, .inr ⟨t', h'⟩⟩
 have hcell : H1 mr = some (.map (W.map weV) (List.range W.length) W.length) := by
  rw [hA.same mr zom (fun b t e => (hbj b t e).2.2.symm), hxA.2 mr hmr.2];exact h.cell
 refine ⟨W.set j ⟨W[j].k, v', ob', W[j].l ++ [m]⟩, ?_, ?_, fun i hi => hA.same i zom (fun b t e => by have := (hbj b t e).1; omega), fun x hx b t e => ?_⟩
 rotate_left 2
 ·rcases List.mem_or_eq_of_mem_set hx with hx | rfl
  ·exact .inr ⟨x, hx, t, e⟩
  ·rcases (hnm b t e).2.2.2 with hq | ⟨t2, hq⟩
   ·exact .inl hq
   ·exact .inr ⟨_, List.getElem_mem hj, t2, hq⟩
 ·have hes : (W.map weV)[j]? = some (thV W[j].k, W[j].v) := by rw [List.getElem?_map, List.getElem?_eq_getElem hj]; rfl
  unfold z25;simp only [hcell, zcf _ _ hj, hes, List.length_set, List.map_set];rfl
 ·have hkeys : (W.set j (⟨W[j].k, v', ob', W[j].l ++ [m]⟩ : WE)).map (·.k) = W.map (·.k) := by
   rw [List.map_set];apply List.ext_getElem?;intro i;rw [List.getElem?_set];split
   ·rename_i e;subst e;rw [List.getElem?_map, List.getElem?_eq_getElem hj];simp [hj]
   ·rfl
  have hget : ∀ (i : Nat) (hi : i < (W.set j (⟨W[j].k, v', ob', W[j].l ++ [m]⟩ : WE)).length), (i = j ∧ (W.set j (⟨W[j].k, v', ob', W[j].l ++ [m]⟩ : WE))[i] = ⟨W[j].k, v', ob', W[j].l ++ [m]⟩) ∨ (i ≠ j ∧ (W.set j (⟨W[j].k, v', ob', W[j].l ++ [m]⟩ : WE))[i] = W[i]'(by simpa using hi)) := fun i hi => by
   rw [List.getElem_set];by_cases e : j = i
   ·exact .inl ⟨e.symm, by rw [if_pos e]⟩
   ·exact .inr ⟨fun e' => e e'.symm, by rw [if_neg e]⟩
  have hpm : ∀ {x : WE} , zcQ H1 x.ob x.v x.l → (∀ b t, x.ob = some (b, t) → b ≠ mr) → ∀ o, zcQ (H1.put mr o) x.ob x.v x.l := fun {x} h1 h2 o => OwnRow.same (fun b t e => za (h2 b t e)) h1;refine ⟨zb, by rw [hkeys]; exact h.nodup, fun x hx => ?_, fun x hx => ?_, fun t ht => ?_, fun x hx b t e => ?_, fun a c ha hc hac b t b' t' e1 e2 => ?_, zom⟩
  ·obtain ⟨i, hi, rfl⟩ := List.getElem_of_mem hx;have hi' : i < W.length := by simpa using hi
   rcases hget i hi with ⟨e, hg⟩ | ⟨e, hg⟩
   ·rw [hg]; exact hpm (x := ⟨W[j].k, v', ob', W[j].l ++ [m]⟩) hA.own (fun b t e => (hnm b t e).2.2.1) _
   ·rw [hg];refine hpm ?_ (fun b t e => (h.blk _ (List.getElem_mem hi') b t e).2.2) _;refine OwnRow.same (fun b t e1 => ?_) (h.own _ (List.getElem_mem hi'));have hb := h.blk _ (List.getElem_mem hi') b t e1;rw [hA.same b zom (fun b' t' e2 => h.sep i j hi' hj e b t b' t' e1 e2), hxA.2 b hb.2.1]
  ·obtain ⟨i, hi, rfl⟩ := List.getElem_of_mem hx;have hi' : i < W.length := by simpa using hi
   rcases hget i hi with ⟨e, hg⟩ | ⟨e, hg⟩
   ·rw [hg];simp [zfu, h.val _ (List.getElem_mem hj)]
   ·rw [hg, h.val _ (List.getElem_mem hi')]
    have hne : W[i].k ≠ W[j].k := fun ek => by
     have h1 : (W.map (·.k))[i]'(by simpa using hi') = W[i].k := by simp
     have h2 : (W.map (·.k))[j]'(by simpa using hj) = W[j].k := by simp
     have hp := List.pairwise_iff_getElem.1 h.nodup;rcases Nat.lt_or_gt_of_ne e with hl | hl
     ·exact hp i j (by simpa using hi') (by simpa using hj) hl (by rw [h1, h2]; exact ek)
     ·exact hp j i (by simpa using hj) (by simpa using hi') hl (by rw [h1, h2]; exact ek.symm)
    simp [zfu, hne]
  ·rw [hkeys] at ht;have hne : t ≠ W[j].k := fun e => ht (by rw [e]; exact List.mem_map.2 ⟨_, List.getElem_mem hj, rfl⟩);simp [zfu, hne, h.out t ht]
  ·obtain ⟨i, hi, rfl⟩ := List.getElem_of_mem hx;have hi' : i < W.length := by simpa using hi
   rcases hget i hi with ⟨e', hg⟩ | ⟨e', hg⟩
   ·rw [hg] at e; have := hnm b t e; exact ⟨this.1, this.2.1, this.2.2.1⟩
   ·rw [hg] at e; have := h.blk _ (List.getElem_mem hi') b t e; exact ⟨this.1, zom, this.2.2⟩
  ·have ha' : a < W.length := by simpa using ha
   have hc' : c < W.length := by simpa using hc
   rcases hget a ha with ⟨ea, ga⟩ | ⟨ea, ga⟩ <;> rcases hget c hc with ⟨ec, gc⟩ | ⟨ec, gc⟩
   ·omega
   ·rw [ga] at e1; rw [gc] at e2;have hb2 := h.blk _ (List.getElem_mem hc') b' t' e2;rcases (hnm b t e1).2.2.2 with hq | ⟨t2, hq⟩
    ·omega
    ·exact h.sep j c hj hc' (fun e => ec e.symm) b t2 b' t' hq e2
   ·rw [ga] at e1; rw [gc] at e2;have hb2 := h.blk _ (List.getElem_mem ha') b t e1;rcases (hnm b' t' e2).2.2.2 with hq | ⟨t2, hq⟩
    ·omega
    ·exact h.sep a j ha' hj ea b t b' t2 e1 hq
   ·rw [ga] at e1; rw [gc] at e2;exact h.sep a c ha' hc' hac b t b' t' e1 e2
theorem zbd (W0 : World) {nx : Nat} {H : Heap} {v : Value} {ms : List R4} (hr : RowsAt Go.Am.e4 4 H v ms) (hm : ms.length ≤ 3000) :
  ACalls Tryz.prog W0 58 [v] nx H fun v' nx' H' => ∃ W, v' = .map (some nx) ∧ WaitIn H' nx nx nx' (z4K ms) W ∧ Ext nx H nx' H' := by
 obtain ⟨va, vc, rfl⟩ := hr.slice;refine zl (fn := Tryz.f58) (c := _) Tryz.func58 rfl (fun tm n hn0 htm => ?_);have q0 : tm 0 = .slice va ms.length vc := htm 0;clear htm;replace hn0 : n = 31 := hn0;refine Trip.ok fun hok => ?_;replace hok : ∀ id o, H id = some o → id < nx := hok;refine z8v ?_;refine OpsL.new zsd z2f ?_;have hx0 : Ext nx H (nx + 1) (H.put nx (.map [] [] 0)) := zh;have hok0 := zF (o := .map [] [] 0) hok;have hw0 : WaitIn (H.put nx (.map [] [] 0)) nx nx (nx + 1) (z4K []) [] := ⟨zb, List.nodup_nil, fun x h => (by cases h), fun x h => (by cases h), fun _ _ => rfl, fun x h => (by cases h), fun i j hi => by simp at hi, ⟨Nat.le_refl _, Nat.lt_succ_self _⟩⟩;generalize H.put nx (.map [] [] 0) = G at *;refine z9I ?_;refine zD (fun (i : Nat) st => ∃ (tm' : Nat → Value) (nx' : Nat) (H' : Heap) (W : List WE), st = ⟨tm', n, H', nx'⟩ ∧ Ext nx H nx' H' ∧ (∀ id o, H' id = some o → id < nx') ∧ WaitIn H' nx nx nx' (z4K (ms.take i)) W ∧ tm' 3 = .map (some nx) ∧ tm' 9 = .slice va ms.length vc ∧ tm' 10 = .int .i64 ms.length ∧ tm' 11 = .int .i64 i ∧ i ≤ ms.length) (fun i => ms.length - i) 0 ?_ ?_
 ·exact ⟨_, _, _, [], rfl, hx0, hok0, hw0, stp, stp, stp, stp, Nat.zero_le _⟩
 ·clear q0;rintro i st ⟨tm, nx', H', W, rfl, hx, hok', hw, q3, q9, q10, q11, hi⟩;by_cases hlt : i < ms.length
  ·obtain ⟨p, rfl, g⟩ := zS (hr.ext hx hok) hlt;have hst : ms.take (i + 1) = ms.take i ++ [ms[i]] := List.take_succ_eq_append_getElem hlt;have hmr := hw.hmr.2;generalize ms[i] = m at *;refine zcT ?_;refine zd (zg (k := 4) (vs := Go.Am.e4 m) evr zxr rfl zxr g) ?_;refine OpsL.new zsd (zB (l := rep 4 [.int .i64 0]) zxr) ?_;refine OpsL.upd (zw (k := 4) (u := .agg (Go.Am.e4 m).toArray) evd evd zxr rfl (o := .cells (Go.Am.e4 m) 0 none false (some 106)) (zC (vs := Go.Am.e4 m) zb rfl rfl)) ?_;obtain ⟨G4, hG4⟩ : ∃ G4, G4 = (H'.put nx' (.cells (rep 4 [.int .i64 0]) 0 none false (some 106))).put nx' (.cells (Go.Am.e4 m) 0 none false (some 106)) := ⟨_, rfl⟩;have hx4 : Ext nx' H' (nx' + 1) G4 := ⟨Nat.le_succ _, fun j hj => by rw [hG4, za zom, za zom]⟩;have hok4 : ∀ id o, G4 id = some o → id < nx' + 1 := by rw [hG4]; exact zU (zF hok') zb
   have hb4 : G4 nx' = some (.cells (Go.Am.e4 m) 0 none false (some 106)) := by rw [hG4, zb]
   first | rw [← hG4] | skip
   clear hG4;refine zfn ?_;refine zd (zg (k := 4) (vs := Go.Am.e4 m) evd zxr rfl zxr (zG hb4 rfl)) ?_;refine z0c (hf := z6z) (hc := (zfD W0 m).ok) (h := ?_);rintro v1 n1 H1 ⟨⟨rfl, x1⟩, ok1⟩;have hx1 := (hx.trans hx4).trans x1;have hw1 := (hw.ext hx4).ext x1;have hb1 : H1 nx' = some (.cells (Go.Am.e4 m) 0 none false (some 106)) := (x1.2 nx' (Nat.lt_succ_self _)).trans hb4;have hob1 : ∀ x ∈ W, ∀ b t, x.ob = some (b, t) → b ≠ nx' := fun x hx b t e => by have := hw.blk x hx b t e; omega
   have hle1 := x1.1;have hn2 : (z01 m).length = 2 := rfl;clear hw hb4 hx4 x1 hok4 g
   repeat (first | refine zd (by exact omv) ?_ | refine Trip.block ?_ | (refine OpsL.nil ?_; (change Trip _ _ _ _ _)))
   refine Trip.mono (Q := fun e st => e = .exit 2 ∧ ∃ (tm' : Nat → Value) (nx2 : Nat) (H2 : Heap) (W2 : List WE), st = ⟨tm', n, H2, nx2⟩ ∧ Ext nx H nx2 H2 ∧ (∀ id o, H2 id = some o → id < nx2) ∧ WaitIn H2 nx nx nx2 (z4L (ms.take i) m 2) W2 ∧ tm' 3 = .map (some nx) ∧ tm' 9 = .slice (some p) ms.length vc ∧ tm' 10 = .int .i64 ms.length ∧ tm' 11 = .int .i64 i) ?_ ?_
   ·refine zD (fun (j : Nat) st => ∃ (tm' : Nat → Value) (nx2 : Nat) (H2 : Heap) (W2 : List WE), st = ⟨tm', n, H2, nx2⟩ ∧ Ext nx H nx2 H2 ∧ (∀ id o, H2 id = some o → id < nx2) ∧ WaitIn H2 nx nx nx2 (z4L (ms.take i) m j) W2 ∧ (∀ x ∈ W2, ∀ b t, x.ob = some (b, t) → b ≠ nx') ∧ H2 nx' = some (.cells (Go.Am.e4 m) 0 none false (some 106)) ∧ nx' < nx2 ∧
     tm' 3 = .map (some nx) ∧ tm' 5 = .pointer (some ⟨nx', 0, none⟩) ∧ tm' 16 = .agg (z5z (z01 m)).toArray ∧ tm' 17 = .int .i64 j ∧ j ≤ 2 ∧ tm' 9 = .slice (some p) ms.length vc ∧ tm' 10 = .int .i64 ms.length ∧ tm' 11 = .int .i64 i) (fun j => 2 - j) 0 ?_ ?_
    ·exact ⟨_, _, _, W, rfl, hx1, ok1, by rw [zbY]; exact hw1, hob1, hb1, zom, stp, stp, stp, stp, Nat.zero_le _, stp, stp, stp⟩
    ·clear q3 q9 q10 q11 hw1 hb1 hob1 hx1 ok1;rintro j st ⟨tm, nx2, H2, W2, rfl, hx2, ok2, hw2, hob2, hb2, hlt2, q3, q5, q16, q17, hj, q9, q10, q11⟩;by_cases hj2 : j < 2
     ·have hp := zbf (z01 m) hn2 hj2;have hms := zbZ (ms.take i) m hj2;generalize hte : (z01 m)[j]'zom = t at *;refine zgX ?_;refine zfX ?_;refine zd (z7w (len := 2) (e := 101) (sz := 2) (v := thV t) evr evr zxr zxr zom zom (by show z0D _ _ (z5z (z01 m)) ((j : Int).toNat * 2) = _; rw [Int.toNat_natCast]; exact hp)) ?_;refine OpsL.new zsd (zB (l := rep 2 [.int .i64 0]) krf) ?_;refine OpsL.upd (zw (k := 2) (u := thV t) evd evd zxr rfl (o := .cells (z1A t) 0 none false (some 101)) (zC (vs := z1A t) zb rfl rfl)) ?_;obtain ⟨G5, hG5⟩ : ∃ G5, G5 = (H2.put nx2 (.cells (rep 2 [.int .i64 0]) 0 none false (some 101))).put nx2 (.cells (z1A t) 0 none false (some 101)) := ⟨_, rfl⟩;have hx5 : Ext nx2 H2 (nx2 + 1) G5 := ⟨Nat.le_succ _, fun j hj => by rw [hG5, za zom, za zom]⟩;have ok5 : ∀ id o, G5 id = some o → id < nx2 + 1 := by rw [hG5]; exact zU (zF ok2) zb
      have hb5 : G5 nx2 = some (.cells (z1A t) 0 none false (some 101)) := by rw [hG5, zb]
      first | rw [← hG5] | skip
      clear hG5;have hbm5 : G5 nx' = some (.cells (Go.Am.e4 m) 0 none false (some 106)) := (hx5.2 nx' hlt2).trans hb2
      repeat (first | refine zd (by exact omv) ?_ | refine zm ?_ | (refine OpsL.nil ?_; (change Trip _ _ _ _ _)))
      refine zd (zg (k := 2) (vs := z1A t) evd zxr rfl zxr (zG hb5 rfl)) ?_;refine zd (zg (k := 4) (vs := Go.Am.e4 m) evd zxr rfl zxr (zG hbm5 rfl)) ?_;refine OpsL.new zsd (zq (l := [(0, .agg (Go.Am.e4 m).toArray)]) (r := (.slice (some ⟨nx2 + 1, 0, none⟩) 1 1, .new (.cells (Go.Am.e4 m) 4 none false (some 106)))) zeq krf) ?_;have hx6 : Ext (nx2 + 1) G5 (nx2 + 1 + 1) (G5.put (nx2 + 1) (.cells (Go.Am.e4 m) 4 none false (some 106))) := zh;have ok6 := zF (o := .cells (Go.Am.e4 m) 4 none false (some 106)) ok5;have g6 : (G5.put (nx2 + 1) (.cells (Go.Am.e4 m) 4 none false (some 106))) (nx2 + 1) = some (.cells (Go.Am.e4 m) 4 none false (some 106)) := zb;generalize G5.put (nx2 + 1) (.cells (Go.Am.e4 m) 4 none false (some 106)) = G6 at *;have hw6 := (hw2.ext hx5).ext hx6;have hmr2 := hw2.hmr.2;obtain ⟨W3, j3, hj3, hk3, he3, hw3, hobs3⟩ := hw6.entry t;have hle6 : nx2 + 1 + 1 = nx2 + 2 := rfl;refine zef zsd (z8g evd evr he3) ?_;have hHA : ∀ q, q ≠ nx → (G6.put nx (.map (W3.map weV) (List.range W3.length) W3.length)) q = G6 q := fun q hq => za hq;have okA := zU (o := .map (W3.map weV) (List.range W3.length) W3.length) ok6 hw6.cell;generalize G6.put nx (.map (W3.map weV) (List.range W3.length) W3.length) = HA at *
      have hone : RowsAt Go.Am.e4 4 HA (.slice (some ⟨nx2 + 1, 0, none⟩) 1 1) [m] := by
       refine .inr ⟨⟨nx2 + 1, 0, none⟩, 1, rfl, fun q hq => ?_⟩;have : q = 0 := by simpa using hq
       subst this;exact zG ((hHA (nx2 + 1) zom).trans g6) rfl
      have hbmA : HA nx' = some (.cells (Go.Am.e4 m) 0 none false (some 106)) := by rw [hHA nx' zom, hx6.2 nx' zom]; exact hbm5
      have hl3 : (W3[j3].l).length ≤ 3001 := by
       have h1 := hw3.val _ (List.getElem_mem hj3);have h2 := zdH (ms.take i) m j W3[j3].k;rw [h1];rw [List.length_take] at h2;omega
      have hblk3 := hw3.blk _ (List.getElem_mem hj3);clear he3 g6 hb5 hbm5
      repeat (first | (refine zd (by exact zO evr zxr) ?_))
      refine zJ (bytes := 32) (z := rep 4 [.int .i64 0]) z0y z4p zom zsd (hw3.own _ (List.getElem_mem hj3)) hone evr evd (fun b t h => by have := hblk3 b t h; omega) zxr zxr zxr zxr zxr rfl (by simp; omega) zom ?_;intro v7 nx7 H7 ob7 hA7;obtain ⟨W4, he4, hw4, hf4, hobs4⟩ := hw3.store hj3 Ext.refl hA7;have hle7 := hA7.le;have hc7 : H7 nx = some (.map (W3.map weV) (List.range W3.length) W3.length) := (hA7.same nx zom (fun b t e => (hblk3 b t e).2.2.symm)).trans hw3.cell;have ok7 := hA7.ok (fun b t h => by have := hblk3 b t h; omega) okA
      have hob3 : ∀ b t, W3[j3].ob = some (b, t) → nx' ≠ b := fun b t e => by
       obtain ⟨y, hy, hye⟩ := hobs3 _ (List.getElem_mem hj3) b t e;exact (hob2 y hy b t hye).symm
      have hb7 : H7 nx' = some (.cells (Go.Am.e4 m) 0 none false (some 106)) := (hA7.same nx' zom hob3).trans hbmA;rw [hk3, ← hms] at hw4
      repeat (first | (refine zd (by exact zO evr zxr) ?_))
      refine OpsL.upd (z6M evd evr evd he4) ?_;refine zfs ?_;refine ⟨j + 1, ⟨_, nx7, _, W4, rfl, ⟨by have := hx2.1; omega, fun q hq => ?_⟩, zU ok7 hc7, hw4, fun x hx b t e => ?_, ?_, zom, stp, stp, stp, stp, zom, stp, stp, stp⟩, zom⟩
      ·show Heap.put H7 nx _ q = _;have := hx2.1;rw [za zom, hf4 q hq, hHA q zom, hx6.2 q zom, hx5.2 q zom, hx2.2 q hq]
      ·rcases hobs4 x hx b t e with h | ⟨y, hy, t2, hye⟩
       ·omega
       ·obtain ⟨z, hz, hze⟩ := hobs3 y hy b t2 hye;exact hob2 z hz b t2 hze
      ·show Heap.put H7 nx _ nx' = _;rw [za zom];exact hb7
     ·have h2 : j = 2 := by omega
      subst h2;refine z9O ?_;exact ⟨rfl, _, nx2, H2, W2, rfl, hx2, ok2, hw2, stp, stp, stp, stp⟩
   ·clear q3 q9 q10 q11;rintro e st ⟨rfl, tm', nx2, H2, W2, rfl, hx2, ok2, hw2, q3, q9, q10, q11⟩
    ((repeat (first | refine z0e ?_ | refine zN ?_)); change Trip _ _ _ _ _)
    rw [zdG, ← hst] at hw2
    repeat (first | (refine zd (by first | exact omv | exact z6P) ?_) | refine zm ?_ | (refine OpsL.nil ?_; (dsimp only)))
    exact ⟨i + 1, ⟨_, nx2, H2, W2, rfl, hx2, ok2, hw2, stp, stp, stp, stp, zom⟩, zom⟩
  ·have hin : i = ms.length := by omega
   subst hin;rw [List.take_length] at hw;refine zaV ?_;refine z9P ?_;exact ⟨.inr rfl, _, zx, W, stp, hw, hx⟩
end Go.Proofs.YteplpegfcpmflaaGreat
namespace Go.Am
inductive ReachT (a : Aut) : Thg → Prop
 | bot : ReachT a (1, 0)
 | init {s : Int} : s ∈ a.init → ReachT a (0, s)
 | step {m : R4} {t : Thg} : m ∈ z02 a → (∀ u ∈ z01 m, ReachT a u) → t ∈ z0m m → ReachT a t
def z8w (a : Aut) : List Thg := (1, 0) :: a.init.map (fun s => ((0, s) : Thg)) ++ (z02 a).flatMap z0m
structure FindI (a : Aut) (F todo : List Thg) : Prop where
 sound : ∀ t, t ∈ F ∨ t ∈ todo → ReachT a t
 bot : (1, 0) ∈ F ∨ (1, 0) ∈ todo
 init : ∀ s ∈ a.init, (0, s) ∈ F ∨ (0, s) ∈ todo
 closed : ∀ m ∈ z02 a, (∀ u ∈ z01 m, u ∈ F) → ∀ t ∈ z0m m, t ∈ F ∨ t ∈ todo
 nodup : F.Nodup
 uni : ∀ t ∈ todo, t ∈ z8w a
structure FindJ (a : Aut) (F todo : List Thg) (rest : List R4) : Prop where
 sound : ∀ t, t ∈ F ∨ t ∈ todo → ReachT a t
 bot : (1, 0) ∈ F ∨ (1, 0) ∈ todo
 init : ∀ s ∈ a.init, (0, s) ∈ F ∨ (0, s) ∈ todo
 closed : ∀ m ∈ z02 a, (∀ u ∈ z01 m, u ∈ F) → m ∉ rest → ∀ t ∈ z0m m, t ∈ F ∨ t ∈ todo
 nodup : F.Nodup
 uni : ∀ t ∈ todo, t ∈ z8w a
 sub : ∀ m ∈ rest, m ∈ z02 a
theorem zaS (a : Aut) : FindI a [] ((1, 0) :: a.init.map (fun s => ((0, s) : Thg))) where
 sound t h := by
  rcases h with h | h
  ·cases h
  ·rcases List.mem_cons.1 h with rfl | h
   ·exact .bot
   ·obtain ⟨s, hs, rfl⟩ := List.mem_map.1 h;exact .init hs
 bot := .inr List.mem_cons_self
 init s hs := .inr (List.mem_cons_of_mem _ (List.mem_map.2 ⟨s, hs, rfl⟩))
 closed m _ h := absurd (h (0, m.1) List.mem_cons_self) (by simp)
 nodup := List.nodup_nil
 uni t h := List.mem_append.2 (.inl h)
theorem FindI.old {a : Aut} {F todo : List Thg} {t : Thg} (h : FindI a F (todo ++ [t])) (ht : t ∈ F) : FindI a F todo := by
 have key : ∀ x, x ∈ F ∨ x ∈ todo ++ [t] → x ∈ F ∨ x ∈ todo := fun x hx => by
  rcases hx with hx | hx
  ·exact .inl hx
  ·rcases List.mem_append.1 hx with hx | hx
   ·exact .inr hx
   ·rw [List.mem_singleton] at hx; subst hx; exact .inl ht
 exact ⟨fun x hx => h.sound x (hx.imp id fun q => List.mem_append.2 (.inl q)), key _ h.bot, fun s hs => key _ (h.init s hs), fun m hm hu x hx => key _ (h.closed m hm hu x hx), h.nodup, fun x hx => h.uni x (List.mem_append.2 (.inl hx))⟩
theorem FindI.fresh {a : Aut} {F todo : List Thg} {t : Thg} (h : FindI a F (todo ++ [t])) (ht : t ∉ F) : FindJ a (F ++ [t]) todo (z4K (z02 a) t) := by
 have key : ∀ x, x ∈ F ∨ x ∈ todo ++ [t] → x ∈ F ++ [t] ∨ x ∈ todo := fun x hx => by
  rcases hx with hx | hx
  ·exact .inl (List.mem_append.2 (.inl hx))
  ·rcases List.mem_append.1 hx with hx | hx
   ·exact .inr hx
   ·exact .inl (List.mem_append.2 (.inr hx))
 refine ⟨fun x hx => h.sound x ?_, key _ h.bot, fun s hs => key _ (h.init s hs), fun m hm hu hr x hx => ?_, ?_, fun x hx => h.uni x (List.mem_append.2 (.inl hx)), fun m hm => (List.mem_filter.1 hm).1⟩
 ·rcases hx with hx | hx
  ·rcases List.mem_append.1 hx with hx | hx
   ·exact .inl hx
   ·exact .inr (List.mem_append.2 (.inr hx))
  ·exact .inr (List.mem_append.2 (.inl hx))
 ·have htm : t ∉ z01 m := fun hh => hr (List.mem_filter.2 ⟨hm, by simpa using hh⟩);refine key _ (h.closed m hm (fun u hum => ?_) x hx);rcases List.mem_append.1 (hu u hum) with q | q
  ·exact q
  ·rw [List.mem_singleton] at q; subst q; exact absurd hum htm
 ·rw [List.nodup_append];refine ⟨h.nodup, by simp, fun x hx y hy => ?_⟩;rw [List.mem_singleton] at hy;subst hy;exact fun e => ht (e ▸ hx)
theorem FindJ.yes {a : Aut} {F todo : List Thg} {m : R4} {rest : List R4} (h : FindJ a F todo (m :: rest)) (hu : ∀ u ∈ z01 m, u ∈ F) : FindJ a F (todo ++ z0m m) rest := by
 have hm := h.sub m List.mem_cons_self;have key : ∀ x, x ∈ F ∨ x ∈ todo → x ∈ F ∨ x ∈ todo ++ z0m m := fun x hx => hx.imp id fun q => List.mem_append.2 (.inl q);refine ⟨fun x hx => ?_, key _ h.bot, fun s hs => key _ (h.init s hs), fun m' hm' hu' hr x hx => ?_, h.nodup, fun x hx => ?_, fun m' hm' => h.sub m' (List.mem_cons_of_mem _ hm')⟩
 ·rcases hx with hx | hx
  ·exact h.sound x (.inl hx)
  ·rcases List.mem_append.1 hx with hx | hx
   ·exact h.sound x (.inr hx)
   ·exact .step hm (fun u hum => h.sound u (.inl (hu u hum))) hx
 ·by_cases e : m' = m
  ·subst e; exact .inr (List.mem_append.2 (.inr hx))
  ·exact key _ (h.closed m' hm' hu' (fun q => (List.mem_cons.1 q).elim e hr) x hx)
 ·rcases List.mem_append.1 hx with hx | hx
  ·exact h.uni x hx
  ·exact List.mem_append.2 (.inr (List.mem_flatMap.2 ⟨m, hm, hx⟩))
theorem FindJ.no {a : Aut} {F todo : List Thg} {m : R4} {rest : List R4} (h : FindJ a F todo (m :: rest)) (hu : ¬ ∀ u ∈ z01 m, u ∈ F) : FindJ a F todo rest :=
 ⟨h.sound, h.bot, h.init, fun m' hm' hu' hr x hx => h.closed m' hm' hu' (fun q => (List.mem_cons.1 q).elim (fun e => hu (e ▸ hu')) hr) x hx, h.nodup, h.uni, fun m' hm' => h.sub m' (List.mem_cons_of_mem _ hm')⟩
theorem FindJ.end {a : Aut} {F todo : List Thg} (h : FindJ a F todo []) : FindI a F todo := ⟨h.sound, h.bot, h.init, fun m hm hu x hx => h.closed m hm hu (by simp) x hx, h.nodup, h.uni⟩
theorem FindI.all {a : Aut} {F : List Thg} (h : FindI a F []) (t : Thg) : t ∈ F ↔ ReachT a t := by
 have key : ∀ x, x ∈ F ∨ x ∈ ([] : List Thg) → x ∈ F := fun x hx => hx.resolve_right (by simp);refine ⟨fun q => h.sound t (.inl q), fun q => ?_⟩
 induction q with
 | bot => exact key _ h.bot
 | init hs => exact key _ (h.init _ hs)
 | step hm _ hx ih => exact key _ (h.closed _ hm ih _ hx)
def muF (a : Aut) (F todo : List Thg) : Nat := ((z8w a).filter fun t => decide (t ∉ F)).length * (2 * (z02 a).length + 1) + todo.length
theorem zal {l : List Thg} {F : List Thg} {t : Thg} (ht : t ∈ l) (hF : t ∉ F) : (l.filter fun x => decide (x ∉ F ++ [t])).length + 1 ≤ (l.filter fun x => decide (x ∉ F)).length := by
 induction l with
 | nil => cases ht
 | cons y l ih =>
  have hle : ∀ l : List Thg, (l.filter fun x => decide (x ∉ F ++ [t])).length ≤ (l.filter fun x => decide (x ∉ F)).length := fun l => by
   induction l with
   | nil => simp
   | cons z l ih =>
    rw [List.filter_cons, List.filter_cons];by_cases h1 : z ∈ F
    ·rw [if_neg (by simp [h1]), if_neg (by simp [h1])]; exact ih
    ·by_cases h2 : z = t
     ·rw [if_neg (by simp [h2]), if_pos (by simp [h1])]; rw [List.length_cons]; omega
     ·rw [if_pos (by simp [h1, h2]), if_pos (by simp [h1])]; rw [List.length_cons, List.length_cons]; omega
  rw [List.filter_cons, List.filter_cons];rcases List.mem_cons.1 ht with rfl | hm
  ·rw [if_neg (by simp), if_pos (by simpa using hF), List.length_cons];have := hle l;omega
  ·have := ih hm;by_cases h1 : y ∈ F
   ·rw [if_neg (by simp [h1]), if_neg (by simp [h1])]; exact this
   ·by_cases h2 : y = t
    ·rw [if_neg (by simp [h2]), if_pos (by simp [h1]), List.length_cons]; omega
    ·rw [if_pos (by simp [h1, h2]), if_pos (by simp [h1]), List.length_cons, List.length_cons]; omega
theorem zgt (a : Aut) (F todo : List Thg) (t : Thg) : muF a F todo + 1 = muF a F (todo ++ [t]) := by unfold muF; rw [List.length_append, List.length_singleton]; omega
theorem zgu {a : Aut} {F todo todo' : List Thg} {t : Thg} (ht : t ∈ z8w a) (hF : t ∉ F) (hl : todo'.length ≤ todo.length + 2 * (z02 a).length) : muF a (F ++ [t]) todo' + 1 ≤ muF a F (todo ++ [t]) := by
 have h1 := zal ht hF;unfold muF
 have h2 : ((z8w a).filter fun x => decide (x ∉ F ++ [t])).length * (2 * (z02 a).length + 1) + (2 * (z02 a).length + 1) ≤ ((z8w a).filter fun x => decide (x ∉ F)).length * (2 * (z02 a).length + 1) := by
  have := Nat.mul_le_mul_right (2 * (z02 a).length + 1) h1;rw [Nat.add_mul, Nat.one_mul] at this;exact this
 rw [List.length_append, List.length_singleton];omega
end Go.Am
namespace Go.Proofs.YteplpegfcpmflaaGreat
open Go.RowKit Go.Am
theorem WaitIn.framed {H H' : Heap} {base mr nx nx' : Nat} {f : Thg → List R4} {W : List WE} (h : WaitIn H base mr nx f W) (hF : ∀ j, base ≤ j → j < nx → H' j = H j) (hle : nx ≤ nx') : WaitIn H' base mr nx' f W :=
 ⟨by rw [hF mr h.hmr.1 h.hmr.2]; exact h.cell, h.nodup, fun x hm => OwnRow.same (fun b t e => by have := h.blk x hm b t e; exact hF b this.1 this.2.1) (h.own x hm), h.val, h.out, fun x hm b t e => by have := h.blk x hm b t e; omega, h.sep, by have := h.hmr; omega⟩
theorem WaitIn.tells {H : Heap} {base mr nx : Nat} {f : Thg → List R4} {W : List WE} (h : WaitIn H base mr nx f W) (t : Thg) : ∃ r, ∀ (H' : Heap) (nx' : Nat), WaitIn H' base mr nx' f W → z1Y Tryz.prog H' 96 (.map (some mr)) (thV t) false = some r ∧ RowsAt Go.Am.e4 4 H' r (f t) := by
 by_cases hin : t ∈ W.map (·.k)
 ·obtain ⟨x, hx, hxk⟩ := List.mem_map.1 hin;obtain ⟨j, hj, hje⟩ := List.getElem_of_mem hx;have hk : W[j].k = t := by rw [hje]; exact hxk
  refine ⟨W[j].v, fun H' nx' h' => ?_⟩;obtain ⟨c1, c2, c3⟩ := z8I t H';have hmo : z4N H' (.map (some mr)) = some (W.map weV) := by simp only [z4N, h'.cell]
  have hf := zdu H' W 0 j hj h'.nodup;rw [hk] at hf;refine ⟨?_, ?_⟩
  ·unfold z1Y;simp only [Tryz.underlying96, hmo, show z6U Tryz.prog 98 = some (.slice none 0 0) from rfl, c1, show (Tryz.prog.underlying 101).isSome = true from rfl, and_self, if_true, hf];rfl
  ·rw [← hk, ← h'.val _ (List.getElem_mem hj)];exact (h'.own _ (List.getElem_mem hj)).at z0y
 ·refine ⟨.slice none 0 0, fun H' nx' h' => ?_⟩;obtain ⟨c1, c2, c3⟩ := z8I t H';have hmo : z4N H' (.map (some mr)) = some (W.map weV) := by simp only [z4N, h'.cell]
  refine ⟨?_, ?_⟩
  ·unfold z1Y;simp only [Tryz.underlying96, hmo, show z6U Tryz.prog 98 = some (.slice none 0 0) from rfl, c1, show (Tryz.prog.underlying 101).isSome = true from rfl, and_self, if_true, zdv H' t W 0 hin];rfl
  ·rw [h'.out t hin]; exact .inl ⟨0, rfl, rfl⟩
end Go.Proofs.YteplpegfcpmflaaGreat
