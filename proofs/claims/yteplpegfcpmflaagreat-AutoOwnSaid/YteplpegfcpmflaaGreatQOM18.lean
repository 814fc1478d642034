import Derived.Test.YteplpegfcpmflaaGreatQOM17
set_option linter.unusedSimpArgs false
set_option linter.unusedVariables false
set_option maxRecDepth 100000
set_option maxHeartbeats 64000000
namespace Go.Am
open Go.RowKit
def z5R (s : Nat → Bool) : Nat → Nat
 | 0 => 0
 | n + 1 => z5R s n + if s n then 1 else 0
def z4t (s : Nat → Bool) (k : Nat) : Nat → Bool := fun i => decide (i = k) || s i
theorem zcW (s : Nat → Bool) (n : Nat) : z5R s n ≤ n := by
 induction n with
 | zero => exact Nat.le_refl _
 | succ n ih => unfold z5R; split <;> omega
theorem zcX (s : Nat → Bool) (k n : Nat) : z5R s n ≤ z5R (z4t s k) n := by
 induction n with
 | zero => exact Nat.le_refl _
 | succ n ih =>
  unfold z5R;by_cases h : s n = true
  ·have : z4t s k n = true := by unfold z4t; rw [h, Bool.or_true]
   rw [if_pos h, if_pos this]; omega
  ·rw [if_neg h]; split <;> omega
theorem z7H {s : Nat → Bool} {k n : Nat} (hk : k < n) (h : s k = false) : z5R (z4t s k) n = z5R s n + 1 := by
 have key : ∀ m, z5R (z4t s k) m = z5R s m + if k < m then 1 else 0 := by
  intro m
  induction m with
  | zero => rfl
  | succ m ih =>
   unfold z5R;rw [ih];by_cases e : m = k
   ·subst e;have : z4t s m m = true := by unfold z4t; simp
    rw [if_pos this, h]; simp
   ·have h1 : z4t s k m = s m := by unfold z4t; simp [e]
    rw [h1];by_cases h2 : k < m
    ·rw [if_pos h2, if_pos (by omega : k < m + 1)]; omega
    ·rw [if_neg h2, if_neg (by omega : ¬ k < m + 1)]; omega
 rw [key, if_pos hk]
abbrev BRowF (H : Heap) (el : TypeId) (b n : Nat) (s : Nat → Bool) : Prop := BRow H el b n fun i => s i = true
theorem BRowF.get {H : Heap} {el : TypeId} {b n : Nat} {s : Nat → Bool} (h : BRowF H el b n s) {j : Int} (h0 : 0 ≤ j) (h1 : j < n) : zh H ⟨b, 0 + j.toNat * 1, none⟩ (.bool (s j.toNat)) := by
 obtain ⟨x, hx, hS⟩ := BRow.get h h0 h1;have : x = s j.toNat := by cases x <;> cases hs : s j.toNat <;> simp_all
 rw [← this];exact hx
theorem BRow.putS {H : Heap} {el : TypeId} {b n k : Nat} {s : Nat → Bool} (h : BRow H el b n fun i => i = k ∨ s i = true) : BRowF H el b n (z4t s k) := h.iff fun i _ => by unfold Go.Am.z4t; simp
structure MaySt (a : Aut) (s u : Nat → Bool) : Prop where
 at' : ∀ k : Nat, s k = true → ReachT a (0, (k : Int))
 up : ∀ k : Nat, u k = true → ReachT a (1, (k : Int))
 init : ∀ x ∈ a.init, s x.toNat = true
 bot : u 0 = true
theorem z7w {s : Nat → Bool} {k i : Nat} (h : s i = true) : z4t s k i = true := by unfold z4t; rw [h, Bool.or_true]
theorem zcN (s : Nat → Bool) (k : Nat) : z4t s k k = true := by unfold z4t; simp
theorem z3X {s : Nat → Bool} {k i : Nat} (h : z4t s k i = true) : i = k ∨ s i = true := by unfold z4t at h; simpa using h
theorem MaySt.move {a : Aut} {s u : Nat → Bool} (h : MaySt a s u) {m : R4} (hm : m ∈ z0b a) (h0 : 0 ≤ m.1) (h1 : 0 ≤ m.2.1) (hs : s m.1.toNat = true) (hu : u m.2.1.toNat = true) : ReachT a (0, m.2.2.1) ∧ ReachT a (1, m.2.2.2) := by
 have r1 := h.at' _ hs;have r2 := h.up _ hu;rw [Int.toNat_of_nonneg h0] at r1;rw [Int.toNat_of_nonneg h1] at r2
 have hn : ∀ t ∈ z08 m, ReachT a t := fun t ht => by
  simp only [z08, List.mem_cons, List.not_mem_nil, or_false] at ht;rcases ht with rfl | rfl
  ·exact r1
  ·exact r2
 exact ⟨.step hm hn (by simp [z0t]), .step hm hn (by simp [z0t])⟩
theorem MaySt.putA {a : Aut} {s u : Nat → Bool} (h : MaySt a s u) {x : Int} (h0 : 0 ≤ x) (hr : ReachT a (0, x)) : MaySt a (z4t s x.toNat) u :=
 ⟨fun k hk => (z3X hk).elim (fun e => by subst e; rw [Int.toNat_of_nonneg h0]; exact hr) (h.at' k), h.up, fun y hy => z7w (h.init y hy), h.bot⟩
theorem MaySt.putU {a : Aut} {s u : Nat → Bool} (h : MaySt a s u) {x : Int} (h0 : 0 ≤ x) (hr : ReachT a (1, x)) : MaySt a s (z4t u x.toNat) :=
 ⟨h.at', fun k hk => (z3X hk).elim (fun e => by subst e; rw [Int.toNat_of_nonneg h0]; exact hr) (h.up k), h.init, z7w h.bot⟩
def ClO (a : Aut) (s u : Nat → Bool) (i : Nat) : Prop := ∀ r ∈ a.opens.take i, s r.1.toNat = true → s r.2.2.1.toNat = true ∧ u r.2.2.2.toNat = true
def ClC (a : Aut) (s u : Nat → Bool) (i : Nat) : Prop := ∀ r ∈ a.closes.take i, s r.1.toNat = true → u r.2.2.1.toNat = true → s r.2.2.2.toNat = true
def ClN (a : Aut) (s : Nat → Bool) (i : Nat) : Prop := ∀ r ∈ a.inners.take i, s r.1.toNat = true → s r.2.2.toNat = true
theorem z27 {α : Type} {P : α → Prop} {l : List α} {i : Nat} (h : i < l.length) (ht : ∀ x ∈ l.take i, P x) (hi : P l[i]) : ∀ x ∈ l.take (i + 1), P x := fun x hx => by
 rw [List.take_succ_eq_append_getElem h] at hx;rcases List.mem_append.1 hx with hx | hx
 ·exact ht x hx
 ·rw [List.mem_singleton] at hx; subst hx; exact hi
structure RoundI (a : Aut) (n0 n1 c0 : Nat) (s u : Nat → Bool) (g : Bool) : Prop where
 st : MaySt a s u
 le : c0 ≤ z5R s n0 + z5R u n1
 lt : g = true → c0 < z5R s n0 + z5R u n1
theorem RoundI.putA {a : Aut} {n0 n1 c0 : Nat} {s u : Nat → Bool} {g : Bool} (h : RoundI a n0 n1 c0 s u g) {x : Int} (h0 : 0 ≤ x) (h1 : x < n0) (hr : ReachT a (0, x)) (hs : s x.toNat = false) : RoundI a n0 n1 c0 (z4t s x.toNat) u true := by
 have := z7H (s := s) (k := x.toNat) (n := n0) zom hs;have := h.le;exact ⟨h.st.putA h0 hr, zom, fun _ => by omega⟩
theorem RoundI.putAU {a : Aut} {n0 n1 c0 : Nat} {s u : Nat → Bool} {g : Bool} (h : RoundI a n0 n1 c0 s u g) {x y : Int} (h0 : 0 ≤ x) (h1 : x < n0) (k0 : 0 ≤ y) (k1 : y < n1) (hr : ReachT a (0, x)) (kr : ReachT a (1, y)) (hs : s x.toNat = false ∨ u y.toNat = false) : RoundI a n0 n1 c0 (z4t s x.toNat) (z4t u y.toNat) true := by
 have g1 := zcX s x.toNat n0;have g2 := zcX u y.toNat n1;have := h.le
 have : z5R s n0 + z5R u n1 < z5R (z4t s x.toNat) n0 + z5R (z4t u y.toNat) n1 := by
  rcases hs with hs | hs
  ·have := z7H (s := s) (k := x.toNat) (n := n0) zom hs; omega
  ·have := z7H (s := u) (k := y.toNat) (n := n1) zom hs; omega
 exact ⟨(h.st.putA h0 hr).putU k0 kr, zom, fun _ => by omega⟩
theorem MaySt.all {ss : List (ByteArray × Int)} {most : Int} {a : Aut} {i : Nat} (hg : GoodM ss most a i) {s u : Nat → Bool} (h : MaySt a s u) (hO : ClO a s u a.opens.length) (hC : ClC a s u a.closes.length) (hN : ClN a s a.inners.length) :
  (∀ k : Nat, s k = true ↔ ReachT a (0, (k : Int))) ∧ ∀ k : Nat, u k = true ↔ ReachT a (1, (k : Int)) := by
 unfold ClO at hO;unfold ClC at hC;unfold ClN at hN;rw [List.take_length] at hO hC hN
 have key := fun {t : Thg} => Go.Proofs.YteplpegfcpmflaaGreat.zfh (a := a) (A := fun x => s x.toNat = true) (U := fun x => u x.toNat = true) (t := t) h.init h.bot fun m hm hA hU => by
  simp only [z0b, List.mem_append, List.mem_map] at hm;rcases hm with (⟨r, hr, rfl⟩ | ⟨r, hr, rfl⟩) | ⟨r, hr, rfl⟩
  ·exact hO r hr hA
  ·exact ⟨hC r hr hA hU, h.bot⟩
  ·exact ⟨hN r hr hA, h.bot⟩
 exact ⟨fun k => ⟨h.at' k, fun hr => by have := (key hr).1 rfl; rwa [Int.toNat_natCast] at this⟩, fun k => ⟨h.up k, fun hr => by have := (key hr).2 rfl; rwa [Int.toNat_natCast] at this⟩⟩
def ICells (cs : List Value) (n : Nat) (f : Nat → Int) : Prop := cs.length = n ∧ ∀ i, i < n → cs[i]? = some (.int .i64 (f i))
theorem ICells.zero (n : Nat) : ICells (rep n [.int .i64 0]) n fun _ => 0 := by
 have h : rep n [.int .i64 0] = List.replicate n (.int .i64 0) := by
  unfold rep
  induction n with
  | zero => rfl
  | succ n ih => rw [List.replicate_succ, List.flatten_cons, ih, List.replicate_succ]; rfl
 rw [h];exact ⟨by simp, fun i hi => by rw [List.getElem?_replicate, if_pos hi]⟩
theorem ICells.set {cs : List Value} {n k : Nat} {f : Nat → Int} (h : ICells cs n f) (hk : k < n) (x : Int) : ICells (cs.set k (.int .i64 x)) n fun i => if i = k then x else f i := by
 refine ⟨by rw [List.length_set, h.1], fun i hi => ?_⟩;by_cases e : i = k
 ·subst e;rw [List.getElem?_set_self (by rw [h.1]; exact hk)]; simp
 ·rw [List.getElem?_set_ne (fun q => e q.symm), h.2 i hi]; simp [e]
def IRow (H : Heap) (el : TypeId) (b n : Nat) (f : Nat → Int) : Prop := ∃ cs, H b = some (.cells cs 1 none false (some el)) ∧ ICells cs n f
theorem IRow.same {H H' : Heap} {el : TypeId} {b n : Nat} {f : Nat → Int} (h : IRow H el b n f) (hs : H' b = H b) : IRow H' el b n f := by
 obtain ⟨cs, h1, h2⟩ := h;exact ⟨cs, hs.trans h1, h2⟩
theorem IRow.iff {H : Heap} {el : TypeId} {b n : Nat} {f f' : Nat → Int} (h : IRow H el b n f) (hf : ∀ i, i < n → f i = f' i) : IRow H el b n f' := by
 obtain ⟨cs, h1, h2, h3⟩ := h;exact ⟨cs, h1, h2, fun i hi => by rw [← hf i hi]; exact h3 i hi⟩
theorem IRow.get {H : Heap} {el : TypeId} {b n : Nat} {f : Nat → Int} (h : IRow H el b n f) {j : Int} (h0 : 0 ≤ j) (h1 : j < n) : zh H ⟨b, 0 + j.toNat * 1, none⟩ (.int .i64 (f j.toNat)) := by
 obtain ⟨cs, hH, hl, hc⟩ := h;have hx := hc j.toNat zom;unfold zh z0A;simp only [hH];rw [if_pos ⟨trivial, zom⟩];obtain ⟨hjl, hje⟩ := List.getElem?_eq_some_iff.1 hx;rw [Nat.zero_add, Nat.mul_one, List.take_one, List.head?_drop, List.getElem?_eq_getElem hjl, hje];rfl
section
variable {P : Program} {W0 : World} {ops : Array Oper} {H : Heap} {nx n : Nat} {type : TypeId} {pos : String} {after : Array Edge} {l : List Oper} {tm : Nat → Value} {QQ : ASt → Prop} {el : TypeId}
theorem zdH {t : TypeId} {x y : Operand} {b m : Nat} {j v : Int} {f : Nat → Int} (hx : ASt.ev ⟨tm, n, H, nx⟩ x = some (.pointer (some ⟨b, 0 + j.toNat * 1, none⟩))) (hy : ASt.ev ⟨tm, n, H, nx⟩ y = some (.int .i64 v)) (hz : z1w P t = some 1)
  (hr : IRow H el b m f) (h0 : 0 ≤ j) (h1 : j < m) (h : ∀ H', IRow H' el b m (fun i => if i = j.toNat then v else f i) → (∀ i, i ≠ b → H' i = H i) → OpsL P W0 ops l ⟨tm, n, H', nx⟩ QQ) :
  OpsL P W0 ops (⟨none, .store t x y, type, pos, after, none⟩ :: l) ⟨tm, n, H, nx⟩ QQ := by
 obtain ⟨cs, hH, hc⟩ := hr;have hl := hc.1;refine OpsL.storeAt (a := ⟨b, 0 + j.toNat * 1, none⟩) (cs' := cs.set j.toNat (.int .i64 v)) j.toNat hx hy hz rfl rfl hH (by simp) zom rfl ?_;exact h _ ⟨_, zb, hc.set zom v⟩ fun i hi => za hi
end
end Go.Am
namespace Go.Am
open Go.RowKit
section
variable {P : Program} {W0 : World} {ops : Array Oper} {H : Heap} {nx n : Nat} {l : List Oper} {tm : Nat → Value} {QQ : ASt → Prop} {d d0 : Tmp} {t t' : TypeId} {x y : Operand} {zs vs : List Value} {k : Nat} {ty ty' ty0 : TypeId} {ps ps' ps0 : String} {af af' af0 : Array Edge}
theorem z79 (hd : d < n) (hz : z0D P t = some zs) (hy : ASt.ev ⟨zl tm (some d) (.pointer (some ⟨nx, 0, none⟩)), n, H.put nx (.cells zs 0 none false (some t)), nx + 1⟩ y = some (.agg vs.toArray)) (hs : z1w P t' = some k) (hk : vs.length = k) (hl : vs.length = zs.length) (ho : vs.all (·.oneCell') = true) (hok : ∀ id o, H id = some o → id < nx)
  (h : ∀ G, Ext nx H (nx + 1) G → (∀ id o, G id = some o → id < nx + 1) → G nx = some (.cells vs 0 none false (some t)) → OpsL P W0 ops l ⟨zl tm (some d) (.pointer (some ⟨nx, 0, none⟩)), n, G, nx + 1⟩ QQ) :
  OpsL P W0 ops (⟨some d, .alloc t, ty, ps, af, none⟩ :: ⟨none, .store t' (.tmp d) y, ty', ps', af', none⟩ :: l) ⟨tm, n, H, nx⟩ QQ := by
 refine OpsL.new hd (zD hz) ?_;refine OpsL.upd (zw (a := ⟨nx, 0, none⟩) (k := k) (u := .agg vs.toArray) (by simp [ASt.ev, zl]) hy hs (by rw [← hk]; rfl) (o := .cells vs 0 none false (some t)) (zE (vs := vs) zb hl ho)) ?_;exact h _ ⟨Nat.le_succ _, fun j hj => (za (show j ≠ nx by omega)).trans (za (show j ≠ nx by omega))⟩ (Go.Proofs.YteplpegfcpmflaaGreat.zV (zF hok) zb) zb
theorem z37 {a : Addr} {dd : TypeDesc} (hg : z0A H a k = some vs) (hok : ∀ id o, H id = some o → id < nx) (h : ∀ G, Ext nx H (nx + 1) G → (∀ id o, G id = some o → id < nx + 1) → G nx = some (.cells vs 0 none false (some t)) → OpsL P W0 ops l ⟨zl (zl tm (some d0) (.agg vs.toArray)) (some d) (.pointer (some ⟨nx, 0, none⟩)), n, G, nx + 1⟩ QQ)
  (hx : ASt.ev ⟨tm, n, H, nx⟩ x = some (.pointer (some a))) (hu : P.underlying t = some dd) (hdd : z2t dd = true) (hs : z1w P t = some k) (hk : vs.length = k) (hz : z0D P t = some zs) (hl : vs.length = zs.length) (ho : vs.all (·.oneCell') = true) (hd0 : d0 < n) (hd : d < n) (hne : d0 ≠ d) :
  OpsL P W0 ops (⟨some d0, .load t x, ty0, ps0, af0, none⟩ :: ⟨some d, .alloc t, ty, ps, af, none⟩ :: ⟨none, .store t (.tmp d) (.tmp d0), ty', ps', af', none⟩ :: l) ⟨tm, n, H, nx⟩ QQ := by
 refine z1R hd0 (zg hx hu hdd hs hg) ?_;exact z79 hd hz (by simp [ASt.ev, zl, hne]) hs hk hl ho hok h
end
end Go.Am
namespace Go.Proofs.YteplpegfcpmflaaGreat
open Go.RowKit Go.Am
attribute [local irreducible] aop OpsL Trip zI z2r OpsK OpsR
theorem zbZ : Am.z0O Tryz.prog 31 := ⟨Tryz.f31, Tryz.func31, by kernel_rfl, by kernel_rfl⟩
structure MayH (J0 : Heap) (m6 b1 b2 n0 n1 : Nat) (J : Heap) (m : Nat) (s u : Nat → Bool) : Prop where
 le : m6 ≤ m
 fr : ∀ j, j < m6 → j ≠ b1 → j ≠ b2 → J j = J0 j
 ok : ∀ id o, J id = some o → id < m
 ra : BRowF J 4 b1 n0 s
 ru : BRowF J 4 b2 n1 u
 l1 : b1 < m6
 l2 : b2 < m6
theorem MayH.box {J0 J G : Heap} {m6 b1 b2 n0 n1 m : Nat} {s u : Nat → Bool} (h : MayH J0 m6 b1 b2 n0 n1 J m s u) (x : Ext m J (m + 1) G) (k : ∀ id o, G id = some o → id < m + 1) : MayH J0 m6 b1 b2 n0 n1 G (m + 1) s u := by
 have h1 := h.le;have h2 := h.l1;have h3 := h.l2;exact ⟨zom, fun j a b c => (x.2 j zom).trans (h.fr j a b c), k, h.ra.same (x.2 b1 zom), h.ru.same (x.2 b2 zom), h2, h3⟩
theorem MayH.put {J0 J G : Heap} {m6 b1 b2 n0 n1 m : Nat} {s u s' u' : Nat → Bool} (h : MayH J0 m6 b1 b2 n0 n1 J m s u) (f : ∀ j, j ≠ b1 → j ≠ b2 → G j = J j) (ra : BRowF G 4 b1 n0 s') (ru : BRowF G 4 b2 n1 u') : MayH J0 m6 b1 b2 n0 n1 G m s' u' := by
 have h1 := h.le;have h2 := h.l1;have h3 := h.l2;refine ⟨h1, fun j a b c => (f j b c).trans (h.fr j a b c), fun id o ho => ?_, ra, ru, h2, h3⟩;by_cases e1 : id = b1
 ·omega
 ·by_cases e2 : id = b2
  ·omega
  ·rw [f id e1 e2] at ho; exact h.ok id o ho
theorem ziq (W0 : World) {nx : Nat} {H : Heap} {ss : List (ByteArray × Int)} {most : Int} {a : Aut} {gi : Nat} {vi vf vo vc vn : Value} (hg : GoodM ss most a gi) (hm : most ≤ 200) (hgi : gi ≤ 1000) (ha : AutIn H a vi vf vo vc vn) :
  ACalls Tryz.prog W0 31 [.agg (zz a vi vf vo vc vn).toArray] nx H fun v nx' H' => ∃ b1 b2 n0 n1 : Nat, v = .tuple #[.slice (some ⟨b1, 0, none⟩) n0 n0, .slice (some ⟨b2, 0, none⟩) n1 n1] ∧ a.N = (n0 : Int) ∧ a.G = (n1 : Int) - 1 ∧ nx ≤ b1 ∧ b1 < nx' ∧ nx ≤ b2 ∧ b2 < nx' ∧ BRow H' 4 b1 n0 (fun k => ReachT a (0, (k : Int))) ∧ BRow H' 4 b2 n1 (fun k => ReachT a (1, (k : Int))) ∧ Ext nx H nx' H' := by
 obtain ⟨ia, ic, rfl⟩ := ha.init.slice;obtain ⟨fa, fc, rfl⟩ := ha.final.slice;obtain ⟨oa, oc, rfl⟩ := ha.opens.slice;obtain ⟨ca, cc, rfl⟩ := ha.closes.slice;obtain ⟨na, nc, rfl⟩ := ha.inners.slice;have hN0 := hg.N0;have hN1 := hg.N1;have hG0 := hg.G0;have hG1 := hg.G1;obtain ⟨n0, hn0⟩ : ∃ n0 : Nat, a.N = (n0 : Int) := ⟨a.N.toNat, zom⟩;obtain ⟨n1, hn1⟩ : ∃ n1 : Nat, a.G = (n1 : Int) - 1 := ⟨(a.G + 1).toNat, zom⟩;obtain ⟨l2, l3, l4, l5, l6⟩ := hg.len;have cS : ∀ x ∈ a.init, 0 ≤ x ∧ x < (n0 : Int) := fun x hx => by have := List.all_eq_true.1 hg.init x hx; rw [hn0] at this; simpa [stF] using this
 refine zm (fn := Tryz.f31) (c := _) Tryz.func31 rfl (fun tm n hn htm => ?_);have e0 : tm 0 = .agg (zz a (.slice ia a.init.length ic) (.slice fa a.final.length fc) (.slice oa a.opens.length oc) (.slice ca a.closes.length cc) (.slice na a.inners.length nc)).toArray := htm 0;clear htm;replace hn : n = 146 := hn;refine Trip.ok fun hok => ?_;replace hok : ∀ id o, H id = some o → id < nx := hok;refine z5h ?_;refine OpsL.new zsd (z0a evr) ?_;obtain ⟨H5, hH5⟩ : ∃ G, G = H.put nx (.cells (Value.agg (zz a (.slice ia a.init.length ic) (.slice fa a.final.length fc) (.slice oa a.opens.length oc) (.slice ca a.closes.length cc) (.slice na a.inners.length nc)).toArray).cells.toList 0 none false (some 30)) := ⟨_, rfl⟩;obtain ⟨m5, hm5⟩ : ∃ q, q = nx + 1 := ⟨_, rfl⟩;have x5 : Ext nx H m5 H5 := by rw [hH5, hm5]; exact zj
 have k5 : ∀ id o, H5 id = some o → id < m5 := by rw [hH5, hm5]; exact zF hok
 have b5 : H5 nx = some (.cells (zz a (.slice ia a.init.length ic) (.slice fa a.final.length fc) (.slice oa a.opens.length oc) (.slice ca a.closes.length cc) (.slice na a.inners.length nc)) 0 none false (some 30)) := by rw [hH5, zb]; rfl
 rw [← hH5, ← hm5];clear hH5 e0;refine zfm ?_;refine Trip.mono (Q := fun e st => e = .normal ∧ ∃ (tm' : Nat → Value) (b1 b2 m6 : Nat) (J : Heap), st = ⟨tm', n, J, m6⟩ ∧ Ext m5 H5 m6 J ∧ (∀ id o, J id = some o → id < m6) ∧ m5 ≤ b1 ∧ b1 < m6 ∧ m5 ≤ b2 ∧ b2 < m6 ∧ b1 ≠ b2 ∧ BRow J 4 b1 n0 (fun _ => False) ∧ BRow J 4 b2 n1 (fun _ => False) ∧ tm' 1 = .pointer (some ⟨nx, 0, none⟩) ∧ tm' 4 = .slice (some ⟨b1, 0, none⟩) n0 n0 ∧ tm' 5 = .slice (some ⟨b2, 0, none⟩) n1 n1) ?_ ?_
 ·refine zG [2, 6, 7, 8] (K := fun nx1 H1 => Ext m5 H5 nx1 H1) z1T krf krf [0, 1, 3, 4, 5, 2, 6, 7, 8] krf Ext.refl ?_;refine zg1 ?_;refine zx (v := .int .i64 (n0 : Int)) rfl krf zsd Ext.refl (fun HH nn hK => zp evr zxr rfl (by rw [Nat.zero_add, ← hn0]; exact ze ((hK.2 nx zom).trans b5) rfl)) ?_;refine zg1 ?_;refine zx (v := .int .i64 ((n1 : Int) - 1)) rfl krf zsd Ext.refl (fun HH nn hK => zp evr zxr rfl (by rw [Nat.zero_add, ← hn1]; exact ze ((hK.2 nx zom).trans b5) rfl)) ?_;refine zg5 ?_;refine zd (v := .int .i64 (n1 : Int)) (by rw [show (.int .i64 (n1 : Int) : Value) = .int .i64 ((n1 : Int) - 1 + 1) by rw [Int.sub_add_cancel]]; exact z5G) ?_;refine OpsL.nil ?_;refine z07 krf ?_ ?_
  ·refine zt rfl rfl ?_;refine OpsL.new (v := .slice (some ⟨m5, 0, none⟩) n0 n0) (o := .cells (rep n0 [.bool false]) 1 none false (some 4)) zsd (z0l evd evd (z09 (el := 4) zxr zxr zxr zxr zom)) ?_;obtain ⟨Ja, hJa⟩ : ∃ Q, Q = H5.put m5 (.cells (rep n0 [.bool false]) 1 none false (some 4)) := ⟨_, rfl⟩;have xJa : Ext m5 H5 (m5 + 1) Ja := by rw [hJa]; exact zj
   have kJa : ∀ id o, Ja id = some o → id < m5 + 1 := by rw [hJa]; exact zF k5
   have rJa : BRow Ja 4 m5 n0 (fun _ => False) := by rw [hJa]; exact BRow.new
   have EJa : Ext m5 H5 (m5 + 1) Ja := (Ext.refl : Ext m5 H5 m5 H5).trans xJa;rw [← hJa];clear hJa;refine OpsL.nil ⟨EJa, ?_⟩;refine z07 krf ?_ ?_
   ·refine zt rfl rfl ?_;refine OpsL.new (v := .slice (some ⟨(m5 + 1), 0, none⟩) n1 n1) (o := .cells (rep n1 [.bool false]) 1 none false (some 4)) zsd (z0l evd evd (z09 (el := 4) zxr zxr zxr zxr zom)) ?_;obtain ⟨Jb, hJb⟩ : ∃ Q, Q = Ja.put (m5 + 1) (.cells (rep n1 [.bool false]) 1 none false (some 4)) := ⟨_, rfl⟩;have xJb : Ext (m5 + 1) Ja ((m5 + 1) + 1) Jb := by rw [hJb]; exact zj
    have kJb : ∀ id o, Jb id = some o → id < (m5 + 1) + 1 := by rw [hJb]; exact zF kJa
    have rJb : BRow Jb 4 (m5 + 1) n1 (fun _ => False) := by rw [hJb]; exact BRow.new
    have EJb : Ext m5 H5 ((m5 + 1) + 1) Jb := EJa.trans xJb;rw [← hJb];clear hJb;have raJb := rJa.same (xJb.2 m5 zom);refine OpsL.nil ⟨EJb, ?_⟩;refine zg6 ?_;refine zd z0y ?_;refine OpsL.nil ⟨EJb, ?_⟩;refine zg6 ?_;refine zd z0y ?_;refine OpsL.nil ⟨EJb, ?_⟩;refine z0M ?_;exact ⟨rfl, _, m5, (m5 + 1), _, _, rfl, EJb, kJb, zom, zom, zom, zom, zom, raJb, rJb, stp, stp, stp⟩
   ·refine zt rfl rfl ?_;refine zd z0y ?_;refine OpsL.nil ⟨EJa, ?_⟩;refine zg6 ?_;refine OpsL.new (v := .slice (some ⟨(m5 + 1), 0, none⟩) n1 n1) (o := .cells (rep n1 [.bool false]) 1 none false (some 4)) zsd (z0l evd evd (z09 (el := 4) zxr zxr zxr zxr zom)) ?_;obtain ⟨Jb, hJb⟩ : ∃ Q, Q = Ja.put (m5 + 1) (.cells (rep n1 [.bool false]) 1 none false (some 4)) := ⟨_, rfl⟩;have xJb : Ext (m5 + 1) Ja ((m5 + 1) + 1) Jb := by rw [hJb]; exact zj
    have kJb : ∀ id o, Jb id = some o → id < (m5 + 1) + 1 := by rw [hJb]; exact zF kJa
    have rJb : BRow Jb 4 (m5 + 1) n1 (fun _ => False) := by rw [hJb]; exact BRow.new
    have EJb : Ext m5 H5 ((m5 + 1) + 1) Jb := EJa.trans xJb;rw [← hJb];clear hJb;have raJb := rJa.same (xJb.2 m5 zom);refine OpsL.nil ⟨EJb, ?_⟩;refine zg6 ?_;refine zd z0y ?_;refine OpsL.nil ⟨EJb, ?_⟩;refine z0M ?_;exact ⟨rfl, _, m5, (m5 + 1), _, _, rfl, EJb, kJb, zom, zom, zom, zom, zom, raJb, rJb, stp, stp, stp⟩
  ·refine zt rfl rfl ?_;refine OpsL.new (v := .slice (some ⟨m5, 0, none⟩) n1 n1) (o := .cells (rep n1 [.bool false]) 1 none false (some 4)) zsd (z0l evd evd (z09 (el := 4) zxr zxr zxr zxr zom)) ?_;obtain ⟨Jb, hJb⟩ : ∃ Q, Q = H5.put m5 (.cells (rep n1 [.bool false]) 1 none false (some 4)) := ⟨_, rfl⟩;have xJb : Ext m5 H5 (m5 + 1) Jb := by rw [hJb]; exact zj
   have kJb : ∀ id o, Jb id = some o → id < m5 + 1 := by rw [hJb]; exact zF k5
   have rJb : BRow Jb 4 m5 n1 (fun _ => False) := by rw [hJb]; exact BRow.new
   have EJb : Ext m5 H5 (m5 + 1) Jb := (Ext.refl : Ext m5 H5 m5 H5).trans xJb;rw [← hJb];clear hJb;refine OpsL.nil ⟨EJb, ?_⟩;refine zg6 ?_;refine OpsL.new (v := .slice (some ⟨(m5 + 1), 0, none⟩) n0 n0) (o := .cells (rep n0 [.bool false]) 1 none false (some 4)) zsd (z0l evd evd (z09 (el := 4) zxr zxr zxr zxr zom)) ?_;obtain ⟨Ja, hJa⟩ : ∃ Q, Q = Jb.put (m5 + 1) (.cells (rep n0 [.bool false]) 1 none false (some 4)) := ⟨_, rfl⟩;have xJa : Ext (m5 + 1) Jb ((m5 + 1) + 1) Ja := by rw [hJa]; exact zj
   have kJa : ∀ id o, Ja id = some o → id < (m5 + 1) + 1 := by rw [hJa]; exact zF kJb
   have rJa : BRow Ja 4 (m5 + 1) n0 (fun _ => False) := by rw [hJa]; exact BRow.new
   have EJa : Ext m5 H5 ((m5 + 1) + 1) Ja := EJb.trans xJa;rw [← hJa];clear hJa;have rbJa := rJb.same (xJa.2 m5 zom);refine OpsL.nil ⟨EJa, ?_⟩;refine zg6 ?_;refine zd z0y ?_;refine OpsL.nil ⟨EJa, ?_⟩;refine zg6 ?_;refine zd z0y ?_;refine OpsL.nil ⟨EJa, ?_⟩;refine z0M ?_;exact ⟨rfl, _, (m5 + 1), m5, _, _, rfl, EJa, kJa, zom, zom, zom, zom, zom, rJa, rbJa, stp, stp, stp⟩
 rintro e st ⟨rfl, tm6, b1, b2, m6, J0, rfl, x6, k6, hb1, hb1', hb2, hb2', hbne, r1, r2, e1, e4, e5⟩
 (change Trip _ _ _ _ _)
 have hle6 := x6.1;have bA := (x6.2 nx zom).trans b5;have xA : Ext nx H m6 J0 := x5.trans x6;have hAt : ∀ {J : Heap}, (∀ j, j < m6 → j ≠ b1 → j ≠ b2 → J j = J0 j) → AutIn J a (.slice ia a.init.length ic) (.slice fa a.final.length fc) (.slice oa a.opens.length oc) (.slice ca a.closes.length cc) (.slice na a.inners.length nc) := fun {J} fr => ha.ext (⟨Nat.le_refl _, fun j hj => (fr j zom zom zom).trans (xA.2 j hj)⟩ : Ext nx H nx J) hok;have hat : ∀ {J : Heap}, (∀ j, j < m6 → j ≠ b1 → j ≠ b2 → J j = J0 j) → J nx = some (.cells (zz a (.slice ia a.init.length ic) (.slice fa a.final.length fc) (.slice oa a.opens.length oc) (.slice ca a.closes.length cc) (.slice na a.inners.length nc)) 0 none false (some 30)) := fun {J} fr => (fr nx zom zom zom).trans bA;clear x5 b5 x6 bA;refine zfl ?_;refine z1K (b := b2) (m := n1) (j := 0) evr evr zxr r2 zom zom fun J1 r2' f2 => ?_
 have h1 : MayH J0 m6 b1 b2 n0 n1 J1 m6 (fun _ => false) (z4t (fun _ => false) 0) := by
  refine MayH.put (J := J0) (s := fun _ => false) (u := fun _ => false) ⟨Nat.le_refl _, fun _ _ _ _ => rfl, k6, r1.iff fun k _ => by simp, r2.iff fun k _ => by simp, hb1', hb2'⟩ (fun j _ hj => f2 j hj) ((r1.same (f2 b1 hbne)).iff fun k _ => by simp) (r2'.iff fun k _ => by unfold z4t; simp)
 clear r1 r2 r2' f2 k6;refine zg9 ?_;refine Trip.mono (Q := fun e st => e = .exit 0 ∧ ∃ (tm' : Nat → Value) (J : Heap) (s : Nat → Bool), st = ⟨tm', n, J, m6⟩ ∧ MayH J0 m6 b1 b2 n0 n1 J m6 s (z4t (fun _ => false) 0) ∧ MaySt a s (z4t (fun _ => false) 0) ∧ tm' 1 = .pointer (some ⟨nx, 0, none⟩) ∧ tm' 4 = .slice (some ⟨b1, 0, none⟩) n0 n0 ∧ tm' 5 = .slice (some ⟨b2, 0, none⟩) n1 n1) ?_ ?_
 ·refine zu (fun (i : Nat) st => ∃ (tm' : Nat → Value) (J : Heap) (s : Nat → Bool), st = ⟨tm', n, J, m6⟩ ∧ MayH J0 m6 b1 b2 n0 n1 J m6 s (z4t (fun _ => false) 0) ∧ (∀ k : Nat, s k = true → ReachT a (0, (k : Int))) ∧ (∀ x ∈ a.init.take i, s x.toNat = true) ∧ tm' 1 = .pointer (some ⟨nx, 0, none⟩) ∧ tm' 4 = .slice (some ⟨b1, 0, none⟩) n0 n0 ∧ tm' 5 = .slice (some ⟨b2, 0, none⟩) n1 n1 ∧ tm' 6 = .int .i64 (i : Int) ∧ i ≤ a.init.length) (fun i => a.init.length - i) 0 ?_ ?_
  ·exact ⟨_, _, _, rfl, h1, fun k hk => (by cases hk), fun x hx => (by cases hx), stp, stp, stp, stp, Nat.zero_le _⟩
  ·clear e1 e4 e5 h1;rintro i st ⟨tm', J, s, rfl, hH, hs, hini, e1, e4, e5, ei, hi⟩;have cF : zh J ⟨nx, 2, none⟩ (.slice ia a.init.length ic) := ze (hat hH.fr) rfl;by_cases hlt : i < a.init.length
   case neg =>
    have hie : i = a.init.length := by omega
    subst hie;rw [List.take_length] at hini;refine z7b ?_;refine ⟨rfl, _, _, _, rfl, hH, ⟨hs, fun k hk => ?_, hini, zcN _ _⟩, stp, stp, stp⟩;rcases z3X hk with rfl | hk
    ·exact .bot
    ·cases hk
   case pos =>
    obtain ⟨p, hp, gr⟩ := z0g (hAt hH.fr).init hlt;subst hp;obtain ⟨r, hr⟩ : ∃ r, a.init[i] = r := ⟨_, rfl⟩;have hmem : r ∈ a.init := by rw [← hr]; exact List.getElem_mem hlt
    obtain ⟨t0, t1⟩ := cS r hmem;rw [hr] at gr;refine zg8 ?_;refine z1K (b := b1) (m := n0) (j := r) evr evr zxr hH.ra t0 t1 fun K2 r1' f2 => ?_;have hH2 := hH.put (fun j h _ => f2 j h) r1'.putS (hH.ru.same (f2 b2 (Ne.symm hbne)));refine zg7 ?_;exact ⟨i + 1, ⟨_, _, _, rfl, hH2, fun k hk => (z3X hk).elim (fun e => by subst e; rw [Int.toNat_of_nonneg t0]; exact .init hmem) (hs k), z27 hlt (fun x hx => z7w (hini x hx)) (by rw [hr]; exact zcN _ _), stp, stp, stp, stp, zom⟩, zom⟩
 clear e1 e4 e5 h1;rintro e st ⟨rfl, tm7, J1, s1, rfl, hH, hS, e1, e4, e5⟩;refine z5x ?_;refine Trip.mono (Q := fun e st => e = .exit 2 ∧ ∃ (tm' : Nat → Value) (J : Heap) (m : Nat) (s u : Nat → Bool), st = ⟨tm', n, J, m⟩ ∧ MayH J0 m6 b1 b2 n0 n1 J m s u ∧ (∀ k : Nat, s k = true ↔ ReachT a (0, (k : Int))) ∧ (∀ k : Nat, u k = true ↔ ReachT a (1, (k : Int))) ∧ tm' 1 = .pointer (some ⟨nx, 0, none⟩) ∧ tm' 4 = .slice (some ⟨b1, 0, none⟩) n0 n0 ∧ tm' 5 = .slice (some ⟨b2, 0, none⟩) n1 n1) ?_ ?_
 ·refine zu (fun (q : (Nat → Bool) × (Nat → Bool) × Bool) st => ∃ (tm' : Nat → Value) (J : Heap) (m : Nat), st = ⟨tm', n, J, m⟩ ∧ MayH J0 m6 b1 b2 n0 n1 J m q.1 q.2.1 ∧ MaySt a q.1 q.2.1 ∧ (q.2.2 = false → ClO a q.1 q.2.1 a.opens.length ∧ ClC a q.1 q.2.1 a.closes.length ∧ ClN a q.1 a.inners.length) ∧ tm' 1 = .pointer (some ⟨nx, 0, none⟩) ∧ tm' 4 = .slice (some ⟨b1, 0, none⟩) n0 n0 ∧ tm' 5 = .slice (some ⟨b2, 0, none⟩) n1 n1 ∧ tm' 7 = .bool q.2.2) (fun q => 2 * (n0 + n1 - (z5R q.1 n0 + z5R q.2.1 n1)) + if q.2.2 then 1 else 0) (s1, z4t (fun _ => false) 0, true) ?_ ?_
  ·exact ⟨_, _, _, rfl, hH, hS, fun h => (by cases h), stp, stp, stp, stp⟩
  ·clear e1 e4 e5 hH hS;rintro ⟨s0, u0, g0⟩ st ⟨tm', J, m, rfl, hH, hS, hC, e1, e4, e5, e7⟩;dsimp only at hH hS hC e7;cases g0 with
   | false =>
    obtain ⟨hO, hC, hI⟩ := hC rfl;obtain ⟨q1, q2⟩ := hS.all hg hO hC hI;refine zaE ?_
    repeat fail
    refine z6y ?_;exact ⟨rfl, _, _, _, _, _, rfl, hH, q1, q2, stp, stp, stp⟩
   | true =>
    clear hC;obtain ⟨c0, hc0⟩ : ∃ c0, c0 = z5R s0 n0 + z5R u0 n1 := ⟨_, rfl⟩;have hR : RoundI a n0 n1 c0 s0 u0 false := ⟨hS, zom, fun h => (by cases h)⟩;refine zaE ?_
    repeat fail
    refine z11 ?_;refine zdM ?_;refine Trip.mono (Q := fun e st => e = .exit 4 ∧ ∃ (tm' : Nat → Value) (J : Heap) (m : Nat) (s' u' : Nat → Bool) (g : Bool), st = ⟨tm', n, J, m⟩ ∧ MayH J0 m6 b1 b2 n0 n1 J m s' u' ∧ RoundI a n0 n1 c0 s' u' g ∧ (g = false → ClO a s' u' a.opens.length) ∧ tm' 1 = .pointer (some ⟨nx, 0, none⟩) ∧ tm' 4 = .slice (some ⟨b1, 0, none⟩) n0 n0 ∧ tm' 5 = .slice (some ⟨b2, 0, none⟩) n1 n1 ∧ tm' 7 = .bool g) ?_ ?_
    ·refine zu (fun (i : Nat) st => ∃ (tm' : Nat → Value) (J : Heap) (m : Nat) (s' u' : Nat → Bool) (g : Bool), st = ⟨tm', n, J, m⟩ ∧ MayH J0 m6 b1 b2 n0 n1 J m s' u' ∧ RoundI a n0 n1 c0 s' u' g ∧ (g = false → ClO a s' u' i) ∧ tm' 1 = .pointer (some ⟨nx, 0, none⟩) ∧ tm' 4 = .slice (some ⟨b1, 0, none⟩) n0 n0 ∧ tm' 5 = .slice (some ⟨b2, 0, none⟩) n1 n1 ∧ tm' 7 = .bool g ∧ tm' 8 = .int .i64 (i : Int) ∧ i ≤ a.opens.length) (fun i => a.opens.length - i) 0 ?_ ?_
     ·exact ⟨_, _, _, _, _, _, rfl, hH, hR, fun _ => fun r hr => (by cases hr), stp, stp, stp, stp, stp, Nat.zero_le _⟩
     ·clear e1 e4 e5 e7 hH hR hS;rintro i st ⟨tm', J, m, s', u', g, rfl, hH, hR, hC, e1, e4, e5, e7, ei, hi⟩;have cF : zh J ⟨nx, 4, none⟩ (.slice oa a.opens.length oc) := ze (hat hH.fr) rfl;by_cases hlt : i < a.opens.length
      case neg =>
       have hie : i = a.opens.length := by omega
       subst hie;refine z7b ?_;exact ⟨rfl, _, _, _, _, _, _, rfl, hH, hR, hC, stp, stp, stp, stp⟩
      case pos =>
       obtain ⟨p, hp, gr⟩ := zX (hAt hH.fr).opens hlt;subst hp;obtain ⟨r, hr⟩ : ∃ r, a.opens[i] = r := ⟨_, rfl⟩;have hmem : r ∈ a.opens := by rw [← hr]; exact List.getElem_mem hlt
       have hgd := zcB hg hmem;rw [hn0, hn1] at hgd;obtain ⟨⟨f0, f1⟩, -, ⟨t0, t1⟩, p0, p1⟩ := hgd;rw [hr] at gr;refine zg8 ?_;refine z37 (k := 4) (vs := Go.Am.e4 r) (zs := (rep 4 [.int .i64 0])) gr hH.ok (fun G xG kG bG => ?_) evr zxr rfl zxr rfl krf rfl rfl zsd zsd (by decide);clear gr;have hmb : m ≠ b1 ∧ m ≠ b2 := by have := hH.l1; have := hH.l2; have := hH.le; omega
       replace hH := hH.box xG kG;have d0 : zh G ⟨m, 0, none⟩ (.int .i64 r.1) := ze bG rfl;have d2 : zh G ⟨m, 2, none⟩ (.int .i64 r.2.2.1) := ze bG rfl;have d3 : zh G ⟨m, 3, none⟩ (.int .i64 r.2.2.2) := ze bG rfl;have y0 := hH.ra.get (j := r.1) f0 zom;have yt := hH.ra.get (j := r.2.2.1) t0 zom;have yp := hH.ru.get (j := r.2.2.2) zom zom;cases hf : s' r.1.toNat with
       | false =>
        rw [hf] at y0
        repeat (first | (refine zd (by first | exact omv | exact z2Z | exact ofa | exact old | exact z2Y) ?_) | refine Trip.seq ?_ | refine zk ?_ | (refine OpsL.nil ?_; (change Trip _ _ _ _ _)) | refine zW ?_ | refine z3o ?_)
        refine zg4 ?_;exact ⟨i + 1, ⟨_, _, _, _, _, _, rfl, hH, hR, fun hg0 => z27 hlt (hC hg0) (by rw [hr]; exact fun q => (by rw [hf] at q; cases q)), stp, stp, stp, stp, stp, zom⟩, zom⟩
       | true =>
        rw [hf] at y0;cases ht : s' r.2.2.1.toNat with
        | false =>
         rw [ht] at yt
         repeat (first | (refine zd (by first | exact omv | exact z7e | exact z2Z | exact ofa | exact old | exact z3i) ?_) | refine Trip.seq ?_ | refine zk ?_ | (refine OpsL.nil ?_; (change Trip _ _ _ _ _)) | refine zA ?_ | refine zW ?_)
         refine z11 ?_
         repeat fail
         have hre := hR.st.move (m := z1d r) (List.mem_append.2 (.inl (List.mem_append.2 (.inl (List.mem_map.2 ⟨r, hmem, rfl⟩))))) f0 (Int.le_refl 0) hf hR.st.bot;refine zG [7, 9] (K := fun _ HH => ∀ j, j ≠ b1 → j ≠ b2 → HH j = G j) z1T krf krf [0, 1, 2, 3, 4, 5, 6, 7, 8, 9, 10] krf (fun _ _ _ => rfl) ?_;refine z5w ?_;refine zg1 ?_;refine zx (v := .int .i64 r.2.2.1) rfl krf zsd (fun _ _ _ => rfl) (fun HH nn hK => zp evr zxr rfl (by rw [Nat.zero_add]; exact ze ((hK m hmb.1 hmb.2).trans bG) rfl)) ?_;refine z4W ?_;refine zx (v := .int .i64 r.2.2.2) rfl krf zsd (fun _ _ _ => rfl) (fun HH nn hK => zp evr zxr rfl (by rw [Nat.zero_add]; exact ze ((hK m hmb.1 hmb.2).trans bG) rfl)) ?_;refine z3C ?_;refine zg6 ?_;refine z1K (b := b1) (m := n0) (j := r.2.2.1) evr evr zxr hH.ra t0 zom fun K2 r1' f2 => ?_;refine OpsL.nil ⟨fun j h1 h2 => f2 j h1, ?_⟩;refine z3C ?_;refine zg6 ?_;refine z1K (b := b2) (m := n1) (j := r.2.2.2) evr evr zxr (hH.ru.same (f2 b2 (Ne.symm hbne))) zom zom fun K3 r2' f3 => ?_;refine OpsL.nil ⟨fun j h1 h2 => (f3 j h2).trans (f2 j h1), ?_⟩;refine zbo ?_;refine zfq ?_;exact ⟨i + 1, ⟨_, _, _, _, _, _, rfl, hH.put (fun j h1 h2 => (f3 j h2).trans (f2 j h1)) (r1'.same (f3 b1 hbne)).putS r2'.putS, hR.putAU t0 zom zom zom hre.1 hre.2 (.inl ht), fun hg0 => (by cases hg0), stp, stp, stp, stp, stp, zom⟩, zom⟩
        | true =>
         rw [ht] at yt;cases hp : u' r.2.2.2.toNat with
         | true =>
          rw [hp] at yp;refine zgJ ?_;refine zg4 ?_;exact ⟨i + 1, ⟨_, _, _, _, _, _, rfl, hH, hR, fun hg0 => z27 hlt (hC hg0) (by rw [hr]; exact fun _ => ⟨ht, hp⟩), stp, stp, stp, stp, stp, zom⟩, zom⟩
         | false =>
          rw [hp] at yp;refine zgJ ?_;refine z11 ?_
          repeat fail
          have hre := hR.st.move (m := z1d r) (List.mem_append.2 (.inl (List.mem_append.2 (.inl (List.mem_map.2 ⟨r, hmem, rfl⟩))))) f0 (Int.le_refl 0) hf hR.st.bot;refine zG [7, 9] (K := fun _ HH => ∀ j, j ≠ b1 → j ≠ b2 → HH j = G j) z1T krf krf [0, 1, 2, 3, 4, 5, 6, 7, 8, 9, 10] krf (fun _ _ _ => rfl) ?_;refine z5w ?_;refine zg1 ?_;refine zx (v := .int .i64 r.2.2.1) rfl krf zsd (fun _ _ _ => rfl) (fun HH nn hK => zp evr zxr rfl (by rw [Nat.zero_add]; exact ze ((hK m hmb.1 hmb.2).trans bG) rfl)) ?_;refine z4W ?_;refine zx (v := .int .i64 r.2.2.2) rfl krf zsd (fun _ _ _ => rfl) (fun HH nn hK => zp evr zxr rfl (by rw [Nat.zero_add]; exact ze ((hK m hmb.1 hmb.2).trans bG) rfl)) ?_;refine z3C ?_;refine zg6 ?_;refine z1K (b := b1) (m := n0) (j := r.2.2.1) evr evr zxr hH.ra t0 zom fun K2 r1' f2 => ?_;refine OpsL.nil ⟨fun j h1 h2 => f2 j h1, ?_⟩;refine z3C ?_;refine zg6 ?_;refine z1K (b := b2) (m := n1) (j := r.2.2.2) evr evr zxr (hH.ru.same (f2 b2 (Ne.symm hbne))) zom zom fun K3 r2' f3 => ?_;refine OpsL.nil ⟨fun j h1 h2 => (f3 j h2).trans (f2 j h1), ?_⟩;refine zbo ?_;refine zfq ?_;exact ⟨i + 1, ⟨_, _, _, _, _, _, rfl, hH.put (fun j h1 h2 => (f3 j h2).trans (f2 j h1)) (r1'.same (f3 b1 hbne)).putS r2'.putS, hR.putAU t0 zom zom zom hre.1 hre.2 (.inr hp), fun hg0 => (by cases hg0), stp, stp, stp, stp, stp, zom⟩, zom⟩
    clear e1 e4 e5 e7 hH hR hS;rintro e st ⟨rfl, tm9, J, m, s', u', g, rfl, hH, hR, hC, e1, e4, e5, e7⟩;refine z5x ?_;refine Trip.mono (Q := fun e st => e = .exit 6 ∧ ∃ (tm' : Nat → Value) (J : Heap) (m : Nat) (s' u' : Nat → Bool) (g : Bool), st = ⟨tm', n, J, m⟩ ∧ MayH J0 m6 b1 b2 n0 n1 J m s' u' ∧ RoundI a n0 n1 c0 s' u' g ∧ (g = false → ClO a s' u' a.opens.length ∧ ClC a s' u' a.closes.length) ∧ tm' 1 = .pointer (some ⟨nx, 0, none⟩) ∧ tm' 4 = .slice (some ⟨b1, 0, none⟩) n0 n0 ∧ tm' 5 = .slice (some ⟨b2, 0, none⟩) n1 n1 ∧ tm' 7 = .bool g) ?_ ?_
    ·refine zu (fun (i : Nat) st => ∃ (tm' : Nat → Value) (J : Heap) (m : Nat) (s' u' : Nat → Bool) (g : Bool), st = ⟨tm', n, J, m⟩ ∧ MayH J0 m6 b1 b2 n0 n1 J m s' u' ∧ RoundI a n0 n1 c0 s' u' g ∧ (g = false → ClO a s' u' a.opens.length ∧ ClC a s' u' i) ∧ tm' 1 = .pointer (some ⟨nx, 0, none⟩) ∧ tm' 4 = .slice (some ⟨b1, 0, none⟩) n0 n0 ∧ tm' 5 = .slice (some ⟨b2, 0, none⟩) n1 n1 ∧ tm' 7 = .bool g ∧ tm' 10 = .int .i64 (i : Int) ∧ i ≤ a.closes.length) (fun i => a.closes.length - i) 0 ?_ ?_
     ·exact ⟨_, _, _, _, _, _, rfl, hH, hR, fun hg0 => ⟨hC hg0, fun r hr => (by cases hr)⟩, stp, stp, stp, stp, stp, Nat.zero_le _⟩
     ·clear e1 e4 e5 e7 hH hR hC;rintro i st ⟨tm', J, m, s', u', g, rfl, hH, hR, hC, e1, e4, e5, e7, ei, hi⟩;have cF : zh J ⟨nx, 5, none⟩ (.slice ca a.closes.length cc) := ze (hat hH.fr) rfl;by_cases hlt : i < a.closes.length
      case neg =>
       have hie : i = a.closes.length := by omega
       subst hie;refine z7b ?_;exact ⟨rfl, _, _, _, _, _, _, rfl, hH, hR, hC, stp, stp, stp, stp⟩
      case pos =>
       obtain ⟨p, hp, gr⟩ := zX (hAt hH.fr).closes hlt;subst hp;obtain ⟨r, hr⟩ : ∃ r, a.closes[i] = r := ⟨_, rfl⟩;have hmem : r ∈ a.closes := by rw [← hr]; exact List.getElem_mem hlt
       have hgd := zcD hg hmem;rw [hn0, hn1] at hgd;obtain ⟨⟨f0, f1⟩, -, ⟨t0, t1⟩, p0, p1⟩ := hgd;rw [hr] at gr;refine zg8 ?_;refine z37 (k := 4) (vs := Go.Am.e4 r) (zs := (rep 4 [.int .i64 0])) gr hH.ok (fun G xG kG bG => ?_) evr zxr rfl zxr rfl krf rfl rfl zsd zsd (by decide);clear gr;replace hH := hH.box xG kG;have d0 : zh G ⟨m, 0, none⟩ (.int .i64 r.1) := ze bG rfl;have d2 : zh G ⟨m, 2, none⟩ (.int .i64 r.2.2.1) := ze bG rfl;have d3 : zh G ⟨m, 3, none⟩ (.int .i64 r.2.2.2) := ze bG rfl;have y0 := hH.ra.get (j := r.1) f0 zom;have yt := hH.ra.get (j := r.2.2.2) t0 zom;have yp := hH.ru.get (j := r.2.2.1) zom zom;cases hf : s' r.1.toNat with
       | false =>
        rw [hf] at y0;refine zi0 ?_;exact ⟨i + 1, ⟨_, _, _, _, _, _, rfl, hH, hR, fun hg0 => ⟨(hC hg0).1, z27 hlt (hC hg0).2 (by rw [hr]; exact fun q => (by rw [hf] at q; cases q))⟩, stp, stp, stp, stp, stp, zom⟩, zom⟩
       | true =>
        rw [hf] at y0;cases hp : u' r.2.2.1.toNat with
        | false =>
         rw [hp] at yp
         repeat (first | (refine zd (by first | exact omv | exact z2Z | exact ofa | exact old | exact z3i | exact z2Y) ?_) | refine Trip.seq ?_ | refine zk ?_ | (refine OpsL.nil ?_; (change Trip _ _ _ _ _)) | refine zA ?_ | refine zW ?_)
         refine zg4 ?_;exact ⟨i + 1, ⟨_, _, _, _, _, _, rfl, hH, hR, fun hg0 => ⟨(hC hg0).1, z27 hlt (hC hg0).2 (by rw [hr]; exact fun _ q => (by rw [hp] at q; cases q))⟩, stp, stp, stp, stp, stp, zom⟩, zom⟩
        | true =>
         rw [hp] at yp;cases ht : s' r.2.2.2.toNat with
         | true =>
          rw [ht] at yt;refine zhO ?_;refine zg4 ?_;exact ⟨i + 1, ⟨_, _, _, _, _, _, rfl, hH, hR, fun hg0 => ⟨(hC hg0).1, z27 hlt (hC hg0).2 (by rw [hr]; exact fun _ _ => ht)⟩, stp, stp, stp, stp, stp, zom⟩, zom⟩
         | false =>
          rw [ht] at yt;have hre := hR.st.move (m := z1S r) (List.mem_append.2 (.inl (List.mem_append.2 (.inr (List.mem_map.2 ⟨r, hmem, rfl⟩))))) f0 p0 hf hp;refine zhO ?_;refine z11 ?_
          repeat (first | (refine zd (by first | exact omv | exact z2Z | exact ofa | exact old) ?_) | refine zk ?_)
          refine z1K (b := b1) (m := n0) (j := r.2.2.2) evr evr zxr hH.ra t0 zom fun K2 r1' f2 => ?_;have hH2 := hH.put (fun j h _ => f2 j h) r1'.putS (hH.ru.same (f2 b2 (Ne.symm hbne)));have hR2 := hR.putA t0 zom hre.1 ht;refine zg7 ?_;exact ⟨i + 1, ⟨_, _, _, _, _, _, rfl, hH2, hR2, fun hg0 => (by cases hg0), stp, stp, stp, stp, stp, zom⟩, zom⟩
    clear e1 e4 e5 e7 hH hR hC;rintro e st ⟨rfl, tm9, J, m, s', u', g, rfl, hH, hR, hC, e1, e4, e5, e7⟩;refine z5x ?_;refine Trip.mono (Q := fun e st => e = .exit 8 ∧ ∃ (tm' : Nat → Value) (J : Heap) (m : Nat) (s' u' : Nat → Bool) (g : Bool), st = ⟨tm', n, J, m⟩ ∧ MayH J0 m6 b1 b2 n0 n1 J m s' u' ∧ RoundI a n0 n1 c0 s' u' g ∧ (g = false → ClO a s' u' a.opens.length ∧ ClC a s' u' a.closes.length ∧ ClN a s' a.inners.length) ∧ tm' 1 = .pointer (some ⟨nx, 0, none⟩) ∧ tm' 4 = .slice (some ⟨b1, 0, none⟩) n0 n0 ∧ tm' 5 = .slice (some ⟨b2, 0, none⟩) n1 n1 ∧ tm' 7 = .bool g) ?_ ?_
    ·refine zu (fun (i : Nat) st => ∃ (tm' : Nat → Value) (J : Heap) (m : Nat) (s' u' : Nat → Bool) (g : Bool), st = ⟨tm', n, J, m⟩ ∧ MayH J0 m6 b1 b2 n0 n1 J m s' u' ∧ RoundI a n0 n1 c0 s' u' g ∧ (g = false → ClO a s' u' a.opens.length ∧ ClC a s' u' a.closes.length ∧ ClN a s' i) ∧ tm' 1 = .pointer (some ⟨nx, 0, none⟩) ∧ tm' 4 = .slice (some ⟨b1, 0, none⟩) n0 n0 ∧ tm' 5 = .slice (some ⟨b2, 0, none⟩) n1 n1 ∧ tm' 7 = .bool g ∧ tm' 12 = .int .i64 (i : Int) ∧ i ≤ a.inners.length) (fun i => a.inners.length - i) 0 ?_ ?_
     ·exact ⟨_, _, _, _, _, _, rfl, hH, hR, fun hg0 => ⟨(hC hg0).1, (hC hg0).2, fun r hr => (by cases hr)⟩, stp, stp, stp, stp, stp, Nat.zero_le _⟩
     ·clear e1 e4 e5 e7 hH hR hC;rintro i st ⟨tm', J, m, s', u', g, rfl, hH, hR, hC, e1, e4, e5, e7, ei, hi⟩;have cF : zh J ⟨nx, 6, none⟩ (.slice na a.inners.length nc) := ze (hat hH.fr) rfl;by_cases hlt : i < a.inners.length
      case neg =>
       have hie : i = a.inners.length := by omega
       subst hie;refine z7b ?_;exact ⟨rfl, _, _, _, _, _, _, rfl, hH, hR, hC, stp, stp, stp, stp⟩
      case pos =>
       obtain ⟨p, hp, gr⟩ := zX (hAt hH.fr).inners hlt;subst hp;obtain ⟨r, hr⟩ : ∃ r, a.inners[i] = r := ⟨_, rfl⟩;have hmem : r ∈ a.inners := by rw [← hr]; exact List.getElem_mem hlt
       have hgd := zcC hg hmem;rw [hn0] at hgd;obtain ⟨⟨f0, f1⟩, -, t0, t1⟩ := hgd;rw [hr] at gr;refine zg8 ?_;refine z37 (k := 3) (vs := Go.Am.e3 r) (zs := (rep 3 [.int .i64 0])) gr hH.ok (fun G xG kG bG => ?_) evr zxr rfl zxr rfl krf rfl rfl zsd zsd (by decide);clear gr;replace hH := hH.box xG kG;have d0 : zh G ⟨m, 0, none⟩ (.int .i64 r.1) := ze bG rfl;have d2 : zh G ⟨m, 2, none⟩ (.int .i64 r.2.2) := ze bG rfl;have y0 := hH.ra.get (j := r.1) f0 zom;have yt := hH.ra.get (j := r.2.2) t0 zom;cases hf : s' r.1.toNat with
       | false =>
        rw [hf] at y0;refine zi0 ?_;exact ⟨i + 1, ⟨_, _, _, _, _, _, rfl, hH, hR, fun hg0 => ⟨(hC hg0).1, (hC hg0).2.1, z27 hlt (hC hg0).2.2 (by rw [hr]; exact fun q => (by rw [hf] at q; cases q))⟩, stp, stp, stp, stp, stp, zom⟩, zom⟩
       | true =>
        rw [hf] at y0;cases ht : s' r.2.2.toNat with
        | true =>
         rw [ht] at yt;refine zhO ?_;refine zg4 ?_;exact ⟨i + 1, ⟨_, _, _, _, _, _, rfl, hH, hR, fun hg0 => ⟨(hC hg0).1, (hC hg0).2.1, z27 hlt (hC hg0).2.2 (by rw [hr]; exact fun _ => ht)⟩, stp, stp, stp, stp, stp, zom⟩, zom⟩
        | false =>
         rw [ht] at yt;have hre := hR.st.move (m := z3A r) (List.mem_append.2 (.inr (List.mem_map.2 ⟨r, hmem, rfl⟩))) f0 (Int.le_refl 0) hf hR.st.bot;refine zhO ?_;refine z11 ?_
         repeat (first | (refine zd (by first | exact omv | exact z2Z | exact ofa | exact old) ?_) | refine zk ?_)
         refine z1K (b := b1) (m := n0) (j := r.2.2) evr evr zxr hH.ra t0 zom fun K2 r1' f2 => ?_;have hH2 := hH.put (fun j h _ => f2 j h) r1'.putS (hH.ru.same (f2 b2 (Ne.symm hbne)));have hR2 := hR.putA t0 zom hre.1 ht;refine zg7 ?_;exact ⟨i + 1, ⟨_, _, _, _, _, _, rfl, hH2, hR2, fun hg0 => (by cases hg0), stp, stp, stp, stp, stp, zom⟩, zom⟩
    clear e1 e4 e5 e7 hH hR hC;rintro e st ⟨rfl, tm9, J, m, s', u', g, rfl, hH, hR, hC, e1, e4, e5, e7⟩;refine zcw ?_
    repeat fail
    have hle1 := zcW s' n0;have hle2 := zcW u' n1;have hRle := hR.le;cases g with
    | false => exact ⟨(s', u', false), ⟨_, _, _, rfl, hH, hR.st, fun _ => hC rfl, stp, stp, stp, stp⟩, by simp only [Bool.false_eq_true, ↓reduceIte]; omega⟩
    | true =>
     have := hR.lt rfl;exact ⟨(s', u', true), ⟨_, _, _, rfl, hH, hR.st, fun h => (by cases h), stp, stp, stp, stp⟩, by simp only [↓reduceIte]; omega⟩
 clear e1 e4 e5 hH hS;rintro e st ⟨rfl, tm8, J, m, s, u, rfl, hH, hs, hu, e1, e4, e5⟩;refine z4r ?_;refine zcr ?_;have hle := hH.le;exact ⟨.inr rfl, _, zb0, b1, b2, n0, n1, stp, hn0, hn1, zom, zom, zom, zom, hH.ra.iff fun k _ => hs k, hH.ru.iff fun k _ => hu k, ⟨zom, fun j hj => (hH.fr j zom zom zom).trans (xA.2 j hj)⟩⟩
end Go.Proofs.YteplpegfcpmflaaGreat
namespace Go.Proofs.YteplpegfcpmflaaGreat
open Go.RowKit Go.Am
attribute [local irreducible] aop OpsL Trip zI z2r OpsK OpsR
theorem z4T : Am.z0O Tryz.prog 32 := ⟨Tryz.f32, Tryz.func32, by kernel_rfl, by kernel_rfl⟩
theorem z6V {L : List Int} {x : Int} (h : x ∉ L) : z0T L x = none := by
 cases e : z0T L x with
 | none => rfl
 | some y => exact absurd (zfW e).1 h
theorem zb4 (W0 : World) {nx : Nat} {H : Heap} {b n0 : Nat} {L : List Int} (hb : BRow H 4 b n0 fun i => (i : Int) ∈ L) (hL : L.Pairwise (· < ·)) (hB : ∀ y ∈ L, 0 ≤ y ∧ y < n0) (hn0 : n0 ≤ 100000) :
  ACalls Tryz.prog W0 32 [.slice (some ⟨b, 0, none⟩) n0 n0, .int .i64 0] nx H fun v nx' H' => ∃ B, v = .tuple #[.slice (some ⟨B, 0, none⟩) n0 n0, .int .i64 (L.length : Int)] ∧ nx ≤ B ∧ B < nx' ∧ IRow H' 3 B n0 (fun i => (z0T L (i : Int)).getD 0) ∧ Ext nx H nx' H' := by
 refine zm (fn := Tryz.f32) (c := _) Tryz.func32 rfl (fun tm n hn htm => ?_);have q0 : tm 0 = .slice (some ⟨b, 0, none⟩) n0 n0 := htm 0;have q1 : tm 1 = .int .i64 0 := htm 1;clear htm;replace hn : n = 31 := hn;refine Trip.ok fun hok => ?_;replace hok : ∀ id o, H id = some o → id < nx := hok;have hbn : b < nx := by obtain ⟨cs, q, _⟩ := hb; exact hok _ _ q
 refine zgl ?_;refine OpsL.new (v := .slice (some ⟨nx, 0, none⟩) n0 n0) (o := .cells (rep n0 [.int .i64 0]) 1 none false (some 3)) zsd (z0l evd evd (z6u (el := 3) zxr zxr zxr zxr zom)) ?_;obtain ⟨G, hG⟩ : ∃ G, G = H.put nx (.cells (rep n0 [.int .i64 0]) 1 none false (some 3)) := ⟨_, rfl⟩;have x0 : Ext nx H (nx + 1) G := by rw [hG]; exact zj
 have r0 : IRow G 3 nx n0 (fun _ => 0) := by rw [hG]; exact ⟨_, zb, ICells.zero n0⟩
 have hb0 : BRow G 4 b n0 (fun i => (i : Int) ∈ L) := hb.ext x0 hbn;rw [← hG];clear hG;have c0 : z8c L 0 = 0 := zdv fun y hy => (hB y hy).1
 repeat (first | (refine zd (by first | exact omv | exact z0y) ?_) | refine Trip.seq ?_ | refine zk ?_ | refine Trip.block ?_ | (refine OpsL.nil ?_; (change Trip _ _ _ _ _)))
 refine Trip.mono (Q := fun e st => e = .exit 0 ∧ ∃ (tm' : Nat → Value) (J : Heap), st = ⟨tm', n, J, nx + 1⟩ ∧ (∀ j, j ≠ nx → J j = G j) ∧ IRow J 3 nx n0 (fun k => (z0T L (k : Int)).getD 0) ∧ tm' 6 = .slice (some ⟨nx, 0, none⟩) n0 n0 ∧ tm' 7 = .int .i64 (L.length : Int)) ?_ ?_
 ·refine zu (fun (i : Nat) st => ∃ (tm' : Nat → Value) (J : Heap), st = ⟨tm', n, J, nx + 1⟩ ∧ (∀ j, j ≠ nx → J j = G j) ∧ IRow J 3 nx n0 (fun k => if k < i then (z0T L (k : Int)).getD 0 else 0) ∧ tm' 0 = .slice (some ⟨b, 0, none⟩) n0 n0 ∧ tm' 6 = .slice (some ⟨nx, 0, none⟩) n0 n0 ∧ tm' 7 = .int .i64 (z8c L (i : Int) : Int) ∧ tm' 8 = .int .i64 (i : Int) ∧ i ≤ n0) (fun i => n0 - i) 0 ?_ ?_
  ·exact ⟨_, _, rfl, fun _ _ => rfl, r0.iff fun k _ => by simp, stp, stp, stp, stp, Nat.zero_le _⟩
  ·clear q0 q1;rintro i st ⟨tm', J, rfl, fr, hr, q0, q6, q7, q8, hi⟩;by_cases hlt : i < n0
   ·obtain ⟨x, hx, hxS⟩ := (hb0.same (fr b zom)).get (j := (i : Int)) zom zom;have hs := zdw hL (i : Int);have hcn : z8c L (i : Int) ≤ 100000 := Nat.le_trans (List.length_filter_le _ _) (Nat.le_trans (z7v hL hB) hn0);refine z4s ?_;refine z6z ?_
    repeat (first | (refine zd (by first | exact omv | exact z2Z | exact old) ?_) | refine Trip.seq ?_ | refine zk ?_ | refine Trip.block ?_ | (refine Trip.skip ?_; (change Trip _ _ _ _ _)) | (refine OpsL.nil ?_; (change Trip _ _ _ _ _)))
    rw [Int.toNat_natCast] at hxS;cases x with
    | false =>
     have hno : ¬ (i : Int) ∈ L := fun q => by have := hxS.2 q; cases this
     rw [if_neg hno, Nat.add_zero] at hs;refine zg4 ?_;refine ⟨i + 1, ⟨_, _, rfl, fr, hr.iff fun k hk => ?_, stp, stp, ?_, stp, zom⟩, zom⟩
     ·by_cases e : k = i
      ·subst e;rw [if_neg zom, if_pos zom, z6V hno];rfl
      ·by_cases h2 : k < i
       ·rw [if_pos h2, if_pos zom]
       ·rw [if_neg h2, if_neg zom]
     ·rw [show ((i + 1 : Nat) : Int) = (i : Int) + 1 by omega, hs];simp [zl, *]
    | true =>
     have hyes : (i : Int) ∈ L := hxS.1 rfl;have hnum := z7y hL hyes;rw [if_pos hyes] at hs;refine z11 ?_;refine zfl ?_;refine zdH (b := nx) (m := n0) (j := (i : Int)) (v := (z8c L (i : Int) : Int)) evr evd zxr hr zom zom fun J2 hr2 fr2 => ?_;refine zg7 ?_;refine ⟨i + 1, ⟨_, _, rfl, fun j hj => (fr2 j hj).trans (fr j hj), hr2.iff fun k hk => ?_, stp, stp, ?_, stp, zom⟩, zom⟩
     ·rw [Int.toNat_natCast];by_cases e : k = i
      ·subst e;rw [if_pos rfl, if_pos zom, hnum];rfl
      ·rw [if_neg e];by_cases h2 : k < i
       ·rw [if_pos h2, if_pos zom]
       ·rw [if_neg h2, if_neg zom]
     ·rw [show ((i + 1 : Nat) : Int) = (i : Int) + 1 by omega, hs];simp [zl, *]
   ·have hie : i = n0 := by omega
    subst hie;have hall := zeE (L := L) (n := (i : Int)) fun y hy => (hB y hy).2;rw [hall] at q7;refine z4s ?_;refine z5y ?_;exact ⟨rfl, _, _, rfl, fr, hr.iff fun k hk => by rw [if_pos hk], stp, stp⟩
 clear q0 q1 c0;rintro e st ⟨rfl, tm', J, rfl, fr, hr, q6, q7⟩;refine z4r ?_;refine zcr ?_;exact ⟨.inr rfl, _, zb0, nx, stp, Nat.le_refl _, zom, hr, ⟨zom, fun j hj => (fr j zom).trans (x0.2 j hj)⟩⟩
end Go.Proofs.YteplpegfcpmflaaGreat
namespace Go.Proofs.YteplpegfcpmflaaGreat
open Go.RowKit Go.Am
attribute [local irreducible] aop OpsL Trip zI z2r OpsK OpsR
section
variable {W0 : World} {ops : Array Oper} {n : Nat} {type : TypeId} {pos : String} {after : Array Edge} {os : List Oper} {tm : Nat → Value} {QQ : ASt → Prop} {d : Tmp}
theorem zb8 {H : Heap} {ob : Option (Nat × Nat)} {v : Value} {l : List Int} (h : OwnInts H ob 3 v l) : z5H H ob v l := by
 unfold z5H OwnOf;unfold OwnInts at h
 rwa [z4J]
theorem bsI {x : Operand} {r : Int} {H : Heap} {nx : Nat} (hd : d < n) (hx : ASt.ev ⟨tm, n, H, nx⟩ x = some (.int .i64 r))
  (hc : ∀ G, Ext nx H (nx + 1) G → RowsAt z9x 1 G (.slice (some ⟨nx, 0, none⟩) 1 1) [r] → OpsL Tryz.prog W0 ops os ⟨zl tm (some d) (.slice (some ⟨nx, 0, none⟩) 1 1), n, G, nx + 1⟩ QQ) :
  OpsL Tryz.prog W0 ops (⟨some d, .buildSlice 22 1 #[(0, x)], type, pos, after, none⟩ :: os) ⟨tm, n, H, nx⟩ QQ := by
 refine OpsL.new hd (z2E (el := 3) (b := 0) hx zxr zxr zxr) ?_;refine hc _ zj (.inr ⟨⟨nx, 0, none⟩, 1, rfl, fun j hj => ?_⟩);have : j = 0 := by simpa using hj
 subst this;exact z01 (by show 0 + 1 ≤ 1; decide)
theorem ziF {A : Prop} (h : A := by
 have hb5 : b5 ≠ A := by
  rcases k2 with k2 | ⟨t0, k3⟩
  ·omega
  ·exact (hbl _ _ k3).2.1
 refine hc v' nx5 H5 _ (some (b5, t5)) ((hsame A hA (fun b t hb e => (hbl b t hb).2.1 e.symm)).trans hm.cell) hm2 (by rw [List.getElem?_set_self (by rw [hm.len]; decide)]) (OwnRow.same (fun b t h => by cases h; exact za hb5) (z7x hA5.own)) (fun i hi hi2 => hsame i zom (fun b t hb => by have := hbl b t hb; omega)) zom (by rw [hA5.own.1]; rfl) (by rw [hA5.own.1]; rfl)) : A := h
theorem ziw {x y : Operand} {r : Int} {H G : Heap} {base A nx : Nat} {a : Aut} {l : List (Option (Nat × Nat))} {vi vf vo vc vn : Value} {ob : Option (Nat × Nat)} (hm : MkIn H base A nx a l vi vf vo vc vn) (hj : l[0]? = some ob) (hown : OwnInts H ob 3 vi a.init) (hl : a.init.length ≤ 1000) (x4 : Ext nx H (nx + 1) G) (hone : RowsAt z9x 1 G (.slice (some ⟨nx, 0, none⟩) 1 1) [r])
  (hd : d < n) (hx : ASt.ev ⟨tm, n, G, nx + 1⟩ x = some vi) (hy : ASt.ev ⟨tm, n, G, nx + 1⟩ y = some (.slice (some ⟨nx, 0, none⟩) 1 1))
  (hc : ∀ (v' : Value) (nx5 : Nat) (H5 : Heap) (l5 : List (Option (Nat × Nat))) (ob5 : Option (Nat × Nat)), H5 A = some (.cells (zz a vi vf vo vc vn) 0 none false (some 30)) →
   MkIn (H5.put A (.cells (zz (z5F a r) v' vf vo vc vn) 0 none false (some 30))) base A nx5 (z5F a r) l5 v' vf vo vc vn → l5[0]? = some ob5 → OwnInts (H5.put A (.cells (zz (z5F a r) v' vf vo vc vn) 0 none false (some 30))) ob5 3 v' (z5F a r).init → (∀ i, i < base → i ≠ A → H5 i = H i) → nx ≤ nx5 → v'.cells = #[v'] → v'.oneCell' = true → OpsL Tryz.prog W0 ops os ⟨zl tm (some d) v', n, H5, nx5⟩ QQ) :
  OpsL Tryz.prog W0 ops (⟨some d, .call ⟨.builtin .append, #[x, y], #[22, 22]⟩, type, pos, after, none⟩ :: os) ⟨tm, n, G, nx + 1⟩ QQ := by
 have hA := hm.hA;have hB := hm.hb;have hbl : ∀ b t, ob = some (b, t) → base ≤ b ∧ b ≠ A ∧ b < nx := fun b t hb => hm.sep.1 0 b t (by rw [hj, hb]);have hG : z5H G ob vi a.init := OwnOf.ext x4 (fun b t h => (hbl b t h).2.2) (zb8 hown);refine zO (bytes := 8) (z := [.int .i64 0]) z04 z2k zom hd hG hone hx hy (fun b t h => by have := (hbl b t h).2.2; omega) zxr zxr zxr zxr zxr rfl (by simp; omega) zom ?_;intro v' nx5 H5 ob5 hA5
 obtain ⟨b5, t5, hob5⟩ : ∃ b t, ob5 = some (b, t) := by
  cases ob5 with
  | none => exfalso; have := hA5.own.2.2; simp at this
  | some x => exact ⟨x.1, x.2, rfl⟩
 subst hob5;have hle5 := hA5.le;have hsame : ∀ i, i < nx → (∀ b t, ob = some (b, t) → i ≠ b) → H5 i = H i := fun i hi hb => by rw [hA5.same i zom hb, x4.2 i hi]
 obtain ⟨k1, k2⟩ := hA5.blk b5 t5 rfl;have hm2 := hm.putI (p := r) (nx1 := nx5) hj (.inl (z7x hA5.own)) (by rcases k2 with k2 | k2; exact .inl zom; exact .inr k2) k1 zom hsame;exact ziF
theorem zix {x y : Operand} {r : Int} {H G : Heap} {base A nx : Nat} {a : Aut} {l : List (Option (Nat × Nat))} {vi vf vo vc vn : Value} {ob : Option (Nat × Nat)} (hm : MkIn H base A nx a l vi vf vo vc vn) (hj : l[1]? = some ob) (hown : OwnInts H ob 3 vf a.final) (hl : a.final.length ≤ 1000) (x4 : Ext nx H (nx + 1) G) (hone : RowsAt z9x 1 G (.slice (some ⟨nx, 0, none⟩) 1 1) [r])
  (hd : d < n) (hx : ASt.ev ⟨tm, n, G, nx + 1⟩ x = some vf) (hy : ASt.ev ⟨tm, n, G, nx + 1⟩ y = some (.slice (some ⟨nx, 0, none⟩) 1 1))
  (hc : ∀ (v' : Value) (nx5 : Nat) (H5 : Heap) (l5 : List (Option (Nat × Nat))) (ob5 : Option (Nat × Nat)), H5 A = some (.cells (zz a vi vf vo vc vn) 0 none false (some 30)) →
   MkIn (H5.put A (.cells (zz (zcs a r) vi v' vo vc vn) 0 none false (some 30))) base A nx5 (zcs a r) l5 vi v' vo vc vn → l5[1]? = some ob5 → OwnInts (H5.put A (.cells (zz (zcs a r) vi v' vo vc vn) 0 none false (some 30))) ob5 3 v' (zcs a r).final → (∀ i, i < base → i ≠ A → H5 i = H i) → nx ≤ nx5 → v'.cells = #[v'] → v'.oneCell' = true → OpsL Tryz.prog W0 ops os ⟨zl tm (some d) v', n, H5, nx5⟩ QQ) :
  OpsL Tryz.prog W0 ops (⟨some d, .call ⟨.builtin .append, #[x, y], #[22, 22]⟩, type, pos, after, none⟩ :: os) ⟨tm, n, G, nx + 1⟩ QQ := by
 have hA := hm.hA;have hB := hm.hb;have hbl : ∀ b t, ob = some (b, t) → base ≤ b ∧ b ≠ A ∧ b < nx := fun b t hb => hm.sep.1 1 b t (by rw [hj, hb]);have hG : z5H G ob vf a.final := OwnOf.ext x4 (fun b t h => (hbl b t h).2.2) (zb8 hown);refine zO (bytes := 8) (z := [.int .i64 0]) z04 z2k zom hd hG hone hx hy (fun b t h => by have := (hbl b t h).2.2; omega) zxr zxr zxr zxr zxr rfl (by simp; omega) zom ?_;intro v' nx5 H5 ob5 hA5
 obtain ⟨b5, t5, hob5⟩ : ∃ b t, ob5 = some (b, t) := by
  cases ob5 with
  | none => exfalso; have := hA5.own.2.2; simp at this
  | some x => exact ⟨x.1, x.2, rfl⟩
 subst hob5;have hle5 := hA5.le;have hsame : ∀ i, i < nx → (∀ b t, ob = some (b, t) → i ≠ b) → H5 i = H i := fun i hi hb => by rw [hA5.same i zom hb, x4.2 i hi]
 obtain ⟨k1, k2⟩ := hA5.blk b5 t5 rfl;have hm2 := hm.putF (p := r) (nx1 := nx5) hj (z7x hA5.own) (by rcases k2 with k2 | k2; exact .inl zom; exact .inr k2) k1 zom hsame;exact ziF
theorem ziu {x y : Operand} {r : R4} {H G : Heap} {base A nx : Nat} {a : Aut} {l : List (Option (Nat × Nat))} {vi vf vo vc vn : Value} (hm : MkIn H base A nx a l vi vf vo vc vn) (hl : a.opens.length ≤ 1000) (x4 : Ext nx H (nx + 1) G) (hone : RowsAt e4 4 G (.slice (some ⟨nx, 0, none⟩) 1 1) [r])
  (hd : d < n) (hx : ASt.ev ⟨tm, n, G, nx + 1⟩ x = some vo) (hy : ASt.ev ⟨tm, n, G, nx + 1⟩ y = some (.slice (some ⟨nx, 0, none⟩) 1 1))
  (hc : ∀ (v' : Value) (nx5 : Nat) (H5 : Heap) (l5 : List (Option (Nat × Nat))), H5 A = some (.cells (zz a vi vf vo vc vn) 0 none false (some 30)) →
   MkIn (H5.put A (.cells (zz (zdP a r) vi vf v' vc vn) 0 none false (some 30))) base A nx5 (zdP a r) l5 vi vf v' vc vn → (∀ i, i < nx → (∀ b t, l[2]? = some (some (b, t)) → i ≠ b) → H5 i = H i) → nx ≤ nx5 → v'.cells = #[v'] → v'.oneCell' = true → OpsL Tryz.prog W0 ops os ⟨zl tm (some d) v', n, H5, nx5⟩ QQ) :
  OpsL Tryz.prog W0 ops (⟨some d, .call ⟨.builtin .append, #[x, y], #[26, 26]⟩, type, pos, after, none⟩ :: os) ⟨tm, n, G, nx + 1⟩ QQ := by
 obtain ⟨ob, hj, hown⟩ := hm.opens;have hA := hm.hA;have hB := hm.hb;have hbl : ∀ b t, ob = some (b, t) → base ≤ b ∧ b ≠ A ∧ b < nx := fun b t hb => hm.sep.1 2 b t (by rw [hj, hb]);refine zO (bytes := 32) (z := rep 4 [.int .i64 0]) z0X z5m zom hd (hown.ext x4 (fun b t h => (hbl b t h).2.2)) hone hx hy (fun b t h => by have := (hbl b t h).2.2; omega) zxr zxr zxr zxr zxr rfl (by simp; omega) zom ?_;intro v' nx5 H5 ob5 hA5
 obtain ⟨b5, t5, hob5⟩ : ∃ b t, ob5 = some (b, t) := by
  cases ob5 with
  | none => exfalso; have := hA5.own.2.2; simp at this
  | some x => exact ⟨x.1, x.2, rfl⟩
 subst hob5;have hle5 := hA5.le;have hsame : ∀ i, i < nx → (∀ b t, ob = some (b, t) → i ≠ b) → H5 i = H i := fun i hi hb => by rw [hA5.same i zom hb, x4.2 i hi]
 obtain ⟨k1, k2⟩ := hA5.blk b5 t5 rfl;have hm2 := hm.putO (p := r) (nx1 := nx5) hj hA5.own (by rcases k2 with k2 | k2; exact .inl zom; exact .inr k2) k1 zom hsame;refine hc v' nx5 H5 _ ((hsame A hA (fun b t hb e => (hbl b t hb).2.1 e.symm)).trans hm.cell) hm2 (fun i hi hi2 => hsame i hi (fun b t hb => hi2 b t (by rw [hj, hb]))) zom (by rw [hA5.own.1]; rfl) (by rw [hA5.own.1]; rfl)
theorem ziy {x y : Operand} {r : R4} {H G : Heap} {base A nx : Nat} {a : Aut} {l : List (Option (Nat × Nat))} {vi vf vo vc vn : Value} (hm : MkIn H base A nx a l vi vf vo vc vn) (hl : a.closes.length ≤ 1000) (x4 : Ext nx H (nx + 1) G) (hone : RowsAt e4 4 G (.slice (some ⟨nx, 0, none⟩) 1 1) [r])
  (hd : d < n) (hx : ASt.ev ⟨tm, n, G, nx + 1⟩ x = some vc) (hy : ASt.ev ⟨tm, n, G, nx + 1⟩ y = some (.slice (some ⟨nx, 0, none⟩) 1 1))
  (hc : ∀ (v' : Value) (nx5 : Nat) (H5 : Heap) (l5 : List (Option (Nat × Nat))), H5 A = some (.cells (zz a vi vf vo vc vn) 0 none false (some 30)) →
   MkIn (H5.put A (.cells (zz (zdQ a r) vi vf vo v' vn) 0 none false (some 30))) base A nx5 (zdQ a r) l5 vi vf vo v' vn → (∀ i, i < nx → (∀ b t, l[3]? = some (some (b, t)) → i ≠ b) → H5 i = H i) → nx ≤ nx5 → v'.cells = #[v'] → v'.oneCell' = true → OpsL Tryz.prog W0 ops os ⟨zl tm (some d) v', n, H5, nx5⟩ QQ) :
  OpsL Tryz.prog W0 ops (⟨some d, .call ⟨.builtin .append, #[x, y], #[27, 27]⟩, type, pos, after, none⟩ :: os) ⟨tm, n, G, nx + 1⟩ QQ := by
 obtain ⟨ob, hj, hown⟩ := hm.closes;have hA := hm.hA;have hB := hm.hb;have hbl : ∀ b t, ob = some (b, t) → base ≤ b ∧ b ≠ A ∧ b < nx := fun b t hb => hm.sep.1 3 b t (by rw [hj, hb]);refine zO (bytes := 32) (z := rep 4 [.int .i64 0]) z0X z5m zom hd (hown.ext x4 (fun b t h => (hbl b t h).2.2)) hone hx hy (fun b t h => by have := (hbl b t h).2.2; omega) zxr zxr zxr zxr zxr rfl (by simp; omega) zom ?_;intro v' nx5 H5 ob5 hA5
 obtain ⟨b5, t5, hob5⟩ : ∃ b t, ob5 = some (b, t) := by
  cases ob5 with
  | none => exfalso; have := hA5.own.2.2; simp at this
  | some x => exact ⟨x.1, x.2, rfl⟩
 subst hob5;have hle5 := hA5.le;have hsame : ∀ i, i < nx → (∀ b t, ob = some (b, t) → i ≠ b) → H5 i = H i := fun i hi hb => by rw [hA5.same i zom hb, x4.2 i hi]
 obtain ⟨k1, k2⟩ := hA5.blk b5 t5 rfl;have hm2 := hm.putC (p := r) (nx1 := nx5) hj hA5.own (by rcases k2 with k2 | k2; exact .inl zom; exact .inr k2) k1 zom hsame;refine hc v' nx5 H5 _ ((hsame A hA (fun b t hb e => (hbl b t hb).2.1 e.symm)).trans hm.cell) hm2 (fun i hi hi2 => hsame i hi (fun b t hb => hi2 b t (by rw [hj, hb]))) zom (by rw [hA5.own.1]; rfl) (by rw [hA5.own.1]; rfl)
theorem ziv {x y : Operand} {r : R3} {H G : Heap} {base A nx : Nat} {a : Aut} {l : List (Option (Nat × Nat))} {vi vf vo vc vn : Value} (hm : MkIn H base A nx a l vi vf vo vc vn) (hl : a.inners.length ≤ 1000) (x4 : Ext nx H (nx + 1) G) (hone : RowsAt e3 3 G (.slice (some ⟨nx, 0, none⟩) 1 1) [r])
  (hd : d < n) (hx : ASt.ev ⟨tm, n, G, nx + 1⟩ x = some vn) (hy : ASt.ev ⟨tm, n, G, nx + 1⟩ y = some (.slice (some ⟨nx, 0, none⟩) 1 1))
  (hc : ∀ (v' : Value) (nx5 : Nat) (H5 : Heap) (l5 : List (Option (Nat × Nat))), H5 A = some (.cells (zz a vi vf vo vc vn) 0 none false (some 30)) →
   MkIn (H5.put A (.cells (zz (zdY a r) vi vf vo vc v') 0 none false (some 30))) base A nx5 (zdY a r) l5 vi vf vo vc v' → (∀ i, i < nx → (∀ b t, l[4]? = some (some (b, t)) → i ≠ b) → H5 i = H i) → nx ≤ nx5 → v'.cells = #[v'] → v'.oneCell' = true → OpsL Tryz.prog W0 ops os ⟨zl tm (some d) v', n, H5, nx5⟩ QQ) :
  OpsL Tryz.prog W0 ops (⟨some d, .call ⟨.builtin .append, #[x, y], #[28, 28]⟩, type, pos, after, none⟩ :: os) ⟨tm, n, G, nx + 1⟩ QQ := by
 obtain ⟨ob, hj, hown⟩ := hm.inners;have hA := hm.hA;have hB := hm.hb;have hbl : ∀ b t, ob = some (b, t) → base ≤ b ∧ b ≠ A ∧ b < nx := fun b t hb => hm.sep.1 4 b t (by rw [hj, hb]);refine zO (bytes := 24) (z := rep 3 [.int .i64 0]) z48 zcF zom hd (hown.ext x4 (fun b t h => (hbl b t h).2.2)) hone hx hy (fun b t h => by have := (hbl b t h).2.2; omega) zxr zxr zxr zxr zxr rfl (by simp; omega) zom ?_;intro v' nx5 H5 ob5 hA5
 obtain ⟨b5, t5, hob5⟩ : ∃ b t, ob5 = some (b, t) := by
  cases ob5 with
  | none => exfalso; have := hA5.own.2.2; simp at this
  | some x => exact ⟨x.1, x.2, rfl⟩
 subst hob5;have hle5 := hA5.le;have hsame : ∀ i, i < nx → (∀ b t, ob = some (b, t) → i ≠ b) → H5 i = H i := fun i hi hb => by rw [hA5.same i zom hb, x4.2 i hi]
 obtain ⟨k1, k2⟩ := hA5.blk b5 t5 rfl;have hm2 := hm.putN (p := r) (nx1 := nx5) hj hA5.own (by rcases k2 with k2 | k2; exact .inl zom; exact .inr k2) k1 zom hsame;refine hc v' nx5 H5 _ ((hsame A hA (fun b t hb e => (hbl b t hb).2.1 e.symm)).trans hm.cell) hm2 (fun i hi hi2 => hsame i hi (fun b t hb => hi2 b t (by rw [hj, hb]))) zom (by rw [hA5.own.1]; rfl) (by rw [hA5.own.1]; rfl)
end
end Go.Proofs.YteplpegfcpmflaaGreat
