import Derived.Test.YteplpegfcpmflaaGreatQKM6
set_option linter.unusedSimpArgs false
set_option linter.unusedVariables false
set_option maxRecDepth 100000
set_option maxHeartbeats 32000000
namespace Go.Am
open Go.RowKit
section
variable {P : Program} {W0 : World} {ops : Array Oper} {H : Heap} {nx n : Nat} {type : TypeId} {pos : String} {after : Array Edge} {l : List Oper} {tm : Nat → Value} {QQ : ASt → Prop} {d : Tmp} {ts : Array TypeId} {f : FuncId} {R : Value → Nat → Heap → Prop}
theorem z15 {c x : Operand} {a : Value} {cap : Array Value} (hd : d < n) (hc : ASt.ev ⟨tm, n, H, nx⟩ c = some (.func (.func f) #[] cap)) (hx : ASt.ev ⟨tm, n, H, nx⟩ x = some a) (hf : z0U P f) (hcall : ACalls P W0 f (a :: cap.toList) nx H R) (h : ∀ v nx' H', R v nx' H' → OpsL P W0 ops l ⟨zk tm (some d) v, n, H', nx'⟩ QQ) :
  OpsL P W0 ops (⟨some d, .call ⟨.value c, #[x], ts⟩, type, pos, after, none⟩ :: l) ⟨tm, n, H, nx⟩ QQ :=
 OpsL.call R (by simp [z1f, hd]) rfl (by simp [z0W, hc, z0C, hx]) hf hcall h
theorem z4H {c x y : Operand} {a b : Value} {cap : Array Value} (hd : d < n) (hc : ASt.ev ⟨tm, n, H, nx⟩ c = some (.func (.func f) #[] cap)) (hx : ASt.ev ⟨tm, n, H, nx⟩ x = some a) (hy : ASt.ev ⟨tm, n, H, nx⟩ y = some b) (hf : z0U P f) (hcall : ACalls P W0 f (a :: b :: cap.toList) nx H R) (h : ∀ v nx' H', R v nx' H' → OpsL P W0 ops l ⟨zk tm (some d) v, n, H', nx'⟩ QQ) :
  OpsL P W0 ops (⟨some d, .call ⟨.value c, #[x, y], ts⟩, type, pos, after, none⟩ :: l) ⟨tm, n, H, nx⟩ QQ :=
 OpsL.call R (by simp [z1f, hd]) rfl (by simp [z0W, hc, z0C, hx, hy]) hf hcall h
theorem z2g {ev : Operand → Option Value} {dst : Option Tmp} {guard : Option (Nat × Bool)} {fn : Fn} {first cap : Array Operand} {a b : List Value} (h1 : z0C ev first.toList = some a) (h2 : z0C ev cap.toList = some b) :
  aop P H nx ev ⟨dst, .makeFunc fn first cap, type, pos, after, guard⟩ = some (.func fn a.toArray b.toArray, .none) := by simp [aop, h1, h2]
end
theorem ze {H : Heap} {b e k : Nat} {cs : List Value} {tg : Option Nat} {ro : Bool} {q : Option TypeId} {v : Value} (hH : H b = some (.cells cs e tg ro q)) (h : cs[k]? = some v) : zj H ⟨b, k, tg⟩ v := by
 obtain ⟨hk, rfl⟩ := List.getElem?_eq_some_iff.1 h;exact z2v hH hk
theorem zG {H : Heap} {b e : Nat} {cs : List Value} {tg : Option Nat} {ro : Bool} {q : Option TypeId} {m : Nat} (hH : H b = some (.cells cs e tg ro q)) (h : cs.length = m) : z0M H ⟨b, 0, tg⟩ m = some cs := by
 unfold z0M;simp only [hH];rw [if_pos ⟨trivial, zom⟩];simp [← h]
theorem z09 {nx nx' : Nat} {H H' : Heap} {a : Addr} {v : Value} (h : Ext nx H nx' H') (hok : ∀ id o, H id = some o → id < nx) (hc : zj H a v) : zj H' a v := z1O h hok hc
theorem zS {α : Type} {enc : α → List Value} {sz : Nat} {H : Heap} {a : Option Addr} {c : Nat} {l : List α} (h : RowsAt enc sz H (.slice a l.length c) l) {i : Nat} (hi : i < l.length) : ∃ p, a = some p ∧ z0M H ⟨p.block, p.off + (i : Int).toNat * sz, p.spot⟩ sz = some (enc l[i]) := by
 rcases h with ⟨c', h1, rfl⟩ | ⟨p, c', h1, hs⟩
 ·exact absurd hi (by simp)
 ·obtain ⟨rfl, _, _⟩ := Value.slice.inj h1;exact ⟨p, rfl, by rw [Int.toNat_natCast]; exact hs i hi⟩
theorem z17 {H : Heap} {a : Option Addr} {c : Nat} {l : List Int} (h : IntsAt H (.slice a l.length c) l) {i : Nat} (hi : i < l.length) : ∃ p, a = some p ∧ zj H ⟨p.block, p.off + (i : Int).toNat * 1, p.spot⟩ (.int .i64 l[i]) := by
 obtain ⟨p, h1, h2⟩ := h.get hi;exact ⟨p, h1, by simpa using h2⟩
abbrev R4 := Int × Int × Int × Int
abbrev R3 := Int × Int × Int
def e4 (r : R4) : List Value := [.int .i64 r.1, .int .i64 r.2.1, .int .i64 r.2.2.1, .int .i64 r.2.2.2]
def e3 (r : R3) : List Value := [.int .i64 r.1, .int .i64 r.2.1, .int .i64 r.2.2]
structure Aut where
 N : Int
 G : Int
 init : List Int
 final : List Int
 opens : List R4
 closes : List R4
 inners : List R3
def zy (a : Aut) (vi vf vo vc vn : Value) : List Value := [.int .i64 a.N, .int .i64 a.G, vi, vf, vo, vc, vn]
structure AutIn (H : Heap) (a : Aut) (vi vf vo vc vn : Value) : Prop where
 init : IntsAt H vi a.init
 final : IntsAt H vf a.final
 opens : RowsAt e4 4 H vo a.opens
 closes : RowsAt e4 4 H vc a.closes
 inners : RowsAt e3 3 H vn a.inners
theorem AutIn.ext {nx nx' : Nat} {H H' : Heap} {a : Aut} {vi vf vo vc vn : Value} (h : Ext nx H nx' H') (hok : ∀ id o, H id = some o → id < nx) (ha : AutIn H a vi vf vo vc vn) : AutIn H' a vi vf vo vc vn :=
 ⟨ha.init.ext h hok, ha.final.ext h hok, ha.opens.ext h hok, ha.closes.ext h hok, ha.inners.ext h hok⟩
structure AutLen (a : Aut) : Prop where
 init : a.init.length ≤ 1000
 final : a.final.length ≤ 1000
 opens : a.opens.length ≤ 1000
 closes : a.closes.length ≤ 1000
 inners : a.inners.length ≤ 1000
def btF (n a b : Int) : Bool := decide (a ≤ n) && decide (n ≤ b)
def stF (N s : Int) : Bool := decide (0 ≤ s) && decide (s < N)
def kdF (ss : List (ByteArray × Int)) (s k : Int) : Bool := decide (0 ≤ s) && decide (s < ss.length) && (match ss[s.toNat]? with | some x => decide (x.2 = k) | none => false)
def okO (ss : List (ByteArray × Int)) (a : Aut) (r : R4) : Bool := stF a.N r.1 && kdF ss r.2.1 1 && stF a.N r.2.2.1 && btF r.2.2.2 1 a.G
def okC (ss : List (ByteArray × Int)) (a : Aut) (r : R4) : Bool := stF a.N r.1 && kdF ss r.2.1 2 && stF a.N r.2.2.2 && btF r.2.2.1 0 a.G
def okI (ss : List (ByteArray × Int)) (a : Aut) (r : R3) : Bool := stF a.N r.1 && kdF ss r.2.1 3 && stF a.N r.2.2
def z9W (a : Aut) : Bool := btF a.N 0 200 && btF a.G 0 10000 && decide (((a.opens.length : Int) + a.closes.length) + a.inners.length ≤ 100000)
def z3I (ss : List (ByteArray × Int)) (a : Aut) : Bool := z9W a && a.init.all (stF a.N) && a.final.all (stF a.N) && a.opens.all (okO ss a) && a.closes.all (okC ss a) && a.inners.all (okI ss a)
theorem z85 {α : Type} {p : α → Bool} {l : List α} {i : Nat} (h : i < l.length) (ht : (l.take i).all p = true) (hi : p l[i] = true) : (l.take (i + 1)).all p = true := by
 rw [List.take_succ_eq_append_getElem h, List.all_append, ht];simp [hi]
theorem zdj {α : Type} {p : α → Bool} {l : List α} {i : Nat} (h : i < l.length) (hi : p l[i] = false) : l.all p = false := by
 rw [List.all_eq_false];exact ⟨_, List.getElem_mem h, by simp [hi]⟩
end Go.Am
namespace Go.Proofs.YteplpegfcpmflaaGreat
open Go.Am Go.RowKit
attribute [local irreducible] aop OpsL Trip zI z2w
theorem z2t : Am.z0U Tryz.prog 36 := ⟨Tryz.f36, Tryz.func36, by kernel_rfl, by kernel_rfl⟩
theorem z1n : Am.z0U Tryz.prog 33 := ⟨Tryz.f33, Tryz.func33, by kernel_rfl, by kernel_rfl⟩
theorem z5s : Am.z0U Tryz.prog 34 := ⟨Tryz.f34, Tryz.func34, by kernel_rfl, by kernel_rfl⟩
theorem zcn : Am.z0U Tryz.prog 35 := ⟨Tryz.f35, Tryz.func35, by kernel_rfl, by kernel_rfl⟩
theorem zaH : Am.z0U Tryz.prog 37 := ⟨Tryz.f37, Tryz.func37, by kernel_rfl, by kernel_rfl⟩
theorem zcl : Am.z0U Tryz.prog 38 := ⟨Tryz.f38, Tryz.func38, by kernel_rfl, by kernel_rfl⟩
theorem zcm : Am.z0U Tryz.prog 39 := ⟨Tryz.f39, Tryz.func39, by kernel_rfl, by kernel_rfl⟩
theorem z6y : Am.z0U Tryz.prog 29 := ⟨Tryz.f29, Tryz.func29, by kernel_rfl, by kernel_rfl⟩
theorem z4D : Am.z0U Tryz.prog 16 := ⟨Tryz.f16, Tryz.func16, by kernel_rfl, by kernel_rfl⟩
theorem z61 (W0 : World) {nx : Nat} {H : Heap} (x a b : Int) :
  ACalls Tryz.prog W0 36 [.int .i64 x, .int .i64 a, .int .i64 b] nx H fun v nx' H' => v = .bool (btF x a b) ∧ nx' = nx ∧ H' = H := by
 refine zl (fn := Tryz.f36) (c := _) Tryz.func36 rfl (fun tm n hn0 htm => ?_);have e0 : tm 0 = .int .i64 x := htm 0;have e1 : tm 1 = .int .i64 a := htm 1;have e2 : tm 2 = .int .i64 b := htm 2;clear htm;replace hn0 : n = 15 := hn0
 repeat' (first | (refine zd (by first | exact omv | exact z0E | exact zgP | exact z2R | exact z3i) ?_) | refine Trip.seq ?_ | refine zm ?_ | (refine Trip.ret ?_; (dsimp only)) | (refine OpsL.nil ?_; (change Trip _ _ _ _ _)) | refine zz ?_ | refine zQ ?_ | refine z6h (fun _ => ?_) (fun _ => ?_))
 all_goals (exact ⟨.inr rfl, _, zx, by simp [zk, btF, *], rfl, rfl⟩)
theorem z5B (W0 : World) {nx : Nat} {H : Heap} {b : Nat} {N : Int} (s : Int) (hN : zj H ⟨b, 0, none⟩ (.int .i64 N)) :
  ACalls Tryz.prog W0 33 [.int .i64 s, .pointer (some ⟨b, 0, none⟩)] nx H fun v nx' H' => v = .bool (stF N s) ∧ nx' = nx ∧ H' = H := by
 refine zl (fn := Tryz.f33) (c := _) Tryz.func33 rfl (fun tm n hn0 htm => ?_);have e0 : tm 0 = .int .i64 s := htm 0;have e1 : tm 1 = .pointer (some ⟨b, 0, none⟩) := htm 1;clear htm;replace hn0 : n = 12 := hn0
 repeat' (first | (refine zd (by first | exact omv | exact z0E | exact zev | exact zgP | exact ofa | exact old | exact z2R | exact z3i) ?_) | refine Trip.seq ?_ | refine zm ?_ | (refine Trip.ret ?_; (dsimp only)) | (refine OpsL.nil ?_; (change Trip _ _ _ _ _)) | refine zz ?_ | refine zQ ?_ | refine z6h (fun _ => ?_) (fun _ => ?_))
 all_goals (exact ⟨.inr rfl, _, zx, by simp [zk, stF, *], rfl, rfl⟩)
theorem zgg (W0 : World) {nx : Nat} {H : Heap} {b : Nat} {lv : Value} {ss : List (ByteArray × Int)} (s k : Int) (hc : zj H ⟨b, 0, none⟩ lv) (hl : SymsAt H lv ss) (hss : ss.length ≤ 1000) :
  ACalls Tryz.prog W0 34 [.int .i64 s, .int .i64 k, .pointer (some ⟨b, 0, none⟩)] nx H fun v nx' H' => v = .bool (kdF ss s k) ∧ nx' = nx ∧ H' = H := by
 obtain ⟨la, lc, rfl, hl⟩ := hl;refine zl (fn := Tryz.f34) (c := _) Tryz.func34 rfl (fun tm n hn0 htm => ?_);have e0 : tm 0 = .int .i64 s := htm 0;have e1 : tm 1 = .int .i64 k := htm 1;have e2 : tm 2 = .pointer (some ⟨b, 0, none⟩) := htm 2;clear htm;replace hn0 : n = 23 := hn0;by_cases h0 : 0 ≤ s
 ·obtain ⟨i, rfl⟩ : ∃ i : Nat, s = i := ⟨s.toNat, zom⟩;by_cases h1 : i < ss.length
  ·have hc1 := z4t (hl i h1);dsimp only at hc1;have hc2 : zj H ⟨la.block, la.off + (i : Int).toNat * 2 + 1, la.spot⟩ (.int .i64 ss[i].2) := by simpa using hc1
   have hk : kdF ss i k = decide (ss[i].2 = k) := by
    unfold kdF;rw [Int.toNat_natCast, List.getElem?_eq_getElem h1];simp [h1]
   repeat' (first | (refine zd (by first | exact omv | exact z0E | exact zev | exact zgP | exact zfP | exact z2i | exact z45 | exact ofa | exact old | exact z2R | exact z3i) ?_) | refine Trip.seq ?_ | refine zm ?_ | (refine Trip.ret ?_; (dsimp only)) | (refine OpsL.nil ?_; (change Trip _ _ _ _ _)) | refine zz ?_ | refine zQ ?_ | refine z6h (fun _ => ?_) (fun _ => ?_))
   all_goals first | omega | skip
   all_goals (exact ⟨.inr rfl, _, zx, by rw [hk]; simp [zk, *], rfl, rfl⟩)
  ·have hk : kdF ss i k = false := by
    unfold kdF;simp [h1]
   repeat' (first | (refine zd (by first | exact omv | exact z0E | exact zev | exact zgP | exact z2i | exact z45 | exact ofa | exact old | exact z2R | exact z3i) ?_) | refine Trip.seq ?_ | refine zm ?_ | (refine Trip.ret ?_; (dsimp only)) | (refine OpsL.nil ?_; (change Trip _ _ _ _ _)) | refine zz ?_ | refine zQ ?_ | refine z6h (fun _ => ?_) (fun _ => ?_))
   all_goals first | omega | skip
   all_goals (exact ⟨.inr rfl, _, zx, by rw [hk]; simp [zk, *], rfl, rfl⟩)
 ·have hk : kdF ss s k = false := by
   unfold kdF;simp [h0]
  repeat' (first | (refine zd (by first | exact omv | exact z0E | exact zgP | exact z3i) ?_) | refine Trip.seq ?_ | refine zm ?_ | (refine Trip.ret ?_; (dsimp only)) | (refine OpsL.nil ?_; (change Trip _ _ _ _ _)) | refine zQ ?_)
  all_goals first | omega | skip
  all_goals (exact ⟨.inr rfl, _, zx, by rw [hk]; simp [zk, *], rfl, rfl⟩)
structure Ctx (H : Heap) (b2 b3 b5 b6 : Nat) (lv : Value) (N G : Int) : Prop where
 c2 : zj H ⟨b2, 0, none⟩ lv
 cN : zj H ⟨b3, 0, none⟩ (.int .i64 N)
 cG : zj H ⟨b3, 1, none⟩ (.int .i64 G)
 c5 : zj H ⟨b5, 0, none⟩ (.func (.func 33) #[] #[.pointer (some ⟨b3, 0, none⟩)])
 c6 : zj H ⟨b6, 0, none⟩ (.func (.func 34) #[] #[.pointer (some ⟨b2, 0, none⟩)])
theorem Ctx.ext {nx nx' : Nat} {H H' : Heap} {b2 b3 b5 b6 : Nat} {lv : Value} {N G : Int} (h : Ext nx H nx' H') (hok : ∀ id o, H id = some o → id < nx) (hc : Ctx H b2 b3 b5 b6 lv N G) : Ctx H' b2 b3 b5 b6 lv N G :=
 ⟨z09 h hok hc.c2, z09 h hok hc.cN, z09 h hok hc.cG, z09 h hok hc.c5, z09 h hok hc.c6⟩
theorem ziu (W0 : World) {nx : Nat} {H : Heap} {b2 b3 b5 b6 : Nat} {lv : Value} {ss : List (ByteArray × Int)} {a : Aut} (r : R4) (hc : Ctx H b2 b3 b5 b6 lv a.N a.G) (hl : SymsAt H lv ss) (hss : ss.length ≤ 1000) :
  ACalls Tryz.prog W0 35 [.agg (e4 r).toArray, .pointer (some ⟨b5, 0, none⟩), .pointer (some ⟨b6, 0, none⟩), .pointer (some ⟨b3, 0, none⟩)] nx H fun v nx' H' => v = .bool (okO ss a r) ∧ Ext nx H nx' H' := by
 refine zl (fn := Tryz.f35) (c := _) Tryz.func35 rfl (fun tm n hn0 htm => ?_);have e0 : tm 0 = .agg (e4 r).toArray := htm 0;have e1 : tm 1 = .pointer (some ⟨b5, 0, none⟩) := htm 1;have e2 : tm 2 = .pointer (some ⟨b6, 0, none⟩) := htm 2;have e3 : tm 3 = .pointer (some ⟨b3, 0, none⟩) := htm 3;clear htm;replace hn0 : n = 29 := hn0;refine Trip.ok fun hok => ?_;replace hok : ∀ id o, H id = some o → id < nx := hok;refine z5L ?_;refine OpsL.new zsd (z0f evr) ?_;obtain ⟨F, hF⟩ : ∃ F, F = H.put nx (.cells (Value.agg (e4 r).toArray).cells.toList 0 none false (some 43)) := ⟨_, rfl⟩;have hx0 : Ext nx H (nx + 1) F := by rw [hF]; exact zh
 have hFn : F nx = some (.cells (e4 r) 0 none false (some 43)) := by rw [hF, zb]; rfl
 obtain ⟨c2, cN, cG, c5, c6⟩ := hc.ext hx0 hok;replace hl := hl.ext hx0 hok;have g0 : zj F ⟨nx, 0, none⟩ (.int .i64 r.1) := ze hFn rfl;have g1 : zj F ⟨nx, 1, none⟩ (.int .i64 r.2.1) := ze hFn rfl;have g2 : zj F ⟨nx, 2, none⟩ (.int .i64 r.2.2.1) := ze hFn rfl;have g3 : zj F ⟨nx, 3, none⟩ (.int .i64 r.2.2.2) := ze hFn rfl;rw [← hF];clear hF;refine zgb ?_;refine z15 (cap := #[.pointer (some ⟨b3, 0, none⟩)]) zsd evd evr z1n (z5B W0 _ cN) ?_;rintro v2 n2 H2 ⟨rfl, rfl, rfl⟩;cases hs1 : stF a.N r.1
 ·repeat' (first | (refine zd (by first | exact omv | exact z0E | exact z3i) ?_) | (refine Trip.ret ?_; (dsimp only)) | (refine OpsL.nil ?_; (change Trip _ _ _ _ _)) | refine zQ ?_)
  exact ⟨.inr rfl, _, zx, by simp [zk, okO, *], hx0⟩
 repeat' (first | (refine zd (by first | exact omv | exact ofa | exact old) ?_) | refine zz ?_)
 refine z4H (cap := #[.pointer (some ⟨b2, 0, none⟩)]) zsd evd evr evr z5s (zgg W0 _ _ c2 hl hss) ?_;rintro v2 n2 H2 ⟨rfl, rfl, rfl⟩;cases hs2 : kdF ss r.2.1 1
 ·repeat' (first | (refine zd (by first | exact omv | exact z0E | exact z2R | exact z3i) ?_) | (refine Trip.ret ?_; (dsimp only)) | (refine OpsL.nil ?_; (change Trip _ _ _ _ _)) | refine zQ ?_)
  exact ⟨.inr rfl, _, zx, by simp [zk, okO, *], hx0⟩
 repeat' (first | (refine zd (by first | exact omv | exact ofa | exact old | exact z2R) ?_) | refine zz ?_)
 refine z15 (cap := #[.pointer (some ⟨b3, 0, none⟩)]) zsd evd evr z1n (z5B W0 _ cN) ?_;rintro v2 n2 H2 ⟨rfl, rfl, rfl⟩;cases hs3 : stF a.N r.2.2.1
 ·repeat' (first | (refine zd (by first | exact omv | exact z0E | exact z2R | exact z3i) ?_) | (refine Trip.ret ?_; (dsimp only)) | (refine OpsL.nil ?_; (change Trip _ _ _ _ _)) | refine zQ ?_)
  exact ⟨.inr rfl, _, zx, by simp [zk, okO, *], hx0⟩
 repeat' (first | (refine zd (by first | exact omv | exact ofa | exact old | exact z2R) ?_) | refine zz ?_)
 refine z3o (hf := z2t) (hc := (z61 W0 _ _ _)) (h := ?_);rintro v2 n2 H2 ⟨rfl, rfl, rfl⟩
 repeat' (first | (refine zd (by first | exact z0E | exact z2R) ?_) | (refine Trip.ret ?_; (dsimp only)) | (refine OpsL.nil ?_; (change Trip _ _ _ _ _)))
 exact ⟨.inr rfl, _, zx, by simp [zk, okO, *], hx0⟩
theorem zi0 (W0 : World) {nx : Nat} {H : Heap} {b2 b3 b5 b6 : Nat} {lv : Value} {ss : List (ByteArray × Int)} {a : Aut} (r : R4) (hc : Ctx H b2 b3 b5 b6 lv a.N a.G) (hl : SymsAt H lv ss) (hss : ss.length ≤ 1000) :
  ACalls Tryz.prog W0 37 [.agg (e4 r).toArray, .pointer (some ⟨b5, 0, none⟩), .pointer (some ⟨b6, 0, none⟩), .pointer (some ⟨b3, 0, none⟩)] nx H fun v nx' H' => v = .bool (okC ss a r) ∧ Ext nx H nx' H' := by
 refine zl (fn := Tryz.f37) (c := _) Tryz.func37 rfl (fun tm n hn0 htm => ?_);have e0 : tm 0 = .agg (e4 r).toArray := htm 0;have e1 : tm 1 = .pointer (some ⟨b5, 0, none⟩) := htm 1;have e2 : tm 2 = .pointer (some ⟨b6, 0, none⟩) := htm 2;have e3 : tm 3 = .pointer (some ⟨b3, 0, none⟩) := htm 3;clear htm;replace hn0 : n = 29 := hn0;refine Trip.ok fun hok => ?_;replace hok : ∀ id o, H id = some o → id < nx := hok;refine z5L ?_;refine OpsL.new zsd (z0f evr) ?_;obtain ⟨F, hF⟩ : ∃ F, F = H.put nx (.cells (Value.agg (e4 r).toArray).cells.toList 0 none false (some 45)) := ⟨_, rfl⟩;have hx0 : Ext nx H (nx + 1) F := by rw [hF]; exact zh
 have hFn : F nx = some (.cells (e4 r) 0 none false (some 45)) := by rw [hF, zb]; rfl
 obtain ⟨c2, cN, cG, c5, c6⟩ := hc.ext hx0 hok;replace hl := hl.ext hx0 hok;have g0 : zj F ⟨nx, 0, none⟩ (.int .i64 r.1) := ze hFn rfl;have g1 : zj F ⟨nx, 1, none⟩ (.int .i64 r.2.1) := ze hFn rfl;have g2 : zj F ⟨nx, 2, none⟩ (.int .i64 r.2.2.1) := ze hFn rfl;have g3 : zj F ⟨nx, 3, none⟩ (.int .i64 r.2.2.2) := ze hFn rfl;rw [← hF];clear hF;refine zgb ?_;refine z15 (cap := #[.pointer (some ⟨b3, 0, none⟩)]) zsd evd evr z1n (z5B W0 _ cN) ?_;rintro v2 n2 H2 ⟨rfl, rfl, rfl⟩;cases hs1 : stF a.N r.1
 ·repeat' (first | (refine zd (by first | exact omv | exact z0E | exact z3i) ?_) | (refine Trip.ret ?_; (dsimp only)) | (refine OpsL.nil ?_; (change Trip _ _ _ _ _)) | refine zQ ?_)
  exact ⟨.inr rfl, _, zx, by simp [zk, okC, *], hx0⟩
 repeat' (first | (refine zd (by first | exact omv | exact ofa | exact old) ?_) | refine zz ?_)
 refine z4H (cap := #[.pointer (some ⟨b2, 0, none⟩)]) zsd evd evr evr z5s (zgg W0 _ _ c2 hl hss) ?_;rintro v2 n2 H2 ⟨rfl, rfl, rfl⟩;cases hs2 : kdF ss r.2.1 2
 ·repeat' (first | (refine zd (by first | exact omv | exact z0E | exact z2R | exact z3i) ?_) | (refine Trip.ret ?_; (dsimp only)) | (refine OpsL.nil ?_; (change Trip _ _ _ _ _)) | refine zQ ?_)
  exact ⟨.inr rfl, _, zx, by simp [zk, okC, *], hx0⟩
 repeat' (first | (refine zd (by first | exact omv | exact ofa | exact old | exact z2R) ?_) | refine zz ?_)
 refine z15 (cap := #[.pointer (some ⟨b3, 0, none⟩)]) zsd evd evr z1n (z5B W0 _ cN) ?_;rintro v2 n2 H2 ⟨rfl, rfl, rfl⟩;cases hs3 : stF a.N r.2.2.2
 ·repeat' (first | (refine zd (by first | exact omv | exact z0E | exact z2R | exact z3i) ?_) | (refine Trip.ret ?_; (dsimp only)) | (refine OpsL.nil ?_; (change Trip _ _ _ _ _)) | refine zQ ?_)
  exact ⟨.inr rfl, _, zx, by simp [zk, okC, *], hx0⟩
 repeat' (first | (refine zd (by first | exact omv | exact ofa | exact old | exact z2R) ?_) | refine zz ?_)
 refine z3o (hf := z2t) (hc := (z61 W0 _ _ _)) (h := ?_);rintro v2 n2 H2 ⟨rfl, rfl, rfl⟩
 repeat' (first | (refine zd (by first | exact z0E | exact z2R) ?_) | (refine Trip.ret ?_; (dsimp only)) | (refine OpsL.nil ?_; (change Trip _ _ _ _ _)))
 exact ⟨.inr rfl, _, zx, by simp [zk, okC, *], hx0⟩
theorem ziq (W0 : World) {nx : Nat} {H : Heap} {b2 b3 b5 b6 : Nat} {lv : Value} {ss : List (ByteArray × Int)} {a : Aut} (r : R3) (hc : Ctx H b2 b3 b5 b6 lv a.N a.G) (hl : SymsAt H lv ss) (hss : ss.length ≤ 1000) :
  ACalls Tryz.prog W0 38 [.agg (e3 r).toArray, .pointer (some ⟨b5, 0, none⟩), .pointer (some ⟨b6, 0, none⟩)] nx H fun v nx' H' => v = .bool (okI ss a r) ∧ Ext nx H nx' H' := by
 refine zl (fn := Tryz.f38) (c := _) Tryz.func38 rfl (fun tm n hn0 htm => ?_);have e0 : tm 0 = .agg (e3 r).toArray := htm 0;have e1 : tm 1 = .pointer (some ⟨b5, 0, none⟩) := htm 1;have e2 : tm 2 = .pointer (some ⟨b6, 0, none⟩) := htm 2;clear htm;replace hn0 : n = 21 := hn0;refine Trip.ok fun hok => ?_;replace hok : ∀ id o, H id = some o → id < nx := hok;refine z5L ?_;refine OpsL.new zsd (z0f evr) ?_;obtain ⟨F, hF⟩ : ∃ F, F = H.put nx (.cells (Value.agg (e3 r).toArray).cells.toList 0 none false (some 51)) := ⟨_, rfl⟩;have hx0 : Ext nx H (nx + 1) F := by rw [hF]; exact zh
 have hFn : F nx = some (.cells (e3 r) 0 none false (some 51)) := by rw [hF, zb]; rfl
 obtain ⟨c2, cN, cG, c5, c6⟩ := hc.ext hx0 hok;replace hl := hl.ext hx0 hok;have g0 : zj F ⟨nx, 0, none⟩ (.int .i64 r.1) := ze hFn rfl;have g1 : zj F ⟨nx, 1, none⟩ (.int .i64 r.2.1) := ze hFn rfl;have g2 : zj F ⟨nx, 2, none⟩ (.int .i64 r.2.2) := ze hFn rfl;rw [← hF];clear hF;refine zgb ?_;refine z15 (cap := #[.pointer (some ⟨b3, 0, none⟩)]) zsd evd evr z1n (z5B W0 _ cN) ?_;rintro v2 n2 H2 ⟨rfl, rfl, rfl⟩;cases hs1 : stF a.N r.1
 ·repeat' (first | (refine zd (by first | exact omv | exact z0E | exact z3i) ?_) | (refine Trip.ret ?_; (dsimp only)) | (refine OpsL.nil ?_; (change Trip _ _ _ _ _)) | refine zQ ?_)
  exact ⟨.inr rfl, _, zx, by simp [zk, okI, *], hx0⟩
 repeat' (first | (refine zd (by first | exact omv | exact ofa | exact old) ?_) | refine zz ?_)
 refine z4H (cap := #[.pointer (some ⟨b2, 0, none⟩)]) zsd evd evr evr z5s (zgg W0 _ _ c2 hl hss) ?_;rintro v2 n2 H2 ⟨rfl, rfl, rfl⟩;cases hs2 : kdF ss r.2.1 3
 ·repeat' (first | (refine zd (by first | exact omv | exact z0E | exact z2R | exact z3i) ?_) | (refine Trip.ret ?_; (dsimp only)) | (refine OpsL.nil ?_; (change Trip _ _ _ _ _)) | refine zQ ?_)
  exact ⟨.inr rfl, _, zx, by simp [zk, okI, *], hx0⟩
 repeat' (first | (refine zd (by first | exact omv | exact ofa | exact old | exact z2R) ?_) | refine zz ?_)
 refine z15 (cap := #[.pointer (some ⟨b3, 0, none⟩)]) zsd evd evr z1n (z5B W0 _ cN) ?_;rintro v2 n2 H2 ⟨rfl, rfl, rfl⟩;cases hs3 : stF a.N r.2.2
 all_goals
  repeat' (first | (refine zd (by first | exact z0E | exact z2R) ?_) | (refine Trip.ret ?_; (dsimp only)) | (refine OpsL.nil ?_; (change Trip _ _ _ _ _)))
  exact ⟨.inr rfl, _, zx, by simp [zk, okI, *], hx0⟩
end Go.Proofs.YteplpegfcpmflaaGreat
namespace Go.Am
open Go.RowKit
def z2p (ops : Array Oper) (acts : List Nat) : Bool :=
 z1N (fun i oi => z1N (fun j oj => match oj.dst with
  | some t => if (z3j oi).contains t || z6Q ops oi == some t then z9S oi j || (acts.contains j && zbT ops 4 oj i && !Nat.beq i j) else true
  | none => true) 0 ops.toList) 0 ops.toList
section
variable {P : Program} {W0 : World} {ops : Array Oper} {acts : List Nat} {K : Nat → Heap → Prop}
theorem z3B (h : z2p ops acts = true) {i j : Nat} {oi oj : Oper} {t : Tmp} (hi : ops[i]? = some oi) (hj : ops[j]? = some oj) (ht : t ∈ z3j oi ∨ z6Q ops oi = some t) (hd : oj.dst = some t) : dep oi j ∨ (acts.contains j = true ∧ zbL ops j i = true ∧ i ≠ j) := by
 unfold z2p at h;have h1 := z0d _ _ (z0d _ _ h i oi (by simpa using hi)) j oj (by simpa using hj);simp only [Nat.zero_add, hd] at h1;rw [if_pos] at h1
 ·rw [Bool.or_eq_true] at h1;rcases h1 with h1 | h1
  ·exact .inl (z0S.1 h1)
  ·simp only [Bool.and_eq_true, Bool.not_eq_true'] at h1;refine .inr ⟨h1.1.1, ?_, fun e => ?_⟩
   ·unfold zbL;rw [hj];exact h1.1.2
   ·have := h1.2;rw [e] at this;simp at this
 ·rcases ht with ht | ht
  ·simp [ht]
  ·simp [ht]
structure RInvW (P : Program) (ops : Array Oper) (acts : List Nat) (K : Nat → Heap → Prop) (D L : List Nat) (listed : Array Bool) (tm T : Nat → Value) (n : Nat) (H : Heap) (nx : Nat) : Prop where
 size : listed.size = ops.size
 down : ∀ (i : Nat) (o : Oper), ops[i]? = some o → listed.getD i false = true → ∀ j, dep o j → listed.getD j false = true
 unl : ∀ i ∈ L, listed.getD i false = false
 all : ∀ i, i < ops.size → i ∈ D ∨ i ∈ L
 disj : ∀ p ∈ D, ∀ i ∈ L, p ≠ i
 topo : ∀ p ∈ D, ∀ i ∈ L, z8z ops p i = false
 nd : L.Nodup
 lt : ∀ i ∈ L, i < ops.size
 pend : ∀ i ∈ D, listed.getD i false = false → ∃ o, ops[i]? = some o ∧ zfx P ops acts K L T n H nx i o
 eqv : ∀ t, (∀ (i : Nat) (o : Oper), ops[i]? = some o → i ∈ D → listed.getD i false = false → o.dst ≠ some t) → tm t = T t
 actl : ∀ p ∈ D, acts.contains p = true → listed.getD p false = true
variable {D L : List Nat} {listed : Array Bool} {tm T : Nat → Value} {n nx : Nat} {H : Heap}
theorem RInvW.reads (hr : z2p ops acts = true) (hi : RInvW P ops acts K D L listed tm T n H nx) {i : Nat} {o : Oper} (ho : ops[i]? = some o) (hall : ∀ j, dep o j → listed.getD j false = true) {t : Tmp} (ht : t ∈ z3j o ∨ z6Q ops o = some t) : tm t = T t := by
 refine hi.eqv t fun p op hop hp hun hd => ?_;rcases z3B hr ho hop ht hd with h | ⟨h, _, _⟩
 ·have := hall p h;rw [hun] at this;cases this
 ·have := hi.actl p hp h;rw [hun] at this;cases this
theorem z92 (hr : z2p ops acts = true) (hone : ∀ (i j : Nat) (oi oj : Oper) (d : Tmp), ops[i]? = some oi → ops[j]? = some oj → oi.dst = some d → oj.dst = some d → i = j) {i p : Nat} {o op : Oper} {H' : Heap} {nx' : Nat} (ho : ops[i]? = some o) (hop : ops[p]? = some op) (hpi : p ≠ i) (hni : z8z ops p i = false) (hact : acts.contains i = true → zbL ops i p = false) (v : Value)
  {L' : List Nat} (hsub : ∀ j ∈ L', j ∈ L) (hil : i ∈ L) (h : zfx P ops acts K L T n H nx p op) (hk : (H' = H ∧ nx' = nx) ∨ (acts.contains i = true ∧ zbL ops i p = false ∧ K nx' H')) : zfx P ops acts K L' (zk T o.dst v) n H' nx' p op := by
 obtain ⟨h2, val, h3, h4⟩ := h
 have hsame : ∀ t, (t ∈ z3j op ∨ z6Q ops op = some t) → zk T o.dst v t = T t := fun t ht => by
  cases hd : o.dst with
  | none => rfl
  | some d =>
   have hne : t ≠ d := fun e => by
    subst e;rcases z3B hr hop ho ht hd with h | ⟨ha, hb, _⟩
    ·have := z0S.2 h;unfold z8z at hni;rw [hop] at hni;simp only at hni;rw [hni] at this;cases this
    ·rw [hact ha] at hb;cases hb
   simp only [zk, hne, if_false]
 refine ⟨h2, val, fun d hd => ?_, ?_⟩
 ·rw [← h3 d hd];cases hod : o.dst with
  | none => rfl
  | some d' =>
   have hne : d ≠ d' := fun e => hpi (hone p i op o d hop ho hd (by rw [hod, e]));simp only [zk, hne, if_false]
 ·rw [z0l (tm' := T) (fun d hd => hsame d (.inr hd)), z0I (tm' := T) (fun t ht => hsame t (.inl ht))];rcases h4 with h4 | ⟨h5, h6, h7⟩
  ·exact .inl h4
  ·refine .inr ⟨h5, ?_, ?_⟩
   ·rcases hk with ⟨rfl, rfl⟩ | ⟨he, hno, hK⟩
    ·exact h6
    ·rcases h7 with h7 | h7
     ·have := h7 i hil he;rw [hno] at this; cases this
     ·exact h7 _ _ hK
   ·rcases h7 with h7 | h7
    ·exact .inl fun j hj => h7 j (hsub j hj)
    ·exact .inr h7
theorem z38 (hr : z2p ops acts = true) (hlex : ∀ (i : Nat) (o : Oper), ops[i]? = some o → ∀ j, dep o j → j < i) {i : Nat} {o : Oper} (ho : ops[i]? = some o) (v : Value) {t : Tmp} (ht : t ∈ z3j o ∨ z6Q ops o = some t) : zk T o.dst v t = T t := by
 cases hod : o.dst with
 | none => rfl
 | some d =>
  have hne : t ≠ d := fun e => by
   subst e;rcases z3B hr ho ho ht hod with h | ⟨_, _, h⟩
   ·exact absurd (hlex i o ho i h) (Nat.lt_irrefl _)
   ·exact h rfl
  simp only [zk, hne, if_false]
theorem RInvW.advance (hr : z2p ops acts = true) (hlex : ∀ (i : Nat) (o : Oper), ops[i]? = some o → ∀ j, dep o j → j < i) (hone : ∀ (i j : Nat) (oi oj : Oper) (d : Tmp), ops[i]? = some oi → ops[j]? = some oj → oi.dst = some d → oj.dst = some d → i = j) {i m : Nat} {Q : ASt → Prop} (hi : RInvW P ops acts K D (i :: L) listed tm T n H nx) (hna : acts.contains i = false) (hfr : z3O ops L i = true)
  (h : ∃ o, ops[i]? = some o ∧ z1f ⟨T, n, H, nx⟩ o = true ∧
   ((z0X ops ⟨T, n, H, nx⟩ o = false ∧ OpsR P W0 ops acts K m L (ASt.put ⟨T, n, H, nx⟩ o.dst undef .none) Q) ∨
    (z0X ops ⟨T, n, H, nx⟩ o = true ∧ ∃ v, aop P H nx (ASt.ev ⟨T, n, H, nx⟩) o = some (v, .none) ∧ (zbS ops acts i o L = true ∨ ∀ H' nx', K nx' H' → aop P H' nx' (ASt.ev ⟨T, n, H, nx⟩) o = some (v, .none)) ∧ OpsR P W0 ops acts K m L (ASt.put ⟨T, n, H, nx⟩ o.dst v .none) Q))) :
  ∃ T', RInvW P ops acts K (i :: D) L listed tm T' n H nx ∧ OpsR P W0 ops acts K m L ⟨T', n, H, nx⟩ Q := by
 obtain ⟨o, ho, hd, h⟩ := h;have hl : ∀ j ∈ L, i ≠ j ∧ z8z ops i j = false := fun j hj => ⟨fun e => (List.nodup_cons.1 hi.nd).1 (e ▸ hj), z2D.1 hfr j hj⟩;have hdn := z1c hd
 have key : ∃ v, zfx P ops acts K L (zk T o.dst v) n H nx i o ∧ OpsR P W0 ops acts K m L ⟨zk T o.dst v, n, H, nx⟩ Q := by
  have hown : ∀ v d, o.dst = some d → zk T o.dst v d = v := fun v d hd => by simp [zk, hd]
  rcases h with ⟨hw, h⟩ | ⟨hw, v, hop, hedge, h⟩
  ·refine ⟨undef, ⟨hdn, undef, hown undef, .inl ⟨?_, rfl⟩⟩, h⟩;rw [z0l (tm' := T) (fun d hd => z38 hr hlex ho _ (.inr hd))];exact (z0k ⟨T, n, H, nx⟩ o).trans hw
  ·refine ⟨v, ⟨hdn, v, hown v, .inr ⟨?_, ?_, ?_⟩⟩, h⟩
   ·rw [z0l (tm' := T) (fun d hd => z38 hr hlex ho _ (.inr hd))];exact (z0k ⟨T, n, H, nx⟩ o).trans hw
   ·rw [z0I (tm' := T) (fun t ht => z38 hr hlex ho _ (.inl ht))];exact (z3S (st := ⟨T, n, H, nx⟩)).trans hop
   ·rcases hedge with hedge | hst
    ·unfold zbS at hedge;rw [Bool.or_eq_true] at hedge;rcases hedge with hf | hf
     ·refine .inr fun H' nx' _ => ?_;rw [z0I (tm' := T) (fun t ht => z38 hr hlex ho _ (.inl ht)), z2U (H' := H) (nx' := nx) hf];exact (z3S (st := ⟨T, n, H, nx⟩)).trans hop
     ·refine .inl fun j hj hej => ?_;rw [List.all_eq_true] at hf;have := hf j hj;rw [hej] at this;simpa using this
    ·refine .inr fun H' nx' hK => ?_;rw [z0I (tm' := T) (fun t ht => z38 hr hlex ho _ (.inl ht))];exact (z3S (st := ⟨T, n, H, nx⟩)).trans (hst H' nx' hK)
 obtain ⟨v, hp, h2⟩ := key;refine ⟨zk T o.dst v, ⟨hi.size, hi.down, fun j hj => hi.unl j (List.mem_cons_of_mem _ hj), ?_, ?_, ?_, (List.nodup_cons.1 hi.nd).2, fun j hj => hi.lt j (List.mem_cons_of_mem _ hj), ?_, ?_, ?_⟩, h2⟩
 ·intro j hj;rcases hi.all j hj with h | h
  ·exact .inl (List.mem_cons_of_mem _ h)
  ·rcases List.mem_cons.1 h with rfl | h
   ·exact .inl List.mem_cons_self
   ·exact .inr h
 ·intro p hp j hj;rcases List.mem_cons.1 hp with rfl | hp
  ·exact (hl j hj).1
  ·exact hi.disj p hp j (List.mem_cons_of_mem _ hj)
 ·intro p hp j hj;rcases List.mem_cons.1 hp with rfl | hp
  ·exact (hl j hj).2
  ·exact hi.topo p hp j (List.mem_cons_of_mem _ hj)
 ·intro p hp2 hun;rcases List.mem_cons.1 hp2 with rfl | hp2
  ·exact ⟨o, ho, hp⟩
  ·obtain ⟨op, hop, hpe⟩ := hi.pend p hp2 hun;exact ⟨op, hop, z92 hr hone ho hop (hi.disj p hp2 i List.mem_cons_self) (hi.topo p hp2 i List.mem_cons_self) (fun h => by rw [hna] at h; cases h) v (fun j hj => List.mem_cons_of_mem _ hj) List.mem_cons_self hpe (.inl ⟨rfl, rfl⟩)⟩
 ·intro t ht;have h0 := hi.eqv t (fun p op hop hp hun => ht p op hop (List.mem_cons_of_mem _ hp) hun);have hne := ht i o ho List.mem_cons_self (hi.unl i List.mem_cons_self);rw [h0];cases hod : o.dst with
  | none => rfl
  | some d =>
   have : t ≠ d := fun e => hne (by rw [hod, e]);simp only [zk, this, if_false]
 ·intro p hp ha;rcases List.mem_cons.1 hp with rfl | hp
  ·rw [hna] at ha; cases ha
  ·exact hi.actl p hp ha
theorem RInvW.find (hr : z2p ops acts = true) (hlex : ∀ (i : Nat) (o : Oper), ops[i]? = some o → ∀ j, dep o j → j < i) (hone : ∀ (i j : Nat) (oi oj : Oper) (d : Tmp), ops[i]? = some oi → ops[j]? = some oj → oi.dst = some d → oj.dst = some d → i = j) {Q : ASt → Prop} {i : Nat} {o : Oper} (ho : ops[i]? = some o) (hall : ∀ j, dep o j → listed.getD j false = true) :
  ∀ (m : Nat) (L D : List Nat) (T : Nat → Value), RInvW P ops acts K D L listed tm T n H nx → OpsR P W0 ops acts K m L ⟨T, n, H, nx⟩ Q → i ∈ L → ∃ m' D' L' T', RInvW P ops acts K D' L' listed tm T' n H nx ∧ ((i ∈ D' ∧ OpsR P W0 ops acts K m' L' ⟨T', n, H, nx⟩ Q) ∨ (i ∈ L' ∧ z3O ops (L'.erase i) i = true ∧ ActStep P W0 ops acts K i ⟨T', n, H, nx⟩ fun s => OpsR P W0 ops acts K m' (L'.erase i) s Q)) := by
 intro m
 induction m with
 | zero =>
  intro L D T hi h hm;cases L with
  | nil => cases hm
  | cons k L => exact h.elim
 | succ m ih =>
  intro L D T hi h hm;cases L with
  | nil => cases hm
  | cons k L =>
   rcases h with ⟨hna, hfr, h⟩ | h
   ·obtain ⟨T', hi', h'⟩ := hi.advance hr hlex hone hna hfr h;by_cases hk : k = i
    ·subst hk;exact ⟨m, _, _, T', hi', .inl ⟨List.mem_cons_self, h'⟩⟩
    ·have hm2 : i ∈ L := by
      rcases List.mem_cons.1 hm with e | hm
      ·exact absurd e.symm hk
      ·exact hm
     exact ih _ _ _ hi' h' hm2
   ·have hfr : z3O ops ((k :: L).erase i) i = true := z2D.2 fun j hj => by
     cases hd : z8z ops i j with
     | false => rfl
     | true =>
      have hjl := hi.unl j (List.mem_of_mem_erase hj);unfold z8z at hd;rw [ho] at hd;have := hall j (z0S.1 hd);rw [hjl] at this;cases this
    exact ⟨m, D, _, T, hi, .inr ⟨hm, hfr, h i hm hfr⟩⟩
theorem zdO (hr : z2p ops acts = true) (hlex : ∀ (i : Nat) (o : Oper), ops[i]? = some o → ∀ j, dep o j → j < i) (hone : ∀ (i j : Nat) (oi oj : Oper) (d : Tmp), ops[i]? = some oi → ops[j]? = some oj → oi.dst = some d → oj.dst = some d → i = j) {ρ : Option Nat} {nx0 : Nat} {H0 : Heap} {C0 : Corr} {df : List Deferred} {Q' : ASt → Prop} {Q : Exit → Act → World → Prop}
  (hq : ∀ T H nx C a w, Q' ⟨T, n, H, nx⟩ → SRel W0 C ⟨T, n, H, nx⟩ a w → Stp nx0 H0 C0 nx H C → a.defers = df → Q .normal a w) :
  ∀ (fuel : Nat) (listed : Array Bool) (tm : Nat → Value) (m : Nat) (D L : List Nat) (T : Nat → Value) (H : Heap) (nx : Nat) (C : Corr) (a : Act) (w : World), RInvW P ops acts K D L listed tm T n H nx → ((List.range ops.size).filter fun i => !listed.getD i false).length = fuel →
   SRel W0 C ⟨tm, n, H, nx⟩ a w → Stp nx0 H0 C0 nx H C → a.defers = df → K nx H → OpsR P W0 ops acts K m L ⟨T, n, H, nx⟩ Q' → wpAnyIn (rf ρ) 0 P .any ops Q fuel listed a w := by
 intro fuel
 induction fuel with
 | zero =>
  intro listed tm m D L T H nx C a w hi hf hs hS hdf hK h
  have hall : ∀ i, i < ops.size → listed.getD i false = true := by
   intro i hlt;cases hl : listed.getD i false with
   | true => rfl
   | false =>
    have : i ∈ (List.range ops.size).filter fun i => !listed.getD i false := List.mem_filter.2 ⟨List.mem_range.2 hlt, by rw [hl]; rfl⟩;rw [List.length_eq_zero_iff.1 hf] at this;cases this
  refine ⟨?_, ?_⟩
  ·cases hrr : Region.ready .any ops listed with
   | nil => rfl
   | cons j r =>
    have hj : j ∈ Region.ready .any ops listed := by rw [hrr]; exact List.mem_cons_self ..
    obtain ⟨h0, o, ho, _⟩ := mem_ready.1 hj;have hlt : j < ops.size := (Array.getElem?_eq_some_iff.1 ho).1;have := hall j hlt;rw [z3m (by rw [hi.size]; exact hlt) false true, h0] at this;cases this
  ·cases L with
   | cons k L =>
    have := hi.unl k List.mem_cons_self;rw [hall k (hi.lt k List.mem_cons_self)] at this;cases this
   | nil =>
    have h : Q' ⟨T, n, H, nx⟩ := by cases m <;> exact h
    have htm : tm = T := by
     funext t;refine hi.eqv t fun p op hop hp hun => ?_;rw [hall p (Array.getElem?_eq_some_iff.1 hop).1] at hun;cases hun
    subst htm;exact hq _ _ _ C a w h hs hS hdf
 | succ fuel ih =>
  intro listed tm m D L T H nx C a w hi hf hs hS hdf hK h;refine ⟨?_, ?_⟩
  ·intro hrd;exfalso
   have hex : ∃ i, i < ops.size ∧ listed.getD i false = false ∧ ∀ j, j < i → listed.getD j false = true := by
    have : ∃ i, i < ops.size ∧ listed.getD i false = false := by
     cases hl : (List.range ops.size).filter fun i => !listed.getD i false with
     | nil => rw [hl] at hf; simp at hf
     | cons i r =>
      have : i ∈ (List.range ops.size).filter fun i => !listed.getD i false := by rw [hl]; exact List.mem_cons_self ..
      obtain ⟨h1, h2⟩ := List.mem_filter.1 this;exact ⟨i, List.mem_range.1 h1, by simpa using h2⟩
    obtain ⟨i, h1, h2⟩ := this
    induction i using Nat.strongRecOn with
    | _ i ihh =>
     by_cases hm : ∃ j, j < i ∧ listed.getD j false = false
     ·obtain ⟨j, hj1, hj2⟩ := hm;exact ihh j hj1 zom hj2
     ·refine ⟨i, h1, h2, fun j hj => ?_⟩;cases hl : listed.getD j false with
      | true => rfl
      | false => exact absurd ⟨j, hj, hl⟩ hm
   obtain ⟨i, hlt, hun, hmin⟩ := hex;have ho : ops[i]? = some ops[i] := by simp
   have : i ∈ Region.ready .any ops listed := mem_ready.2 ⟨by rw [z3m (by rw [hi.size]; exact hlt) true false]; exact hun, _, ho, fun e he hb => hmin _ (hlex i _ ho e.on ⟨e, he, hb, rfl⟩)⟩;rw [hrd] at this;cases this
  ·intro i hir;obtain ⟨h0, o, ho, hall0⟩ := mem_ready.1 hir;have hlt : i < ops.size := (Array.getElem?_eq_some_iff.1 ho).1;have hlts : i < listed.size := by rw [hi.size]; exact hlt
   have hun : listed.getD i false = false := by rw [z3m hlts false true]; exact h0
   have hall : ∀ j, dep o j → listed.getD j false = true := fun j ⟨e, he, hb, hj⟩ => hj ▸ hall0 e he hb
   have hcount : ((List.range ops.size).filter fun j => !(listed.setIfInBounds i true).getD j false).length = fuel := by
    have key : ∀ (l : List Nat), l.Nodup → i ∈ l → ((l.filter fun j => !(listed.setIfInBounds i true).getD j false).length + 1 = (l.filter fun j => !listed.getD j false).length) := by
     intro l
     induction l with
     | nil => intro _ hm; cases hm
     | cons x l ihl =>
      intro hnd hm;rw [List.nodup_cons] at hnd;by_cases e : x = i
      ·subst e
       have hsame : (l.filter fun j => !(listed.setIfInBounds x true).getD j false) = (l.filter fun j => !listed.getD j false) := by
        apply List.filter_congr;intro y hy;rw [getD_set_ne false (fun z : x = y => hnd.1 (by rw [z]; exact hy))]
       rw [List.filter_cons, List.filter_cons];simp only [z0r hlts, hun, Bool.not_true, Bool.not_false, Bool.false_eq_true, if_false, if_true, List.length_cons, hsame]
      ·have hm' : i ∈ l := by
        cases hm with
        | head => exact absurd rfl e
        | tail _ hm => exact hm
       have := ihl hnd.2 hm';rw [List.filter_cons, List.filter_cons, getD_set_ne false (Ne.symm e)];split
       ·simp only [List.length_cons]; omega
       ·exact this
    have := key (List.range ops.size) List.nodup_range (List.mem_range.2 hlt);omega
   have hdown' : ∀ (k : Nat) (ok : Oper), ops[k]? = some ok → (listed.setIfInBounds i true).getD k false = true → ∀ j, dep ok j → (listed.setIfInBounds i true).getD j false = true := by
    intro k ok hok hk j hj;apply getD_set_true;by_cases e : i = k
    ·subst e;rw [ho] at hok;cases hok;exact hall j hj
    ·rw [getD_set_ne false e] at hk;exact hi.down k ok hok hk j hj
   have hwalk : ∃ m' D' L' T', RInvW P ops acts K D' L' listed tm T' n H nx ∧ ((i ∈ D' ∧ OpsR P W0 ops acts K m' L' ⟨T', n, H, nx⟩ Q') ∨ (i ∈ L' ∧ z3O ops (L'.erase i) i = true ∧ ActStep P W0 ops acts K i ⟨T', n, H, nx⟩ fun s => OpsR P W0 ops acts K m' (L'.erase i) s Q')) := by
    rcases hi.all i hlt with hD | hL
    ·exact ⟨m, D, L, T, hi, .inl ⟨hD, h⟩⟩
    ·exact RInvW.find hr hlex hone ho hall m L D T hi h hL
   clear hi h T D L m;obtain ⟨m, D, L, T, hi, hcase⟩ := hwalk;have hrd : ∀ t, (t ∈ z3j o ∨ z6Q ops o = some t) → tm t = T t := fun t ht => hi.reads hr ho hall ht;rcases hcase with ⟨hD, h⟩ | ⟨hL, hfr, h⟩
   ·-- one that waits comes up
    obtain ⟨o', ho', hp⟩ := hi.pend i hD hun;rw [ho] at ho';cases ho';obtain ⟨p2, val, p3, p4⟩ := hp
    have hds : DStep P W0 ops tm n H nx o val H nx := by
     refine ⟨p2, ?_⟩;rw [z0l (tm' := T) (fun d hd => hrd d (.inr hd)), z0I (tm' := T) (fun t ht => hrd t (.inl ht))];rcases p4 with ⟨q1, q2⟩ | ⟨q1, q2, _⟩
     ·exact .inl ⟨q1, q2, rfl, rfl⟩
     ·exact .inr ⟨q1, .inl ⟨.none, q2, rfl, rfl⟩⟩
    refine hds.wp hs ho ?_;intro C' v' w' hs' hS';refine ih (listed.setIfInBounds i true) (zk tm o.dst val) m D L T H nx C' _ w' ⟨by simp [hi.size], hdown', ?_, hi.all, hi.disj, hi.topo, hi.nd, hi.lt, ?_, ?_, fun p hp ha => getD_set_true (hi.actl p hp ha)⟩ hcount hs' (hS.trans hS') ((z1b _ _ _).trans hdf) hK h
    ·intro j hj;rw [getD_set_ne false (hi.disj i hD j hj)];exact hi.unl j hj
    ·intro p hp hpu;by_cases e : i = p
     ·subst e;rw [z0r hlts] at hpu;cases hpu
     ·rw [getD_set_ne false e] at hpu;exact hi.pend p hp hpu
    ·intro t ht;by_cases hdt : o.dst = some t
     ·simp only [zk, hdt, if_true];exact (p3 t hdt).symm
     ·have hb : tm t = T t := hi.eqv t fun p op hop hp hpu => by
       by_cases e : i = p
       ·subst e;rw [ho] at hop;cases hop;exact hdt
       ·exact ht p op hop hp (by rw [getD_set_ne false e]; exact hpu)
      rw [← hb];cases hod : o.dst with
      | none => rfl
      | some d =>
       have : t ≠ d := fun e => hdt (by rw [hod, e]);simp only [zk, this, if_false]
   ·-- one that acts
    obtain ⟨o', ho', hd, hE, h⟩ := h;rw [ho] at ho';cases ho';have hdn := z1c hd;have hmE : ∀ j ∈ L.erase i, j ∈ L := fun j hj => List.mem_of_mem_erase hj;have hl : ∀ j ∈ L.erase i, i ≠ j ∧ z8z ops i j = false := fun j hj => ⟨fun e => by subst e; exact absurd hj (fun hx => (hi.nd.mem_erase_iff.1 hx).1 rfl), z2D.1 hfr j hj⟩
    have hnodep : ∀ p ∈ D, listed.getD p false = false → zbL ops i p = false := by
     intro p hp hpu;cases hx : zbL ops i p with
     | false => rfl
     | true =>
      have := z6D hi.down ho hall hx;rw [hpu] at this;cases this
    have hnext : ∀ (v : Value) (H' : Heap) (nx' : Nat) (C' : Corr) (v' : Value) (w' : World), ((H' = H ∧ nx' = nx) ∨ K nx' H') → OpsR P W0 ops acts K m (L.erase i) ⟨zk T o.dst v, n, H', nx'⟩ Q' → SRel W0 C' ⟨zk tm o.dst v, n, H', nx'⟩ (a.put o.dst v') w' → Stp nx H C nx' H' C' → wpAnyIn (rf ρ) 0 P .any ops Q fuel (listed.setIfInBounds i true) (a.put o.dst v') w' := by
     intro v H' nx' C' v' w' hK' h' hs' hS';refine ih (listed.setIfInBounds i true) (zk tm o.dst v) m (i :: D) (L.erase i) (zk T o.dst v) H' nx' C' _ w' ⟨by simp [hi.size], hdown', ?_, ?_, ?_, ?_, hi.nd.erase i, fun j hj => hi.lt j (hmE j hj), ?_, ?_, ?_⟩ hcount hs' (hS.trans hS') ((z1b _ _ _).trans hdf) (by rcases hK' with ⟨rfl, rfl⟩ | hK'; exact hK; exact hK') h'
     ·intro j hj;rw [getD_set_ne false (hl j hj).1];exact hi.unl j (hmE j hj)
     ·intro j hj;rcases hi.all j hj with h | h
      ·exact .inl (List.mem_cons_of_mem _ h)
      ·by_cases e : j = i
       ·exact .inl (e ▸ List.mem_cons_self)
       ·exact .inr ((List.mem_erase_of_ne e).2 h)
     ·intro p hp j hj;rcases List.mem_cons.1 hp with rfl | hp
      ·exact (hl j hj).1
      ·exact hi.disj p hp j (hmE j hj)
     ·intro p hp j hj;rcases List.mem_cons.1 hp with rfl | hp
      ·exact (hl j hj).2
      ·exact hi.topo p hp j (hmE j hj)
     ·intro p hp hpu;rcases List.mem_cons.1 hp with rfl | hp
      ·rw [z0r hlts] at hpu;cases hpu
      ·have hne : i ≠ p := fun e => hi.disj p hp i hL e.symm;rw [getD_set_ne false hne] at hpu;obtain ⟨op, hop, hpe⟩ := hi.pend p hp hpu;refine ⟨op, hop, z92 hr hone ho hop (Ne.symm hne) (hi.topo p hp i hL) (fun _ => hnodep p hp hpu) v hmE hL hpe ?_⟩;rcases hK' with hK' | hK'
       ·exact .inl hK'
       ·exact .inr ⟨hE, hnodep p hp hpu, hK'⟩
     ·intro t ht;by_cases hdt : o.dst = some t
      ·simp only [zk, hdt, if_true]
      ·have hb : tm t = T t := hi.eqv t fun p op hop hp hpu => ht p op hop (List.mem_cons_of_mem _ hp) (by
        have hne : i ≠ p := fun e => hi.disj p hp i hL e.symm;rw [getD_set_ne false hne]; exact hpu)
       cases hod : o.dst with
       | none => exact hb
       | some d =>
        have : t ≠ d := fun e => hdt (by rw [hod, e]);simp only [zk, this, if_false];exact hb
     ·intro p hp ha;rcases List.mem_cons.1 hp with rfl | hp
      ·exact z0r hlts false
      ·exact getD_set_true (hi.actl p hp ha)
    have hwT : z1W ops tm o = z0X ops ⟨T, n, H, nx⟩ o := by
     rw [z0l (tm' := T) (fun d hd => hrd d (.inr hd))];exact z0k ⟨T, n, H, nx⟩ o
    have hevT : evR (z3j o) tm = evR (z3j o) T := z0I (fun t ht => hrd t (.inl ht));rcases h with ⟨hw, h⟩ | ⟨hw, ⟨v, e, hop, hKe, h⟩ | ⟨f, args, R, hc, hf2, hcall, h⟩⟩
    ·have hds : DStep P W0 ops tm n H nx o undef H nx := ⟨hdn, .inl ⟨hwT.trans hw, rfl, rfl, rfl⟩⟩;exact hds.wp hs ho fun C' v' w' hs' hS' => hnext undef H nx C' v' w' (.inl ⟨rfl, rfl⟩) h hs' hS'
    ·have hds : DStep P W0 ops tm n H nx o v (e.H nx H) (e.nx nx) := ⟨hdn, .inr ⟨hwT.trans hw, .inl ⟨e, by rw [hevT]; exact (z3S (st := ⟨T, n, H, nx⟩)).trans hop, rfl, rfl⟩⟩⟩;exact hds.wp hs ho fun C' v' w' hs' hS' => hnext v _ _ C' v' w' (.inr hKe) h hs' hS'
    ·refine zbB hs hdn (hwT.trans hw) (by rw [hevT]; exact (z3D (st := ⟨T, n, H, nx⟩)).trans hc) hf2 hcall ho ?_;intro v nx' H' C' v' w' hRv hs' hS';obtain ⟨hK', h'⟩ := h v nx' H' hRv;exact hnext v H' nx' C' v' w' (.inr hK') h' hs' hS'
theorem zaO {id : Nat} {st : ASt} {Q : AExit → ASt → Prop} (acts : List Nat) (hm : P.follows .mixedOrders = true) (hs : z7b ops = true) (hr : z2p ops acts = true) (perm : List Nat) (hperm : ((List.range ops.size).all perm.contains && perm.all (fun i => decide (i < ops.size)) && decide perm.Nodup) = true) (h0 : K st.nx st.H) (h : OpsR P W0 ops acts K perm.length perm st (Q .normal)) : Trip P W0 (.region id ops true) st Q := by
 obtain ⟨b1, b2, _⟩ := z3w hs;simp only [Bool.and_eq_true, decide_eq_true_eq] at hperm;obtain ⟨⟨hp1, hp2⟩, hp3⟩ := hperm;intro ρ C a w hrr hss;have hs' : SRel W0 C st a w.drew := ⟨hss.tm, hss.sz, hss.rel.drew⟩
 have hfalse : ∀ i, (Array.replicate ops.size false).getD i false = false := fun i => by
  rw [Array.getD_eq_getD_getElem?, Array.getElem?_replicate]; split <;> rfl
 refine wpIn_region_any hm (zdO (P := P) (W0 := W0) (K := K) (n := st.n) (nx0 := st.nx) (H0 := st.H) (C0 := C) (df := a.defers) (Q' := Q .normal) hr b1 b2 (fun T H nx C' a' w' hq hs' hS hdf => ⟨.normal, _, C', rfl, hq, hs', hS, rfl, .of_eq hdf⟩) ops.size (Array.replicate ops.size false) st.tm perm.length [] perm st.tm st.H st.nx C a _ ?_ ?_ hs' (Stp.refl _ _ _) rfl h0 h)
 ·refine ⟨by simp, fun i o _ hl => (by rw [hfalse] at hl; cases hl), fun i _ => hfalse i, fun i hi => .inr ?_, fun p hp => (by cases hp), fun p hp => (by cases hp), hp3, fun i hi => (by have := List.all_eq_true.1 hp2 i hi; simpa using this), fun i hi => (by cases hi), fun t _ => rfl, fun p hp => (by cases hp)⟩;have := List.all_eq_true.1 hp1 i (List.mem_range.2 hi);simpa using this
 ·have : ((List.range ops.size).filter fun i => !(Array.replicate ops.size false).getD i false) = List.range ops.size := by
   rw [List.filter_eq_self];intro i _;rw [hfalse]; rfl
  rw [this, List.length_range]
theorem zt {i : Nat} {o : Oper} {st : ASt} {N : ASt → Prop} (ho : ops[i]? = some o) (he : acts.contains i = true) (h : OpsL P W0 ops [o] st fun s => K s.nx s.H ∧ N s) : ActStep P W0 ops acts K i st N := by
 obtain ⟨hd, h⟩ := h;refine ⟨o, ho, hd, he, ?_⟩;rcases h with ⟨hw, h⟩ | ⟨hw, ⟨v, e, hop, h⟩ | ⟨f, args, R, hc, hf, hcall, h⟩⟩
 ·exact .inl ⟨hw, h.2⟩
 ·exact .inr ⟨hw, .inl ⟨v, e, hop, h.1, h.2⟩⟩
 ·exact .inr ⟨hw, .inr ⟨f, args, R, hc, hf, hcall, fun v nx' H' hr => h v nx' H' hr⟩⟩
end
theorem z6J {P : Program} {H H' : Heap} {t : TypeId} {a : Option Addr} {n c : Nat} {lo hi mx : Option Value} (h : ∀ p, a = some p → H' p.block = H p.block) : z0Q P H' t (.slice a n c) lo hi mx = z0Q P H t (.slice a n c) lo hi mx := by
 cases a with
 | none =>
  unfold z0Q;cases P.underlying t with
  | none => rfl
  | some d => cases d <;> rfl
 | some p =>
  unfold z0Q;cases P.underlying t with
  | none => rfl
  | some d => cases d <;> first | rfl | simp only [h p rfl]
end Go.Am
namespace Go.Am
open Go.RowKit
section
variable {P : Program} {W0 : World} {ops : Array Oper} {acts : List Nat} {K : Nat → Heap → Prop}
theorem ActStep.skip {i j : Nat} {d d' : Tmp} {op : Op} {type : TypeId} {pos : String} {after : Array Edge} {tm : Nat → Value} {n nx : Nat} {H : Heap} {N : ASt → Prop} {want : Bool} (ho : ops[i]? = some ⟨some d, op, type, pos, after, some (j, want)⟩) (he : acts.contains i = true) (hd : d < n)
  (hj : (ops[j]?).bind (·.dst) = some d') (hb : tm d' = .bool (!want)) (h : N ⟨zk tm (some d) undef, n, H, nx⟩) : ActStep P W0 ops acts K i ⟨tm, n, H, nx⟩ N :=
 ⟨_, ho, by simp [z1f, hd], he, .inl ⟨by cases want <;> simp [z0X, hj, hb], h⟩⟩
theorem z76 {i j : Nat} {d d' : Tmp} {ts : Array TypeId} {type : TypeId} {pos : String} {after : Array Edge} {tm : Nat → Value} {n nx : Nat} {H : Heap} {f : FuncId} {R : Value → Nat → Heap → Prop} {N : ASt → Prop} {want : Bool} {c x y : Operand} {a b : Value} (ho : ops[i]? = some ⟨some d, .call ⟨.value c, #[x, y], ts⟩, type, pos, after, some (j, want)⟩) (he : acts.contains i = true) (hd : d < n)
  (hj : (ops[j]?).bind (·.dst) = some d') (hb : tm d' = .bool want) (hf' : ASt.ev ⟨tm, n, H, nx⟩ c = some (.func (.func f) #[] #[])) (hx : ASt.ev ⟨tm, n, H, nx⟩ x = some a) (hy : ASt.ev ⟨tm, n, H, nx⟩ y = some b) (hf : Am.z0U P f) (hcall : ACalls P W0 f [a, b] nx H R)
  (h : ∀ v nx' H', R v nx' H' → K nx' H' ∧ N ⟨zk tm (some d) v, n, H', nx'⟩) : ActStep P W0 ops acts K i ⟨tm, n, H, nx⟩ N :=
 ⟨_, ho, by simp [z1f, hd], he, .inr ⟨by simp [z0X, hj, hb], .inr ⟨f, [a, b], R, by simp [z0W, hf', z0C, hx, hy], hf, hcall, h⟩⟩⟩
theorem z8u {i j : Nat} {d d' : Tmp} {op : Op} {type : TypeId} {pos : String} {after : Array Edge} {tm : Nat → Value} {n nx : Nat} {H : Heap} {N : ASt → Prop} {want : Bool} (ho : ops[i]? = some ⟨some d, op, type, pos, after, some (j, want)⟩) (he : acts.contains i = true) (hd : d < n)
  (hj : (ops[j]?).bind (·.dst) = some d') (hb : tm d' = undef) (h : N ⟨zk tm (some d) undef, n, H, nx⟩) : ActStep P W0 ops acts K i ⟨tm, n, H, nx⟩ N :=
 ⟨_, ho, by simp [z1f, hd], he, .inl ⟨by cases want <;> simp [z0X, hj, hb, undef], h⟩⟩
end
theorem zC {H : Heap} {b e : Nat} {c vs : List Value} {t : Option Nat} {q : Option TypeId} (h : H b = some (.cells c e t false q)) (hl : vs.length = c.length) (ho : vs.all (·.oneCell') = true) : z5d H ⟨b, 0, t⟩ vs = some (.cells vs e t false q) := by
 unfold z5d;simp only [h];rw [if_pos ⟨trivial, zom, trivial, ho⟩];simp [hl]
end Go.Am
namespace Go.Am
open Go.RowKit
section
variable {P : Program} {W0 : World} {H : Heap} {nx n : Nat} {ev : Operand → Option Value} {dst : Option Tmp} {type : TypeId} {pos : String} {after : Array Edge} {guard : Option (Nat × Bool)}
theorem z5I {b m sz bytes : Nat} {el : TypeId} {u : Value} {xs z : List Value} {q : Option TypeId} {ro : Bool} {esz : Nat} {x y : Operand} {st xt : TypeId} {xd : TypeDesc} (hx : ev x = some (.slice (some ⟨b, 0, none⟩) 0 0)) (hy : ev y = some u)
  (hH : H b = some (.cells [] esz none ro q))
  (hs : z3G H sz u none = some (m, xs)) (h1 : xs.all (·.oneCell') = true) (hm : m ≠ 0) (hst : P.underlying st = some (.slice el)) (hxt : P.underlying xt = some xd) (hxd : z35 xd = true)
  (hsz : z1F P el = some sz) (hby : z0q P el = some bytes) (hz : z0B P el = some z) (hzl : z.length = sz) (hle : m ≤ 1099511627776) (hle2 : (2 * m + 192) * bytes ≤ 281474976710656) :
  aop P H nx ev ⟨dst, .call ⟨.builtin .append, #[x, y], #[st, xt]⟩, type, pos, after, guard⟩ = some (.slice (some ⟨nx, 0, some nx⟩) m m, .new (.cells xs sz (some nx) false (some el))) := by
 have hg : z0M H ⟨b, 0, none⟩ 0 = some [] := by
  unfold z0M;simp only [hH];rw [if_pos ⟨trivial, by simp⟩];simp
 simp [aop, hx, hy, z0C, z0G, z2B, hst, hxt, hsz, hby, hz, hxd, hzl, hs, hm, hH, hle, hle2, hg];rw [if_pos (by simpa using h1)]
theorem z59 {b sz bytes : Nat} {el : TypeId} {u : Value} {cs xs z : List Value} {q : Option TypeId} {tg : Option Nat} {ro : Bool} {esz : Nat} {x y : Operand} {st xt : TypeId} {xd : TypeDesc} (hx : ev x = some (.slice (some ⟨b, 0, tg⟩) 0 0)) (hy : ev y = some u)
  (hH : H b = some (.cells cs esz tg ro q))
  (hs : z3G H sz u none = some (0, xs)) (h1 : xs.all (·.oneCell') = true) (hst : P.underlying st = some (.slice el)) (hxt : P.underlying xt = some xd) (hxd : z35 xd = true)
  (hsz : z1F P el = some sz) (hby : z0q P el = some bytes) (hz : z0B P el = some z) (hzl : z.length = sz) :
  aop P H nx ev ⟨dst, .call ⟨.builtin .append, #[x, y], #[st, xt]⟩, type, pos, after, guard⟩ = some (.slice (some ⟨b, 0, tg⟩) 0 0, .none) := by
 simp [aop, hx, hy, z0C, z0G, z2B, hst, hxt, hsz, hby, hz, hxd, hzl, hs, hH];rw [if_pos (by simpa using h1)]
end
def RowE {α : Type} (enc : α → List Value) (sz : Nat) (el : TypeId) (H : Heap) (ob : Option (Nat × Nat)) (v : Value) (l : List α) : Prop :=
 OwnOf enc sz el H ob v l ∨ (ob = none ∧ l = [] ∧ ∃ b esz ro q, v = .slice (some ⟨b, 0, none⟩) 0 0 ∧ H b = some (.cells [] esz none ro q))
theorem RowE.at {α : Type} {enc : α → List Value} {sz : Nat} {el : TypeId} {H : Heap} {ob : Option (Nat × Nat)} {v : Value} {l : List α} (hk : ∀ x, (enc x).length = sz) (h : RowE enc sz el H ob v l) : RowsAt enc sz H v l := by
 rcases h with h | ⟨_, rfl, b, esz, ro, q, rfl, _⟩
 ·exact h.at hk
 ·exact .inr ⟨_, 0, rfl, fun i hi => absurd hi (by simp)⟩
theorem RowE.same {α : Type} {enc : α → List Value} {sz : Nat} {el : TypeId} {H H' : Heap} {nx nx' : Nat} {ob : Option (Nat × Nat)} {v : Value} {l : List α} (h : RowE enc sz el H ob v l) (hx : Ext nx H nx' H') (hok : ∀ id o, H id = some o → id < nx) (hlt : ∀ b t, ob = some (b, t) → b < nx) : RowE enc sz el H' ob v l := by
 rcases h with h | ⟨h1, h2, b, esz, ro, q, rfl, hH⟩
 ·exact .inl (h.ext hx hlt)
 ·exact .inr ⟨h1, h2, b, esz, ro, q, rfl, by rw [hx.2 b (hok _ _ hH)]; exact hH⟩
structure AppE {α : Type} (enc : α → List Value) (sz : Nat) (el : TypeId) (nx : Nat) (H : Heap) (ob : Option (Nat × Nat)) (l : List α) (v' : Value) (nx' : Nat) (H' : Heap) (ob' : Option (Nat × Nat)) : Prop where
 own : RowE enc sz el H' ob' v' l
 blk : ∀ b' t', ob' = some (b', t') → b' < nx' ∧ (b' = nx ∨ ∃ t, ob = some (b', t))
 le : nx ≤ nx'
 same : ∀ i, i < nx → (∀ b t, ob = some (b, t) → i ≠ b) → H' i = H i
 ok : (∀ b t, ob = some (b, t) → b < nx) → (∀ id o, H id = some o → id < nx) → ∀ id o, H' id = some o → id < nx'
attribute [local irreducible] aop OpsL Trip zI z2w OpsK OpsR
section
variable {P : Program} {W0 : World} {H : Heap} {nx n : Nat} {type : TypeId} {pos : String} {after : Array Edge} {ops : Array Oper} {l : List Oper} {tm : Nat → Value} {QQ : ASt → Prop} {d : Tmp}
theorem z0K {α : Type} {enc : α → List Value} {sz bytes : Nat} {z : List Value} {el st xt : TypeId} {ob : Option (Nat × Nat)} {v u : Value} {zs us : List α} {x y : Operand} (hk : ∀ x, (enc x).length = sz) (h1 : ∀ x, (enc x).all (·.oneCell') = true) (h0 : 0 < sz) (hd : d < n) (h : RowE enc sz el H ob v zs) (hu : RowsAt enc sz H u us) (hx : ASt.ev ⟨tm, n, H, nx⟩ x = some v) (hy : ASt.ev ⟨tm, n, H, nx⟩ y = some u) (hb : ∀ b t, ob = some (b, t) → b < nx)
  (hst : P.underlying st = some (.slice el)) (hxt : P.underlying xt = some (.slice el)) (hsz : z1F P el = some sz) (hby : z0q P el = some bytes) (hz : z0B P el = some z) (hzl : z.length = sz) (hle : zs.length + us.length ≤ 1000000) (hbl : bytes ≤ 1000)
  (hc : ∀ v' nx' H' ob', AppE enc sz el nx H ob (zs ++ us) v' nx' H' ob' → OpsL P W0 ops l ⟨zk tm (some d) v', n, H', nx'⟩ QQ) :
  OpsL P W0 ops (⟨some d, .call ⟨.builtin .append, #[x, y], #[st, xt]⟩, type, pos, after, none⟩ :: l) ⟨tm, n, H, nx⟩ QQ := by
 rcases h with h | ⟨rfl, rfl, b, esz, ro, q, rfl, hH⟩
 ·exact zJ hk h1 h0 hd h hu hx hy hb hst hxt hsz hby hz hzl hle hbl fun v' nx' H' ob' hA => hc v' nx' H' ob' ⟨.inl hA.own, hA.blk, hA.le, hA.same, hA.ok⟩
 ·have hsrc := z5V hk h0 hu
  have hall : (us.flatMap enc).all (·.oneCell') = true := by
   rw [List.all_eq_true];intro v hv;obtain ⟨x, _, hx⟩ := List.mem_flatMap.1 hv;exact List.all_eq_true.1 (h1 x) v hx
  by_cases hl0 : us.length = 0
  ·have : us = [] := List.eq_nil_of_length_eq_zero hl0;subst this;refine z1j hd (z59 hx hy hH hsrc hall hst hxt rfl hsz hby hz hzl) (hc _ _ _ none ⟨.inr ⟨rfl, rfl, b, esz, ro, q, rfl, hH⟩, fun b' t' e => (by cases e), Nat.le_refl _, fun _ _ _ => rfl, fun _ h => h⟩)
  ·have hm1 : (2 * us.length + 192) * bytes ≤ 281474976710656 := by
    simp only [List.length_nil, Nat.zero_add] at hle;have : (2 * us.length + 192) * bytes ≤ (2 * us.length + 192) * 1000 := Nat.mul_le_mul_left _ hbl;omega
   refine OpsL.new hd (z5I hx hy hH hsrc hall hl0 hst hxt rfl hsz hby hz hzl (by simp at hle; omega) hm1) (hc _ _ _ (some (nx, nx)) ⟨.inl ⟨rfl, by rw [List.nil_append, z0i hk], [], by rw [zb, List.append_nil, List.nil_append]⟩, fun b' t' e => ?_, Nat.le_succ _, fun i hi _ => za zom, fun _ hok => zF hok⟩);cases e;exact ⟨Nat.lt_succ_self _, .inl rfl⟩
end
def z9Q (x : Int) : List Value := [.int .i64 x]
theorem z80 (x : Int) : (z9Q x).length = 1 := rfl
theorem zby (x : Int) : (z9Q x).all (·.oneCell') = true := rfl
theorem z1t {H : Heap} {v : Value} {l : List Int} (h : IntsAt H v l) : RowsAt z9Q 1 H v l := by
 rcases h with h | ⟨a, c, rfl, hc⟩
 ·exact .inl h
 ·exact .inr ⟨a, c, rfl, fun i hi => by have := hc i hi; simpa [zj, z9Q] using this⟩
theorem z1s {H : Heap} {v : Value} {l : List Int} (h : RowsAt z9Q 1 H v l) : IntsAt H v l := by
 rcases h with h | ⟨a, c, rfl, hc⟩
 ·exact .inl h
 ·exact .inr ⟨a, c, rfl, fun i hi => by have := hc i hi; simpa [zj, z9Q] using this⟩
def AppI (H : Heap) (ob : Option (Nat × Nat)) (el : TypeId) (v : Value) (xs : List Int) : Prop :=
 OwnInts H ob el v xs ∨ ∃ b t, ob = some (b, t) ∧ v = .slice (some ⟨b, 0, none⟩) xs.length xs.length ∧ xs ≠ [] ∧ H b = some (.cells (xs.map (.int .i64 ·)) 1 none false (some el))
theorem AppI.same {H H' : Heap} {ob : Option (Nat × Nat)} {el : TypeId} {v : Value} {xs : List Int} (hs : ∀ b t, ob = some (b, t) → H' b = H b) (h : AppI H ob el v xs) : AppI H' ob el v xs := by
 rcases h with h | ⟨b, t, rfl, h1, h2, h3⟩
 ·left;cases ob with
  | none => exact h
  | some bt =>
   obtain ⟨b, t⟩ := bt;obtain ⟨h1, h2, rest, h3⟩ := h;exact ⟨h1, h2, rest, by rw [hs b t rfl]; exact h3⟩
 ·exact .inr ⟨b, t, rfl, h1, h2, by rw [hs b t rfl]; exact h3⟩
theorem AppI.at {H : Heap} {ob : Option (Nat × Nat)} {el : TypeId} {v : Value} {xs : List Int} (h : AppI H ob el v xs) : IntsAt H v xs := by
 rcases h with h | ⟨b, t, rfl, rfl, h2, h3⟩
 ·exact OwnInts.at h
 ·exact NumsAt.own (rest := []) (by rw [List.append_nil]; exact h3)
section
variable {P : Program} {W0 : World} {H : Heap} {nx n : Nat} {ev : Operand → Option Value} {dst : Option Tmp} {type : TypeId} {pos : String} {after : Array Edge} {guard : Option (Nat × Bool)}
theorem z44 {b k m sz bytes : Nat} {el : TypeId} {u : Value} {cs xs z : List Value} {q : Option TypeId} {ro : Bool} {esz : Nat} {x y : Operand} {st xt : TypeId} {xd : TypeDesc} (hx : ev x = some (.slice (some ⟨b, 0, none⟩) k k)) (hy : ev y = some u)
  (hH : H b = some (.cells cs esz none ro q)) (hc : cs.length = k * sz)
  (hs : z3G H sz u none = some (m, xs)) (h1 : xs.all (·.oneCell') = true) (hm : m ≠ 0) (hst : P.underlying st = some (.slice el)) (hxt : P.underlying xt = some xd) (hxd : z35 xd = true)
  (hsz : z1F P el = some sz) (hby : z0q P el = some bytes) (hz : z0B P el = some z) (hzl : z.length = sz) (hle : k + m ≤ 1099511627776) (hle2 : (2 * (k + m) + 192) * bytes ≤ 281474976710656) :
  aop P H nx ev ⟨dst, .call ⟨.builtin .append, #[x, y], #[st, xt]⟩, type, pos, after, guard⟩ = some (.slice (some ⟨nx, 0, some nx⟩) (k + m) (k + m), .new (.cells (cs ++ xs) sz (some nx) false (some el))) := by
 have hg : z0M H ⟨b, 0, none⟩ (k * sz) = some cs := by
  unfold z0M;simp only [hH];rw [if_pos ⟨trivial, zom⟩];simp [← hc]
 simp [aop, hx, hy, z0C, z0G, z2B, hst, hxt, hsz, hby, hz, hxd, hzl, hs, hm, hH, hle, hle2, hg];rw [if_pos (by simpa using h1), if_neg (by omega : ¬ (k + m ≤ k))]
end
section
variable {P : Program} {W0 : World} {H : Heap} {nx n : Nat} {ops : Array Oper} {l : List Oper} {tm : Nat → Value} {QQ : ASt → Prop}
theorem z9E {d1 d2 dy : Tmp} {x : Operand} {st el ty1 ty2 : TypeId} {p1 p2 : String} {af1 af2 : Array Edge} {a : Int} {v : Value} {ob : Option (Nat × Nat)} {xs : List Int}
  (hd1 : d1 < n) (hd2 : d2 < n) (hx : ASt.ev ⟨tm, n, H, nx⟩ x = some (.int .i64 a)) (hne : dy ≠ d1) (hy : tm dy = v) (hv : AppI H ob el v xs) (hob : ∀ b t, ob = some (b, t) → b < nx)
  (hst : P.underlying st = some (.slice el)) (hsz : z1F P el = some 1) (hby : z0q P el = some 8) (hz : z0B P el = some [.int .i64 0]) (hle : xs.length ≤ 1000000000)
  (h : ∀ v' ob' H', OwnInts H' ob' el v' (xs ++ [a]) → (∃ b, ob' = some (b, nx + 1) ∧ (b = nx + 1 ∨ ∃ t, ob = some (b, t))) → (∀ k, k < nx → (∀ b t, ob = some (b, t) → k ≠ b) → H' k = H k) →
   OpsL P W0 ops l ⟨zk (zk tm (some d1) (.slice (some ⟨nx, 0, none⟩) 1 1)) (some d2) v', n, H', nx + 1 + 1⟩ QQ) :
  OpsL P W0 ops (⟨some d1, .buildSlice st 1 #[(0, x)], ty1, p1, af1, none⟩ :: ⟨some d2, .call ⟨.builtin .append, #[.tmp dy, .tmp d1], #[st, st]⟩, ty2, p2, af2, none⟩ :: l) ⟨tm, n, H, nx⟩ QQ := by
 rcases hv with hv | ⟨b, t, rfl, rfl, hne0, hH⟩
 ·exact z2h hd1 hd2 hx hne hy hv hob hst hsz hby hz hle h
 ·have hb := hob b t rfl;refine OpsL.new hd1 (z2N hx hst hsz hz) ?_
  refine OpsL.new hd2 (z44 (b := b) (sz := 1) (bytes := 8) (k := xs.length) (m := 1) (cs := xs.map (.int .i64 ·)) (xs := [.int .i64 a]) (u := .slice (some ⟨nx, 0, none⟩) 1 1) (xd := .slice el) (by simp [ASt.ev, zk, hne, hy]) (by simp [ASt.ev, zk])
   (by rw [za (show b ≠ nx by omega)]; exact hH) (by simp) (z7h (by exact zb) rfl zom) rfl zom hst hst rfl hsz hby hz rfl zom zom) ?_
  refine h _ (some (nx + 1, nx + 1)) _ ⟨by simp, by simp, [], ?_⟩ ⟨_, rfl, .inl rfl⟩ ?_
  ·rw [zb]; simp
  ·intro k hk _;rw [za zom, za zom]
end
end Go.Am
namespace Go.Am
open Go.RowKit
abbrev Thg := Int × Int
def z1A (t : Thg) : List Value := [.int .i64 t.1, .int .i64 t.2]
theorem z1P (t : Thg) : (z1A t).length = 2 := rfl
theorem z7Z (t : Thg) : (z1A t).all (·.oneCell') = true := rfl
def thV (t : Thg) : Value := .agg (z1A t).toArray
def z01 (m : R4) : List Thg := [(0, m.1), (1, m.2.1)]
def z0m (m : R4) : List Thg := [(0, m.2.2.1), (1, m.2.2.2)]
def z0Y (r : R4) : R4 := (r.1, 0, r.2.2.1, r.2.2.2)
def z1D (r : R4) : R4 := (r.1, r.2.2.1, r.2.2.2, 0)
def z2Q (r : R3) : R4 := (r.1, 0, r.2.2, 0)
def z02 (a : Aut) : List R4 := a.opens.map z0Y ++ a.closes.map z1D ++ a.inners.map z2Q
def z5z (p : List Thg) : List Value := p.flatMap z1A
section
variable {P : Program} {H : Heap} {nx : Nat} {ev : Operand → Option Value} {dst : Option Tmp} {type : TypeId} {pos : String} {after : Array Edge} {guard : Option (Nat × Bool)}
theorem z0j {t : TypeId} {x i : Operand} {ok : Bool} {v k r : Value} (hx : ev x = some v) (hi : ev i = some k) (h : z1Y P H t v k ok = some r) : aop P H nx ev ⟨dst, .lookup t x i ok, type, pos, after, guard⟩ = some (r, .none) := by simp [aop, hx, hi, h]
theorem z1e {t : TypeId} {m k x : Operand} {a b c : Value} {e : Eff} (hm : ev m = some a) (hk : ev k = some b) (hx : ev x = some c) (h : zM P H t a b c = some e) : aop P H nx ev ⟨dst, .mapUpdate t m k x, type, pos, after, guard⟩ = some (undef, e) := by simp [aop, hm, hk, hx, h]
theorem z2f {t : TypeId} : aop P H nx ev ⟨dst, .makeMap t none, type, pos, after, guard⟩ = some (.map (some nx), .new (.map [] [] 0)) := by simp [aop, z2l, z62]
theorem z7w {t e : TypeId} {x i : Operand} {cs : Array Value} {len : Nat} {k : IntKind} {j : Int} {sz : Nat} {v : Value} (hx : ev x = some (.agg cs)) (hi : ev i = some (.int k j)) (hu : P.underlying t = some (.array len e)) (hs : z1F P e = some sz) (h0 : 0 ≤ j) (h1 : j < len) (hv : z0D P e cs.toList (j.toNat * sz) = some v) :
  aop P H nx ev ⟨dst, .index t x i, type, pos, after, guard⟩ = some (v, .none) := by
 simp [aop, zb6, hx, hi, hu, hs, h0, h1, hv]
end
end Go.Am
namespace Go.Proofs.YteplpegfcpmflaaGreat
open Go.RowKit Go.Am
attribute [local irreducible] aop OpsL Trip zI z2w OpsK OpsR
theorem z6z : Am.z0U Tryz.prog 78 := ⟨Tryz.f78, Tryz.func78, by kernel_rfl, by kernel_rfl⟩
theorem zay : Am.z0U Tryz.prog 61 := ⟨Tryz.f61, Tryz.func61, by kernel_rfl, by kernel_rfl⟩
theorem z9p : Am.z0U Tryz.prog 60 := ⟨Tryz.f60, Tryz.func60, by kernel_rfl, by kernel_rfl⟩
theorem zgO (H : Heap) (x y : Thg) : aEq Tryz.prog H 60 101 (thV x) (thV y) = some (decide (x = y)) := by
 have h1 : Tryz.prog.stoodInHeld 101 = false := by kernel_rfl
 obtain ⟨a, b⟩ := x;obtain ⟨c, d⟩ := y
 have key : aEq Tryz.prog H 60 101 (thV (a, b)) (thV (c, d)) = some ((a == c) && (b == d)) := by
  cases h : (a == c) <;> cases h2 : (b == d) <;> simp [thV, z1A, aEq, z27, z0D, z2y, h, h2, h1, Tryz.underlying101, Tryz.underlying3]
 rw [key];congr 1;rw [Bool.eq_iff_iff];simp
theorem z98 {v : Thg → Value} (H : Heap) (k : Thg) : ∀ (l : List Thg) (i : Nat), k ∉ l → z1i Tryz.prog H 101 (thV k) (l.map fun t => (thV t, v t)) i = some none := by
 intro l
 induction l with
 | nil => intro i _; rfl
 | cons t l ih =>
  intro i h;simp only [List.mem_cons, not_or] at h;simp only [List.map_cons, z1i, zgO, decide_eq_false h.1];exact ih (i + 1) h.2
theorem zdY {v : Thg → Value} (H : Heap) (k : Thg) : ∀ (l : List Thg) (i : Nat), k ∈ l → ∃ j, z1i Tryz.prog H 101 (thV k) (l.map fun t => (thV t, v t)) i = some (some (i + j, v k)) ∧ l[j]? = some k := by
 intro l
 induction l with
 | nil => intro i h; cases h
 | cons t l ih =>
  intro i h;by_cases e : k = t
  ·subst e;exact ⟨0, by simp only [List.map_cons, z1i, zgO, decide_true]; rfl, rfl⟩
  ·obtain ⟨j, h1, h2⟩ := ih (i + 1) ((List.mem_cons.1 h).resolve_left e);refine ⟨j + 1, ?_, h2⟩;simp only [List.map_cons, z1i, zgO, decide_eq_false e];rw [h1];congr 3;omega
theorem z8I (k : Thg) (H : Heap) : z1l Tryz.prog 60 101 (thV k) = true ∧ z8E H (thV k) = true ∧ z2q (thV k) = true := ⟨by kernel_rfl, by kernel_rfl, by kernel_rfl⟩
def FoundAt (H : Heap) (v : Value) (F : List Thg) : Prop := ∃ m bs clk, v = .map (some m) ∧ H m = some (.map (F.map fun t => (thV t, .agg #[])) bs clk)
theorem FoundAt.ext {nx nx' : Nat} {H H' : Heap} {v : Value} {F : List Thg} (h : FoundAt H v F) (hx : Ext nx H nx' H') (hok : ∀ id o, H id = some o → id < nx) : FoundAt H' v F := by
 obtain ⟨m, bs, clk, h1, h2⟩ := h;exact ⟨m, bs, clk, h1, by rw [hx.2 m (hok _ _ h2)]; exact h2⟩
theorem FoundAt.told {H : Heap} {v : Value} {F : List Thg} (h : FoundAt H v F) (k : Thg) : z1Y Tryz.prog H 53 v (thV k) true = some (.tuple #[.agg #[], .bool (decide (k ∈ F))]) := by
 obtain ⟨m, bs, clk, rfl, hm⟩ := h;have hmo : z4N H (.map (some m)) = some (F.map fun t => (thV t, .agg #[])) := by simp only [z4N, hm]
 obtain ⟨c1, _, _⟩ := z8I k H;unfold z1Y;simp only [Tryz.underlying53, hmo, show z6U Tryz.prog 103 = some (.agg #[]) from rfl, c1, show (Tryz.prog.underlying 101).isSome = true from rfl, and_self, if_true];by_cases hk : k ∈ F
 ·obtain ⟨j, h1, _⟩ := zdY (v := fun _ => .agg #[]) H k F 0 hk;simp only [h1, hk, decide_true]
 ·simp only [z98 (v := fun _ => .agg #[]) H k F 0 hk, hk, decide_false]
theorem FoundAt.put {H : Heap} {m : Nat} {bs : List Nat} {clk : Nat} {F : List Thg} {k : Thg} (hm : H m = some (.map (F.map fun t => (thV t, .agg #[])) bs clk)) (hk : k ∉ F) :
  zM Tryz.prog H 53 (.map (some m)) (thV k) (.agg #[]) = some (.upd m (.map ((F ++ [k]).map fun t => (thV t, .agg #[])) (bs ++ [clk]) (clk + 1))) := by
 obtain ⟨c1, c2, _⟩ := z8I k H;unfold zM;simp only [Tryz.underlying53, hm, c1, c2, show (Tryz.prog.underlying 101).isSome = true from rfl, and_self, if_true, z98 (v := fun _ => .agg #[]) H k F 0 hk, List.map_append, List.map_cons, List.map_nil]
theorem zfD (W0 : World) {nx : Nat} {H : Heap} (m : R4) :
  ACalls Tryz.prog W0 78 [.agg (Go.Am.e4 m).toArray] nx H fun v nx' H' => v = .agg (z5z (z01 m)).toArray ∧ Ext nx H nx' H' := by
 refine zl (fn := Tryz.f78) (c := _) Tryz.func78 rfl (fun tm n hn0 htm => ?_);have q0 : tm 0 = .agg (Go.Am.e4 m).toArray := htm 0;clear htm;replace hn0 : n = 10 := hn0;refine z5L ?_;refine OpsL.new zsd (z0f evr) ?_;refine OpsL.new zsd (zB (l := rep 4 [.int .i64 0]) krf) ?_;obtain ⟨G, hG⟩ : ∃ G, G = (H.put nx (.cells (Value.agg (Go.Am.e4 m).toArray).cells.toList 0 none false (some 106))).put (nx + 1) (.cells (rep 4 [.int .i64 0]) 0 none false (some 108)) := ⟨_, rfl⟩;have hx0 : Ext nx H (nx + 1 + 1) G := by rw [hG]; exact zh.trans zh
 have gx : G nx = some (.cells (Go.Am.e4 m) 0 none false (some 106)) := by rw [hG, za zom, zb]; rfl
 have gy : G (nx + 1) = some (.cells (rep 4 [.int .i64 0]) 0 none false (some 108)) := by rw [hG, zb]
 have c1 : zj G ⟨nx, 0, none⟩ (.int .i64 m.1) := by exact ze gx rfl
 have c2 : zj G ⟨nx, 0 + 1, none⟩ (.int .i64 m.2.1) := by rw [Nat.zero_add]; exact ze gx rfl
 rw [← hG];clear hG q0;refine zfY ?_;refine zd (zE (v := thV (0, m.1)) (l := [(0, .int .i64 0), (1, .int .i64 m.1)]) zep krf) ?_
 repeat (refine zd (by first | exact ofa | exact old) ?_)
 refine zd (zE (v := thV (1, m.2.1)) (l := [(0, .int .i64 1), (1, .int .i64 m.2.1)]) zep krf) ?_;refine zd (zE (v := .agg (z5z (z01 m)).toArray) (l := [(0, thV (0, m.1)), (1, thV (1, m.2.1))]) zeq krf) ?_;refine OpsL.upd (zw (k := 4) evr evr zxr rfl (o := .cells (z5z (z01 m)) 0 none false (some 108)) (zC (vs := z5z (z01 m)) gy rfl rfl)) ?_;refine zeo ?_;have hrd : z2a Tryz.prog (G.put (nx + 1) (.cells (z5z (z01 m)) 0 none false (some 108))) 108 ⟨nx + 1, 0, none⟩ = some (.agg (z5z (z01 m)).toArray) := z1a (k := 4) zxr zxr zxr (zG zb rfl);exact ⟨.inr rfl, _, z26 (a := ⟨nx + 1, 0, none⟩) stp hrd, rfl, hx0.1, fun i hi => by show Heap.put G _ _ i = _; rw [za zom]; exact hx0.2 i hi⟩
theorem zhN (W0 : World) {nx : Nat} {H : Heap} (m : R4) :
  ACalls Tryz.prog W0 61 [.agg (Go.Am.e4 m).toArray] nx H fun v nx' H' => v = .agg (z5z (z0m m)).toArray ∧ Ext nx H nx' H' := by
 refine zl (fn := Tryz.f61) (c := _) Tryz.func61 rfl (fun tm n hn0 htm => ?_);have q0 : tm 0 = .agg (Go.Am.e4 m).toArray := htm 0;clear htm;replace hn0 : n = 10 := hn0;refine z5L ?_;refine OpsL.new zsd (z0f evr) ?_;refine OpsL.new zsd (zB (l := rep 4 [.int .i64 0]) krf) ?_;obtain ⟨G, hG⟩ : ∃ G, G = (H.put nx (.cells (Value.agg (Go.Am.e4 m).toArray).cells.toList 0 none false (some 106))).put (nx + 1) (.cells (rep 4 [.int .i64 0]) 0 none false (some 108)) := ⟨_, rfl⟩;have hx0 : Ext nx H (nx + 1 + 1) G := by rw [hG]; exact zh.trans zh
 have gx : G nx = some (.cells (Go.Am.e4 m) 0 none false (some 106)) := by rw [hG, za zom, zb]; rfl
 have gy : G (nx + 1) = some (.cells (rep 4 [.int .i64 0]) 0 none false (some 108)) := by rw [hG, zb]
 have c1 : zj G ⟨nx, 0 + 2, none⟩ (.int .i64 m.2.2.1) := by rw [Nat.zero_add]; exact ze gx rfl
 have c2 : zj G ⟨nx, 0 + 3, none⟩ (.int .i64 m.2.2.2) := by rw [Nat.zero_add]; exact ze gx rfl
 rw [← hG];clear hG q0;refine zfY ?_;refine zd (zE (v := thV (0, m.2.2.1)) (l := [(0, .int .i64 0), (1, .int .i64 m.2.2.1)]) zep krf) ?_
 repeat (refine zd (by first | exact ofa | exact old) ?_)
 refine zd (zE (v := thV (1, m.2.2.2)) (l := [(0, .int .i64 1), (1, .int .i64 m.2.2.2)]) zep krf) ?_;refine zd (zE (v := .agg (z5z (z0m m)).toArray) (l := [(0, thV (0, m.2.2.1)), (1, thV (1, m.2.2.2))]) zeq krf) ?_;refine OpsL.upd (zw (k := 4) evr evr zxr rfl (o := .cells (z5z (z0m m)) 0 none false (some 108)) (zC (vs := z5z (z0m m)) gy rfl rfl)) ?_;refine zeo ?_;have hrd : z2a Tryz.prog (G.put (nx + 1) (.cells (z5z (z0m m)) 0 none false (some 108))) 108 ⟨nx + 1, 0, none⟩ = some (.agg (z5z (z0m m)).toArray) := z1a (k := 4) zxr zxr zxr (zG zb rfl);exact ⟨.inr rfl, _, z26 (a := ⟨nx + 1, 0, none⟩) stp hrd, rfl, hx0.1, fun i hi => by show Heap.put G _ _ i = _; rw [za zom]; exact hx0.2 i hi⟩
theorem zbf (p : List Thg) (hp : p.length = 2) {i : Nat} (hi : i < 2) : z0D Tryz.prog 101 (z5z p) (i * 2) = some (thV (p[i]'zom)) := by
 have hfl := z0i z1P p;unfold z0D z5z;rw [Tryz.underlying101];simp only [z2y, if_true, show z1F Tryz.prog 101 = some 2 from rfl];rw [if_pos (by rw [hfl]; omega), z5k z1P p i zom];rfl
theorem zgH (W0 : World) {nx : Nat} {H : Heap} {fv : Value} {F : List Thg} (m : R4) (hF : FoundAt H fv F) :
  ACalls Tryz.prog W0 60 [fv, .agg (Go.Am.e4 m).toArray] nx H fun v nx' H' => v = .bool (decide (∀ t ∈ z01 m, t ∈ F)) ∧ Ext nx H nx' H' := by
 refine zl (fn := Tryz.f60) (c := _) Tryz.func60 rfl (fun tm n hn0 htm => ?_);have q0 : tm 0 = fv := htm 0;have q1 : tm 1 = .agg (Go.Am.e4 m).toArray := htm 1;clear htm;replace hn0 : n = 23 := hn0;refine Trip.ok fun hok => ?_;replace hok : ∀ id o, H id = some o → id < nx := hok;refine zcR ?_;refine OpsL.new zsd (z0f evr) ?_;have hx0 : Ext nx H (nx + 1) (H.put nx (.cells (Value.agg (Go.Am.e4 m).toArray).cells.toList 0 none false (some 106))) := zh;have gx : (H.put nx (.cells (Value.agg (Go.Am.e4 m).toArray).cells.toList 0 none false (some 106))) nx = some (.cells (Go.Am.e4 m) 0 none false (some 106)) := zb;have hok1 := zF (o := .cells (Value.agg (Go.Am.e4 m).toArray).cells.toList 0 none false (some 106)) hok;generalize H.put nx (.cells (Value.agg (Go.Am.e4 m).toArray).cells.toList 0 none false (some 106)) = G at *;refine z8v ?_;refine zd (zg (k := 4) (vs := Go.Am.e4 m) evd zxr rfl zxr (zG gx rfl)) ?_;refine z0c (hf := z6z) (hc := (zfD W0 m)) (h := ?_);rintro v1 n1 H1 ⟨rfl, x1⟩;have hx1 := hx0.trans x1
 repeat (first | refine zd (by exact omv) ?_ | refine Trip.block ?_ | (refine OpsL.nil ?_; (change Trip _ _ _ _ _)))
 have hlen : (z01 m).length = 2 := rfl;refine zD (fun (i : Nat) st => ∃ (tm' : Nat → Value) (nx' : Nat) (H' : Heap), st = ⟨tm', n, H', nx'⟩ ∧ Ext nx H nx' H' ∧ tm' 0 = fv ∧ tm' 10 = .agg (z5z (z01 m)).toArray ∧ tm' 11 = .int .i64 i ∧ i ≤ 2 ∧ ∀ (j : Nat) (h : j < (z01 m).length), j < i → (z01 m)[j] ∈ F) (fun i => 2 - i) 0 ?_ ?_
 ·exact ⟨_, _, _, rfl, hx1, stp, stp, stp, zom, fun j _ h => by omega⟩
 ·clear q0 q1;rintro i st ⟨tm, nx', H', rfl, hx, q0, q10, q11, hi, hs⟩;by_cases hlt : i < 2
  ·have hp := zbf (z01 m) hlen hlt;generalize ht : (z01 m)[i]'zom = t at *;refine zgX ?_;refine zfX ?_;refine zd (z7w (len := 2) (e := 101) (sz := 2) (v := thV t) evr evr zxr zxr zom zom (by show z0D _ _ (z5z (z01 m)) ((i : Int).toNat * 2) = _; rw [Int.toNat_natCast]; exact hp)) ?_;refine OpsL.new zsd (zB (l := rep 2 [.int .i64 0]) krf) ?_;refine OpsL.upd (zw (k := 2) (u := thV t) evd evd zxr rfl (o := .cells (z1A t) 0 none false (some 101)) (zC (vs := z1A t) zb rfl rfl)) ?_;obtain ⟨G4, hG4⟩ : ∃ G4, G4 = (H'.put nx' (.cells (rep 2 [.int .i64 0]) 0 none false (some 101))).put nx' (.cells (z1A t) 0 none false (some 101)) := ⟨_, rfl⟩;have hx4 : Ext nx' H' (nx' + 1) G4 := ⟨Nat.le_succ _, fun j hj => by rw [hG4, za zom, za zom]⟩;have hb4 : G4 nx' = some (.cells (z1A t) 0 none false (some 101)) := by rw [hG4, zb]
   first | rw [← hG4] | skip
   clear hG4;have hF4 := (hF.ext (hx.trans hx4) hok).told t;refine z7A ?_;refine zd (zg (k := 2) (vs := z1A t) evd zxr rfl zxr (zG hb4 rfl)) ?_;refine zd (z0j evd evr hF4) ?_;refine zfZ ?_;refine OpsL.new zsd (zB (l := []) krf) ?_;refine OpsL.upd (zw (k := 0) (u := .agg #[]) evd evr zxr rfl (o := .cells [] 0 none false (some 103)) (zC (vs := []) zb rfl rfl)) ?_;obtain ⟨G5, hG5⟩ : ∃ G5, G5 = (G4.put (nx' + 1) (.cells [] 0 none false (some 103))).put (nx' + 1) (.cells [] 0 none false (some 103)) := ⟨_, rfl⟩;have hx5 : Ext (nx' + 1) G4 (nx' + 1 + 1) G5 := ⟨Nat.le_succ _, fun j hj => by rw [hG5, za zom, za zom]⟩
   first | rw [← hG5] | skip
   clear hG5 hF4 hb4;have hx9 := (hx.trans hx4).trans hx5;by_cases htF : t ∈ F
   ·simp only [htF, decide_true]
    repeat (first | (refine zd (by first | exact omv | exact z0E | exact z8y) ?_) | refine Trip.seq ?_ | refine zm ?_ | (refine OpsL.nil ?_; (change Trip _ _ _ _ _)))
    refine zcN ?_;refine ⟨i + 1, ⟨_, _, _, rfl, hx9, stp, stp, stp, zom, fun j hj hji => ?_⟩, zom⟩;by_cases e : j = i
    ·subst e; rw [ht]; exact htF
    ·exact hs j hj zom
   ·simp only [htF, decide_false]
    repeat (first | (refine zd (by first | exact omv | exact z0E | exact z8y) ?_) | refine Trip.seq ?_ | refine zm ?_ | (refine OpsL.nil ?_; (change Trip _ _ _ _ _)))
    refine zcV ?_;refine ⟨.inr rfl, _, zx, ?_, hx9⟩;have : ¬ ∀ t ∈ z01 m, t ∈ F := fun h => htF (by rw [← ht]; exact h _ (List.getElem_mem _));rw [decide_eq_false this];simp [zk]
  ·have hi2 : i = 2 := by omega
   subst hi2;refine zaV ?_;refine zig ?_;refine ⟨.inr rfl, _, zx, ?_, hx⟩
   have : ∀ t ∈ z01 m, t ∈ F := fun t ht => by
    obtain ⟨j, hj, rfl⟩ := List.getElem_of_mem ht;exact hs j hj zom
   rw [decide_eq_true this];simp [zk]
end Go.Proofs.YteplpegfcpmflaaGreat
