import Derived.Test.YtjgbcpagfghfnaaChecked
import Derived.Test.YtjgbcpagfghfnaaQYM15
import Derived.Test.YtjgbcpagfghfnaaQYM16
set_option linter.unusedVariables false
set_option linter.unusedSimpArgs false
set_option linter.unnecessarySimpa false
namespace Go.Am
open Go.RowKit
theorem z0c {H : Heap} {b e k : Nat} {cs : List Value} {tg : Option Nat} {ro : Bool} {q : Option TypeId} {v : Value} (hH : H b = some (.cells cs e tg ro q)) (h : cs[k]? = some v) : zf H ⟨b, k, tg⟩ v := by
 obtain ⟨hk, rfl⟩ := List.getElem?_eq_some_iff.1 h;exact z7L hH hk
theorem z0d {H : Heap} {b e : Nat} {cs : List Value} {tg : Option Nat} {ro : Bool} {q : Option TypeId} {m : Nat} (hH : H b = some (.cells cs e tg ro q)) (h : cs.length = m) : z1f H ⟨b, 0, tg⟩ m = some cs := by
 unfold z1f;simp only [hH];rw [if_pos ⟨trivial, by omega⟩];simp [← h]
theorem zI {nx nx' : Nat} {H H' : Heap} {a : Addr} {v : Value} (h : Ext nx H nx' H') (hok : ∀ id o, H id = some o → id < nx) (hc : zf H a v) : zf H' a v := z2v h hok hc
def ListAt {α : Type} (R : Heap → Value → α → Prop) (H : Heap) (v : Value) (l : List α) : Prop :=
 (∃ c, v = .slice none 0 c ∧ l = []) ∨ ∃ a c, v = .slice (some a) l.length c ∧ ∀ (i : Nat) (h : i < l.length), ∃ u, zf H ⟨a.block, a.off + i, a.spot⟩ u ∧ R H u l[i]
section
variable {α : Type} {R : Heap → Value → α → Prop} {H H' : Heap} {nx nx' : Nat} {v : Value} {l : List α}
theorem ListAt.slice (h : ListAt R H v l) : ∃ a c, v = .slice a l.length c := by
 rcases h with ⟨c, rfl, rfl⟩ | ⟨a, c, rfl, _⟩
 ·exact ⟨none, c, rfl⟩
 ·exact ⟨some a, c, rfl⟩
theorem ListAt.atI {a : Option Addr} {c n : Nat} (h : ListAt R H (.slice a n c) l) (d : α) {j : Int} (h0 : 0 ≤ j) (h1 : j < l.length) : ∃ p u, a = some p ∧ zf H ⟨p.block, p.off + j.toNat * 1, p.spot⟩ u ∧ R H u (l.getD j.toNat d) := by
 have hj : j.toNat < l.length := by omega
 rcases h with ⟨c', h, rfl⟩ | ⟨p, c', h, hv⟩
 ·simp at hj
 ·cases h;obtain ⟨u, h2, h3⟩ := hv j.toNat hj;exact ⟨p, u, rfl, by simpa using h2, by rw [List.getD_eq_getElem?_getD, List.getElem?_eq_getElem hj]; exact h3⟩
theorem ListAt.ext (hR : ∀ u x, R H u x → R H' u x) (h : Ext nx H nx' H') (hok : ∀ id o, H id = some o → id < nx) (hl : ListAt R H v l) : ListAt R H' v l := by
 rcases hl with h1 | ⟨a, c, h1, hs⟩
 ·exact .inl h1
 ·refine .inr ⟨a, c, h1, fun i hi => ?_⟩;obtain ⟨u, h2, h3⟩ := hs i hi;exact ⟨u, zI h hok h2, hR _ _ h3⟩
end
theorem IntsAt.atI {H : Heap} {a : Option Addr} {c n : Nat} {l : List Int} (h : IntsAt H (.slice a n c) l) {j : Int} (h0 : 0 ≤ j) (h1 : j < l.length) : ∃ p, a = some p ∧ zf H ⟨p.block, p.off + j.toNat * 1, p.spot⟩ (.int .i64 (l.getD j.toNat 0)) := by
 have hj : j.toNat < l.length := by omega
 obtain ⟨p, rfl, h2⟩ := h.get hj;exact ⟨p, rfl, by rw [List.getD_eq_getElem?_getD, List.getElem?_eq_getElem hj]; simpa using h2⟩
def BoolsAt (H : Heap) (v : Value) (l : List Bool) : Prop := ListAt (fun _ u b => u = .bool b) H v l
def L2At (H : Heap) (v : Value) (l : List (List Int)) : Prop := ListAt IntsAt H v l
def L3At (H : Heap) (v : Value) (l : List (List (List Int))) : Prop := ListAt L2At H v l
section
variable {H H' : Heap} {nx nx' : Nat} {v : Value}
theorem BoolsAt.ext {l : List Bool} (h : Ext nx H nx' H') (hok : ∀ id o, H id = some o → id < nx) (hl : BoolsAt H v l) : BoolsAt H' v l := ListAt.ext (fun _ _ h => h) h hok hl
theorem L2At.ext {l : List (List Int)} (h : Ext nx H nx' H') (hok : ∀ id o, H id = some o → id < nx) (hl : L2At H v l) : L2At H' v l := ListAt.ext (fun _ _ q => q.ext h hok) h hok hl
theorem L3At.ext {l : List (List (List Int))} (h : Ext nx H nx' H') (hok : ∀ id o, H id = some o → id < nx) (hl : L3At H v l) : L3At H' v l := ListAt.ext (fun _ _ q => L2At.ext h hok q) h hok hl
theorem BoolsAt.slice {l : List Bool} (h : BoolsAt H v l) : ∃ a c, v = .slice a l.length c := ListAt.slice h
theorem L2At.slice {l : List (List Int)} (h : L2At H v l) : ∃ a c, v = .slice a l.length c := ListAt.slice h
theorem L3At.slice {l : List (List (List Int))} (h : L3At H v l) : ∃ a c, v = .slice a l.length c := ListAt.slice h
theorem BoolsAt.atI {l : List Bool} {a : Option Addr} {c n : Nat} (h : BoolsAt H (.slice a n c) l) {j : Int} (h0 : 0 ≤ j) (h1 : j < l.length) : ∃ p, a = some p ∧ zf H ⟨p.block, p.off + j.toNat * 1, p.spot⟩ (.bool (l.getD j.toNat false)) := by
 obtain ⟨p, u, h2, h3, rfl⟩ := ListAt.atI h false h0 h1;exact ⟨p, h2, h3⟩
theorem L2At.atI {l : List (List Int)} {a : Option Addr} {c n : Nat} (h : L2At H (.slice a n c) l) {j : Int} (h0 : 0 ≤ j) (h1 : j < l.length) : ∃ p b k, a = some p ∧ zf H ⟨p.block, p.off + j.toNat * 1, p.spot⟩ (.slice b (l.getD j.toNat []).length k) ∧ IntsAt H (.slice b (l.getD j.toNat []).length k) (l.getD j.toNat []) := by
 obtain ⟨p, u, h2, h3, h4⟩ := ListAt.atI h [] h0 h1;obtain ⟨b, k, rfl⟩ := h4.slice;exact ⟨p, b, k, h2, h3, h4⟩
theorem L3At.atI {l : List (List (List Int))} {a : Option Addr} {c n : Nat} (h : L3At H (.slice a n c) l) {j : Int} (h0 : 0 ≤ j) (h1 : j < l.length) : ∃ p b k, a = some p ∧ zf H ⟨p.block, p.off + j.toNat * 1, p.spot⟩ (.slice b (l.getD j.toNat []).length k) ∧ L2At H (.slice b (l.getD j.toNat []).length k) (l.getD j.toNat []) := by
 obtain ⟨p, u, h2, h3, h4⟩ := ListAt.atI h [] h0 h1;obtain ⟨b, k, rfl⟩ := L2At.slice h4;exact ⟨p, b, k, h2, h3, h4⟩
end
structure Mo where
 plains : Int
 closings : Int
 of : List Int
 entry : List Int
 final : List Bool
 inn : List (List Int)
 low : List (List Int)
 ret : List (List (List Int))
structure MoV where
 o : Value
 e : Value
 f : Value
 i : Value
 l : Value
 r : Value
def moV (m : Mo) (V : MoV) : List Value := [.int .i64 m.plains, .int .i64 m.closings, V.o, V.e, V.f, V.i, V.l, V.r]
structure MoIn (H : Heap) (m : Mo) (V : MoV) : Prop where
 of : IntsAt H V.o m.of
 entry : IntsAt H V.e m.entry
 final : BoolsAt H V.f m.final
 inn : L2At H V.i m.inn
 low : L2At H V.l m.low
 ret : L3At H V.r m.ret
theorem MoIn.ext {nx nx' : Nat} {H H' : Heap} {m : Mo} {V : MoV} (h : Ext nx H nx' H') (hok : ∀ id o, H id = some o → id < nx) (hm : MoIn H m V) : MoIn H' m V :=
 ⟨hm.of.ext h hok, hm.entry.ext h hok, hm.final.ext h hok, hm.inn.ext h hok, hm.low.ext h hok, hm.ret.ext h hok⟩
structure MoLen (m : Mo) : Prop where
 of : m.of.length ≤ 100000
 entry : m.entry.length ≤ 100000
 final : m.final.length ≤ 100000
 inn : m.inn.length ≤ 100000
 low : m.low.length ≤ 100000
 ret : m.ret.length ≤ 100000
 inn1 : ∀ i, (m.inn.getD i []).length ≤ 100000
 low1 : ∀ i, (m.low.getD i []).length ≤ 100000
 ret1 : ∀ i, (m.ret.getD i []).length ≤ 100000
 ret2 : ∀ i j, ((m.ret.getD i []).getD j []).length ≤ 100000
def z4H (n : Nat) (p : Nat → Bool) : Bool := (List.range n).all p
theorem z1e {p : Nat → Bool} : z4H 0 p = true := rfl
theorem zd8 {n : Nat} {p : Nat → Bool} : z4H (n + 1) p = (z4H n p && p n) := by
 unfold z4H;rw [List.range_succ, List.all_append];simp
theorem z1N {n : Nat} {p : Nat → Bool} (h : z4H n p = true) (hn : p n = true) : z4H (n + 1) p = true := by rw [zd8, h, hn]; rfl
theorem z1D {n i : Nat} {p : Nat → Bool} (h : i < n) (hi : p i = false) : z4H n p = false := by
 rw [← Bool.not_eq_true];intro hh;have := List.all_eq_true.1 hh i (List.mem_range.2 h);rw [hi] at this;cases this
theorem z0J {n : Nat} {p : Nat → Bool} : z4H n p = true ↔ ∀ i, i < n → p i = true := by
 unfold z4H;rw [List.all_eq_true];exact ⟨fun h i hi => h i (List.mem_range.2 hi), fun h i hi => h i (List.mem_range.1 hi)⟩
def inF (m : Mo) (p k : Int) : Bool := decide ((0 ≤ p ∧ p ≤ (m.of.length : Int) - 1) ∧ m.of.getD p.toNat 0 = k)
def zc1 (m : Mo) (l : List Int) (k : Int) : Bool := z4H l.length fun i => inF m (l.getD i 0) k
def z4Y (m : Mo) : Bool := decide ((0 ≤ m.plains ∧ m.plains ≤ 20) ∧ (0 ≤ m.closings ∧ m.closings ≤ 20) ∧ (1 ≤ (m.of.length : Int) ∧ (m.of.length : Int) ≤ 60) ∧ (1 ≤ (m.entry.length : Int) ∧ (m.entry.length : Int) ≤ 21) ∧ (m.final.length : Int) = m.of.length ∧ (m.inn.length : Int) = m.of.length ∧ (m.low.length : Int) = m.of.length ∧ (m.ret.length : Int) = m.of.length)
def z1C (m : Mo) : Bool := z4H m.of.length (fun i => decide (0 ≤ m.of.getD i 0 ∧ m.of.getD i 0 ≤ (m.entry.length : Int) - 1)) && z4H m.entry.length (fun i => inF m (m.entry.getD i 0) i)
def zbZ (m : Mo) (p : Nat) : Bool := decide (((m.inn.getD p []).length : Int) = m.plains) && zc1 m (m.inn.getD p []) (m.of.getD p 0)
def zbk (m : Mo) (p : Nat) : Bool := if m.of.getD p 0 = 0 then decide (((m.low.getD p []).length : Int) = m.closings) && zc1 m (m.low.getD p []) 0 else decide (((m.low.getD p []).length : Int) = 0)
def z9S (m : Mo) (l : List Int) : Bool := decide ((l.length : Int) = m.of.length) && z4H l.length fun q => inF m (l.getD q 0) (m.of.getD q 0)
def zbj (m : Mo) (p : Nat) : Bool := if m.of.getD p 0 = 0 then decide (((m.ret.getD p []).length : Int) = 0) else decide (((m.ret.getD p []).length : Int) = m.closings) && z4H (m.ret.getD p []).length fun j => z9S m ((m.ret.getD p []).getD j [])
def z29 (m : Mo) (p : Nat) : Bool := zbZ m p && zbk m p && zbj m p
def z65 (m : Mo) : Bool := z4Y m && z1C m && z4H m.of.length (z29 m)
end Go.Am
namespace Go.Proofs.Ytjgbcpagfghfnaa
open Go.Am Go.RowKit
theorem zU : Try.prog.follows .mixedOrders = true := by kernel_rfl
structure MoBox (G : Heap) (b : Nat) (m : Mo) (V : MoV) : Prop where
 all : z1f G ⟨b, 0, none⟩ 8 = some (moV m V)
 c0 : zf G ⟨b, 0, none⟩ (.int .i64 m.plains)
 c1 : zf G ⟨b, 1, none⟩ (.int .i64 m.closings)
 c2 : zf G ⟨b, 2, none⟩ V.o
 c3 : zf G ⟨b, 3, none⟩ V.e
 c4 : zf G ⟨b, 4, none⟩ V.f
 c5 : zf G ⟨b, 5, none⟩ V.i
 c6 : zf G ⟨b, 6, none⟩ V.l
 c7 : zf G ⟨b, 7, none⟩ V.r
theorem MoBox.of {G : Heap} {b e : Nat} {m : Mo} {V : MoV} {ro : Bool} {q : Option TypeId} (h : G b = some (.cells (moV m V) e none ro q)) : MoBox G b m V :=
 ⟨z0d h rfl, z0c h rfl, z0c h rfl, z0c h rfl, z0c h rfl, z0c h rfl, z0c h rfl, z0c h rfl, z0c h rfl⟩
theorem MoBox.ext {nx nx' : Nat} {G G' : Heap} {b : Nat} {m : Mo} {V : MoV} (h : Ext nx G nx' G') (hok : ∀ id o, G id = some o → id < nx) (hb : MoBox G b m V) : MoBox G' b m V :=
 ⟨z2v h hok hb.all, zI h hok hb.c0, zI h hok hb.c1, zI h hok hb.c2, zI h hok hb.c3, zI h hok hb.c4, zI h hok hb.c5, zI h hok hb.c6, zI h hok hb.c7⟩
section
attribute [local irreducible] aop OpsL Trip zt z1X z1E OpsR
variable {W0 : World} {H : Heap} {nx n : Nat} {ops : Array Oper} {l : List Oper} {tm : Nat → Value} {QQ : ASt → Prop} {d : Tmp} {type : TypeId} {pos : String} {after : Array Edge}
theorem zY {t : TypeId} {x : Operand} {m : Mo} {V : MoV} (hm : MoIn H m V) (hok : ∀ id o, H id = some o → id < nx)
  (h : ∀ G, Ext nx H (nx + 1) G → (∀ id o, G id = some o → id < nx + 1) → MoBox G nx m V → MoIn G m V → OpsL Try.prog W0 ops l ⟨zb tm (some d) (.pointer (some ⟨nx, 0, none⟩)), n, G, nx + 1⟩ QQ)
  (hx : ASt.ev ⟨tm, n, H, nx⟩ x = some (.agg (moV m V).toArray)) (hd : d < n) :
  OpsL Try.prog W0 ops (⟨some d, .box t x, type, pos, after, none⟩ :: l) ⟨tm, n, H, nx⟩ QQ := by
 refine OpsL.new hd (z5C hx) ?_;exact h _ z0p (zet hok) (MoBox.of (e := 0) (ro := false) (q := some t) (by rw [zu]; rfl)) (hm.ext z0p hok)
theorem zS {x : Operand} {b : Nat} {m : Mo} {V : MoV} (hb : MoBox H b m V)
  (h : OpsL Try.prog W0 ops l ⟨zb tm (some d) (.agg (moV m V).toArray), n, H, nx⟩ QQ)
  (hx : ASt.ev ⟨tm, n, H, nx⟩ x = some (.pointer (some ⟨b, 0, none⟩))) (hd : d < n) :
  OpsL Try.prog W0 ops (⟨some d, .load 29 x, type, pos, after, none⟩ :: l) ⟨tm, n, H, nx⟩ QQ :=
 zw hd (zy (k := 8) hx xrf rfl xrf hb.all) h
end
end Go.Proofs.Ytjgbcpagfghfnaa
