import Derived.ProofKit
import Derived.OpenShut
import Derived.Carry
import Derived.Test.YtjohiaoepbnicaaGreatQRM4
namespace Go.Am
set_option linter.unusedSimpArgs false
set_option linter.unusedVariables false
open Go.RowKit
section
variable {P : Program} {W0 : World} {ev : Operand → Option Value} {H : Heap} {nx n : Nat} {dst : Option Tmp} {type : TypeId} {pos : String} {after : Array Edge} {guard : Option (Nat × Bool)}
theorem aop_build {t : TypeId} {ps : Array (Nat × Operand)} {l : List (Nat × Value)} {v : Value} (hl : evParts ev ps.toList = some l) (hb : aBuild P t l = some v) :
  aop P H nx ev ⟨dst, .build t ps, type, pos, after, guard⟩ = some (v, .none) := by simp [aop, hl, hb]
theorem aop_buildSlice {t : TypeId} {len : Nat} {ps : Array (Nat × Operand)} {l : List (Nat × Value)} {r : Value × Eff} (hl : evParts ev ps.toList = some l) (hb : aBuildSlice P nx t len l = some r) :
  aop P H nx ev ⟨dst, .buildSlice t len ps, type, pos, after, guard⟩ = some r := by simp [aop, hl, hb]
theorem aop_slice {t : TypeId} {x : Operand} {lo hi mx : Option Operand} {v r : Value} {a b c : Option Value} (hx : ev x = some v) (ha : evOpt ev lo = some a) (hb : evOpt ev hi = some b) (hc : evOpt ev mx = some c) (h : aSlice P H t v a b c = some r) :
  aop P H nx ev ⟨dst, .slice t x lo hi mx, type, pos, after, guard⟩ = some (r, .none) := by simp [aop, hx, ha, hb, hc, h]
theorem aop_makeSlice {t : TypeId} {l c : Operand} {a b : Value} {r : Value × Eff} (hl : ev l = some a) (hc : ev c = some b) (h : aMakeSlice P nx t a b = some r) :
  aop P H nx ev ⟨dst, .makeSlice t l c, type, pos, after, guard⟩ = some r := by simp [aop, hl, hc, h]
theorem setc_one {a : Addr} {cs : List Value} {e : Nat} {q : Option TypeId} {v : Value} (hH : H a.block = some (.cells cs e a.spot false q)) (h : a.off < cs.length) (h1 : v.oneCell' = true) : setc H a [v] = some (.cells (cs.set a.off v) e a.spot false q) := by
 unfold setc
 rw [hH]
 simp only [List.length_cons, List.length_nil, List.all_cons, List.all_nil, h1, Bool.and_self, and_true, true_and]
 rw [if_pos (by omega), List.set_eq_take_append_cons_drop, if_pos h]
 simp
theorem cellAt_own {b off : Nat} {t : Option Nat} {cs : List Value} {e : Nat} {ro : Bool} {q : Option TypeId} (hH : H b = some (.cells cs e t ro q)) (h : off < cs.length) : cellAt H ⟨b, off, t⟩ cs[off] := by
 unfold cellAt getc
 simp only [hH]
 rw [if_pos ⟨trivial, by omega⟩, List.take_one, List.head?_drop, List.getElem?_eq_getElem h]
 rfl
variable {ops : Array Oper} {l : List Oper} {tm : Nat → Value} {QQ : ASt → Prop}
theorem OpsL.store1 {t : TypeId} {x y : Operand} {a : Addr} {v : Value} {cs : List Value} {e : Nat} {q : Option TypeId} (hx : ASt.ev ⟨tm, n, H, nx⟩ x = some (.pointer (some a))) (hy : ASt.ev ⟨tm, n, H, nx⟩ y = some v) (hz : szOf P t = some 1) (hv : v.cells = #[v]) (h1 : v.oneCell' = true)
  (hH : H a.block = some (.cells cs e a.spot false q)) (hlt : a.off < cs.length) (h : OpsL P W0 ops l ⟨tm, n, H.put a.block (.cells (cs.set a.off v) e a.spot false q), nx⟩ QQ) :
  OpsL P W0 ops (⟨none, .store t x y, type, pos, after, none⟩ :: l) ⟨tm, n, H, nx⟩ QQ :=
 OpsL.upd (aop_store hx hy hz (by rw [hv]; rfl) (by rw [hv]; exact setc_one hH hlt h1)) h
theorem NumsAt.own {b : Nat} {t : Option Nat} {xs : List Int} {rest : List Value} {e c : Nat} {ro : Bool} {q : Option TypeId} (hH : H b = some (.cells (xs.map (.int .i64 ·) ++ rest) e t ro q)) : IntsAt H (.slice (some ⟨b, 0, t⟩) xs.length c) xs := by
 refine .inr ⟨⟨b, 0, t⟩, c, rfl, fun i hi => ?_⟩
 have := cellAt_own (off := 0 + i) hH (by simp; omega)
 simpa [List.getElem_append_left, hi] using this
theorem OwnInts.at {ob : Option (Nat × Nat)} {el : TypeId} {v : Value} {xs : List Int} (h : OwnInts H ob el v xs) : IntsAt H v xs := by
 cases ob with
 | none =>
  obtain ⟨rfl, h1, _⟩ := h
  exact .inl ⟨0, rfl, by simpa using h1⟩
 | some bt =>
  obtain ⟨b, t⟩ := bt
  obtain ⟨rfl, _, rest, ho⟩ := h
  exact NumsAt.own ho
def Ext (nx : Nat) (H : Heap) (nx' : Nat) (H' : Heap) : Prop := nx ≤ nx' ∧ ∀ i, i < nx → H' i = H i
theorem Ext.refl : Ext nx H nx H := ⟨Nat.le_refl _, fun _ _ => rfl⟩
theorem Ext.trans {nx1 nx2 : Nat} {H1 H2 : Heap} (h : Ext nx H nx1 H1) (k : Ext nx1 H1 nx2 H2) : Ext nx H nx2 H2 := ⟨Nat.le_trans h.1 k.1, fun i hi => by rw [k.2 i (Nat.lt_of_lt_of_le hi h.1), h.2 i hi]⟩
theorem Ext.put {nx1 k : Nat} {H1 : Heap} {o : AObj} (h : Ext nx H nx1 H1) (hk : nx ≤ k) : Ext nx H nx1 (H1.put k o) := ⟨h.1, fun i hi => by rw [Heap.put_ne (by omega), h.2 i hi]⟩
theorem Ext.up {nx1 nx2 : Nat} {H1 : Heap} (h : Ext nx H nx1 H1) (hk : nx1 ≤ nx2) : Ext nx H nx2 H1 := ⟨Nat.le_trans h.1 hk, h.2⟩
theorem getc_ext {nx' : Nat} {H' : Heap} (h : Ext nx H nx' H') {a : Addr} {m : Nat} {vs : List Value} (hok : ∀ id o, H id = some o → id < nx) (hg : getc H a m = some vs) : getc H' a m = some vs := by
 obtain ⟨o, ho⟩ := getc_some hg
 unfold getc at *
 rw [h.2 _ (hok _ _ ho)]
 exact hg
theorem IntsAt.ext {nx' : Nat} {H' : Heap} {v : Value} {xs : List Int} (h : Ext nx H nx' H') (hok : ∀ id o, H id = some o → id < nx) (hi : IntsAt H v xs) : IntsAt H' v xs := by
 rcases hi with hi | ⟨a, c, rfl, hi⟩
 ·exact .inl hi
 ·exact .inr ⟨a, c, rfl, fun i q => getc_ext h hok (hi i q)⟩
theorem OwnRow.put_ne {ob : Option (Nat × Nat)} {el : TypeId} {sz k j : Nat} {v : Value} {cs : List Value} {o : AObj} (h : OwnRow H ob el sz v cs k) (hne : ∀ b t, ob = some (b, t) → b ≠ j) : OwnRow (H.put j o) ob el sz v cs k := by
 cases ob with
 | none => exact h
 | some bt =>
  obtain ⟨b, t⟩ := bt
  obtain ⟨h1, h2, rest, h3⟩ := h
  exact ⟨h1, h2, rest, by rw [Heap.put_ne (hne b t rfl)]; exact h3⟩
theorem OwnRow.ext {nx' : Nat} {H' : Heap} {ob : Option (Nat × Nat)} {el : TypeId} {sz k : Nat} {v : Value} {cs : List Value} (hx : Ext nx H nx' H') (hlt : ∀ b t, ob = some (b, t) → b < nx) (h : OwnRow H ob el sz v cs k) : OwnRow H' ob el sz v cs k := by
 cases ob with
 | none => exact h
 | some bt =>
  obtain ⟨b, t⟩ := bt
  obtain ⟨h1, h2, rest, h3⟩ := h
  exact ⟨h1, h2, rest, by rw [hx.2 _ (hlt b t rfl)]; exact h3⟩
theorem OpsL.appendI {d1 d2 dy : Tmp} {x : Operand} {st el ty1 ty2 : TypeId} {p1 p2 : String} {af1 af2 : Array Edge} {a : Int} {v : Value} {ob : Option (Nat × Nat)} {xs : List Int}
  (hd1 : d1 < n) (hd2 : d2 < n) (hx : ASt.ev ⟨tm, n, H, nx⟩ x = some (.int .i64 a)) (hne : dy ≠ d1) (hy : tm dy = v) (hv : OwnInts H ob el v xs) (hob : ∀ b t, ob = some (b, t) → b < nx)
  (hst : P.underlying st = some (.slice el)) (hsz : szOf P el = some 1) (hby : bytesOfT P el = some 8) (hz : zeroOf P el = some [.int .i64 0]) (hle : xs.length ≤ 1000000000)
  (h : ∀ v' ob' H', OwnInts H' ob' el v' (xs ++ [a]) → (∃ b, ob' = some (b, nx + 1) ∧ (b = nx + 1 ∨ ∃ t, ob = some (b, t))) → (∀ k, k < nx → (∀ b t, ob = some (b, t) → k ≠ b) → H' k = H k) →
   OpsL P W0 ops l ⟨tmPut (tmPut tm (some d1) (.slice (some ⟨nx, 0, none⟩) 1 1)) (some d2) v', n, H', nx + 1 + 1⟩ QQ) :
  OpsL P W0 ops (⟨some d1, .buildSlice st 1 #[(0, x)], ty1, p1, af1, none⟩ :: ⟨some d2, .call ⟨.builtin .append, #[.tmp dy, .tmp d1], #[st, st]⟩, ty2, p2, af2, none⟩ :: l) ⟨tm, n, H, nx⟩ QQ := by
 refine OpsL.new hd1 (aop_buildSlice1 hx hst hsz hz) ?_
 have hblk : ∀ b t, ob = some (b, t) → b ≠ nx := fun b t hb => by have := hob b t hb; omega
 refine OpsL.append (sz := 1) (bytes := 8) (k := xs.length) (m := 1) (cs := xs.map (.int .i64 ·)) (xs := [.int .i64 a]) (ob := ob) (u := .slice (some ⟨nx, 0, none⟩) 1 1) (xd := .slice el) (v := v) hd2 (by simp [ASt.ev, tmPut, hne, hy]) (by simp [ASt.ev, tmPut])
  (OwnRow.put_ne hv hblk) (source_own (by exact Heap.put_eq) rfl (by omega)) rfl (by omega) hst hst rfl hsz hby hz rfl (by omega) (by omega) ?_
 refine h _ (some (blkOf (nx + 1) ob, nx + 1)) _ ⟨by simp, by simp, [], ?_⟩ ⟨_, rfl, ?_⟩ ?_
 ·rw [Heap.put_eq]; simp
 ·cases ob with
  | none => exact .inl rfl
  | some bt => exact .inr ⟨bt.2, rfl⟩
 ·intro k hk hkb
  have h1 : k ≠ blkOf (nx + 1) ob := by
   cases ob with
   | none => simp only [blkOf]; omega
   | some bt => exact hkb bt.1 bt.2 rfl
  rw [Heap.put_ne h1, Heap.put_ne (by omega)]
def Bd (o : Option Value) (dflt k : Nat) : Prop := (o = none ∧ k = dflt) ∨ ∃ kd, o = some (.int kd k)
theorem Bd.bound {o : Option Value} {dflt k : Nat} (h : Bd o dflt k) : bound o dflt = some k := by
 rcases h with ⟨rfl, rfl⟩ | ⟨kd, rfl⟩
 ·rfl
 ·simp [Am.bound]
theorem bounds_of {len cap l h : Nat} {lo hi : Option Value} (hl : Bd lo 0 l) (hh : Bd hi len h) (h1 : l ≤ h) (h2 : h ≤ cap) : bounds len cap lo hi none = some (l, h, cap) := by
 unfold bounds
 rw [hl.bound, hh.bound]
 simp [Am.bound, h1, h2]
theorem aSlice_plain {t el : TypeId} {sz : Nat} {a : Addr} {len cap l h : Nat} {lo hi : Option Value} {o : AObj} (hu : P.underlying t = some (.slice el)) (hs : szOf P el = some sz) (ho : H a.block = some o) (ht : o.tag = none) (ha : a.spot = none)
  (hl : Bd lo 0 l) (hh : Bd hi len h) (h1 : l ≤ h) (h2 : h ≤ cap) : aSlice P H t (.slice (some a) len cap) lo hi none = some (.slice (some (if cap = l then a else ⟨a.block, a.off + l * sz, none⟩)) (h - l) (cap - l)) := by
 unfold aSlice
 simp only [hu, hs, ho, ht, ha, if_true, bounds_of hl hh h1 h2, Option.map_some]
theorem aSlice_tagged {t el : TypeId} {sz : Nat} {a : Addr} {len cap l h tg : Nat} {lo hi : Option Value} {o : AObj} (hu : P.underlying t = some (.slice el)) (hs : szOf P el = some sz) (ho : H a.block = some o) (ht : o.tag = some tg) (ha : a.spot = some tg) (he : o.esz = sz)
  (hl : Bd lo 0 l) (hh : Bd hi len h) (h1 : l ≤ h) (h2 : h ≤ len) : aSlice P H t (.slice (some a) len cap) lo hi none = some (.slice (some ⟨a.block, a.off + l * sz, if l = len ∧ 0 < l then none else some tg⟩) (h - l) (h - l)) := by
 unfold aSlice
 simp only [hu, hs, ho, ht, ha, he, if_true, bounds_of hl hh h1 h2, Option.map_some, Option.isSome_none, Bool.false_eq_true, ne_eq, not_true_eq_false, or_self, if_false]
theorem aSlice_nil {t el : TypeId} {sz : Nat} {lo hi : Option Value} (hu : P.underlying t = some (.slice el)) (hs : szOf P el = some sz)
  (hl : Bd lo 0 0) (hh : Bd hi 0 0) : aSlice P H t (.slice none 0 0) lo hi none = some (.slice none 0 0) := by
 unfold aSlice
 simp only [hu, hs, Option.isSome_some, if_true, bounds_of hl hh (Nat.le_refl _) (Nat.le_refl _), Option.map_some]
theorem aop_leqT {t u : TypeId} {k : IntKind} {x y : Operand} {a b : Int} (hx : ev x = some (.int k a)) (hy : ev y = some (.int k b)) (h : a ≤ b) :
  aop P H nx ev ⟨dst, .binOp .leq t x y u, type, pos, after, guard⟩ = some (.bool true, .none) := by rw [aop_leq hx hy]; simp [h]
theorem cellAt_of_getc {a : Addr} {u v : Value} (h : getc H a 2 = some [u, v]) : cellAt H ⟨a.block, a.off + 1, a.spot⟩ v := by
 unfold cellAt getc at *
 split at h
 ·rename_i c e t r q ho
  simp only [ho]
  split at h
  ·rename_i hc
   rw [if_pos ⟨hc.1, by omega⟩]
   simp only [Option.some.injEq] at h
   have h1 : ((c.drop a.off).take 2)[1]? = some v := by rw [h]; rfl
   rw [List.getElem?_take, if_pos (by omega), List.getElem?_drop] at h1
   rw [List.take_one, List.head?_drop, h1]
   rfl
  ·cases h
 ·cases h
theorem ACalls.ok {f : FuncId} {args : List Value} {R : Value → Nat → Heap → Prop} (h : ACalls P W0 f args nx H R) : ACalls P W0 f args nx H fun v nx' H' => R v nx' H' ∧ ∀ id o, H' id = some o → id < nx' := fun C w args' hR ha => by
 refine (h C w args' hR ha).mono ?_
 rintro e w' ⟨v, v', C', nx', H', h1, h2, hR', h4⟩
 exact ⟨v, v', C', nx', H', h1, ⟨h2, fun id o ho => (hR'.lt id o ho).1⟩, hR', h4⟩
theorem OpsL.storeAt {t : TypeId} {x y : Operand} {a : Addr} {v : Value} {cs cs' : List Value} {e : Nat} {q : Option TypeId} (j : Nat) (hx : ASt.ev ⟨tm, n, H, nx⟩ x = some (.pointer (some a))) (hy : ASt.ev ⟨tm, n, H, nx⟩ y = some v) (hz : szOf P t = some 1) (hv : v.cells = #[v]) (h1 : v.oneCell' = true)
  (hH : H a.block = some (.cells cs e a.spot false q)) (hj : a.off = j) (hlt : j < cs.length) (hcs : cs.set j v = cs') (h : OpsL P W0 ops l ⟨tm, n, H.put a.block (.cells cs' e a.spot false q), nx⟩ QQ) :
  OpsL P W0 ops (⟨none, .store t x y, type, pos, after, none⟩ :: l) ⟨tm, n, H, nx⟩ QQ := by
 subst hj; subst hcs
 exact OpsL.store1 hx hy hz hv h1 hH hlt h
theorem aop_lssT {t u : TypeId} {k : IntKind} {x y : Operand} {a b : Int} (hx : ev x = some (.int k a)) (hy : ev y = some (.int k b)) (h : a < b) :
  aop P H nx ev ⟨dst, .binOp .lss t x y u, type, pos, after, guard⟩ = some (.bool true, .none) := by rw [aop_lss hx hy]; simp only [h, decide_true, decide_false, not_false_eq_true, not_true_eq_false]
theorem aop_lssF {t u : TypeId} {k : IntKind} {x y : Operand} {a b : Int} (hx : ev x = some (.int k a)) (hy : ev y = some (.int k b)) (h : ¬ (a < b)) :
  aop P H nx ev ⟨dst, .binOp .lss t x y u, type, pos, after, guard⟩ = some (.bool false, .none) := by rw [aop_lss hx hy]; simp only [h, decide_true, decide_false, not_false_eq_true, not_true_eq_false]
theorem aop_leqF {t u : TypeId} {k : IntKind} {x y : Operand} {a b : Int} (hx : ev x = some (.int k a)) (hy : ev y = some (.int k b)) (h : ¬ (a ≤ b)) :
  aop P H nx ev ⟨dst, .binOp .leq t x y u, type, pos, after, guard⟩ = some (.bool false, .none) := by rw [aop_leq hx hy]; simp only [h, decide_true, decide_false, not_false_eq_true, not_true_eq_false]
theorem aop_gtrT {t u : TypeId} {k : IntKind} {x y : Operand} {a b : Int} (hx : ev x = some (.int k a)) (hy : ev y = some (.int k b)) (h : b < a) :
  aop P H nx ev ⟨dst, .binOp .gtr t x y u, type, pos, after, guard⟩ = some (.bool true, .none) := by rw [aop_gtr hx hy]; simp only [h, decide_true, decide_false, not_false_eq_true, not_true_eq_false]
theorem aop_gtrF {t u : TypeId} {k : IntKind} {x y : Operand} {a b : Int} (hx : ev x = some (.int k a)) (hy : ev y = some (.int k b)) (h : ¬ (b < a)) :
  aop P H nx ev ⟨dst, .binOp .gtr t x y u, type, pos, after, guard⟩ = some (.bool false, .none) := by rw [aop_gtr hx hy]; simp only [h, decide_true, decide_false, not_false_eq_true, not_true_eq_false]
theorem aop_geqT {t u : TypeId} {k : IntKind} {x y : Operand} {a b : Int} (hx : ev x = some (.int k a)) (hy : ev y = some (.int k b)) (h : b ≤ a) :
  aop P H nx ev ⟨dst, .binOp .geq t x y u, type, pos, after, guard⟩ = some (.bool true, .none) := by rw [aop_geq hx hy]; simp only [h, decide_true, decide_false, not_false_eq_true, not_true_eq_false]
theorem aop_geqF {t u : TypeId} {k : IntKind} {x y : Operand} {a b : Int} (hx : ev x = some (.int k a)) (hy : ev y = some (.int k b)) (h : ¬ (b ≤ a)) :
  aop P H nx ev ⟨dst, .binOp .geq t x y u, type, pos, after, guard⟩ = some (.bool false, .none) := by rw [aop_geq hx hy]; simp only [h, decide_true, decide_false, not_false_eq_true, not_true_eq_false]
theorem aop_eqlF {t u : TypeId} {k : IntKind} {x y : Operand} {a b : Int} (hx : ev x = some (.int k a)) (hy : ev y = some (.int k b)) (h : ¬ (a = b)) :
  aop P H nx ev ⟨dst, .binOp .eql t x y u, type, pos, after, guard⟩ = some (.bool false, .none) := by rw [aop_eql hx hy]; simp only [h, decide_true, decide_false, not_false_eq_true, not_true_eq_false]
theorem aop_neqT {t u : TypeId} {k : IntKind} {x y : Operand} {a b : Int} (hx : ev x = some (.int k a)) (hy : ev y = some (.int k b)) (h : a ≠ b) :
  aop P H nx ev ⟨dst, .binOp .neq t x y u, type, pos, after, guard⟩ = some (.bool true, .none) := by rw [aop_neq hx hy]; simp [h]
theorem aop_neqF {t u : TypeId} {k : IntKind} {x y : Operand} {a b : Int} (hx : ev x = some (.int k a)) (hy : ev y = some (.int k b)) (h : a = b) :
  aop P H nx ev ⟨dst, .binOp .neq t x y u, type, pos, after, guard⟩ = some (.bool false, .none) := by rw [aop_neq hx hy]; simp [h]
def bs (s : ByteArray) : List Int := s.data.toList.map fun b => (b.toNat : Int)
theorem aop_eqlA {t u : TypeId} {x y : Operand} {a b : Array Value} {r : Bool} (hx : ev x = some (.agg a)) (hy : ev y = some (.agg b)) (hg : P.eqGuardType P.depth t = false) (he : aEq P H 60 t (.agg a) (.agg b) = some r) :
  aop P H nx ev ⟨dst, .binOp .eql t x y u, type, pos, after, guard⟩ = some (.bool r, .none) := by simp [aop, hx, hy, aBin, eqOk, hg, he]
theorem aop_neqA {t u : TypeId} {x y : Operand} {a b : Array Value} {r : Bool} (hx : ev x = some (.agg a)) (hy : ev y = some (.agg b)) (hg : P.eqGuardType P.depth t = false) (he : aEq P H 60 t (.agg a) (.agg b) = some r) :
  aop P H nx ev ⟨dst, .binOp .neq t x y u, type, pos, after, guard⟩ = some (.bool !r, .none) := by simp [aop, hx, hy, aBin, eqOk, hg, he]
theorem aop_box {t : TypeId} {x : Operand} {v : Value} (hx : ev x = some v) : aop P H nx ev ⟨dst, .box t x, type, pos, after, guard⟩ = some (.pointer (some ⟨nx, 0, none⟩), .new (.cells v.cells.toList 0 none false (some t))) := by simp [aop, hx]
end
end Go.Am
namespace Go.Am
open Go.RowKit
section
variable {P : Program} {W0 : World} {ops : Array Oper} {dst : Option Tmp} {op : Op} {guard : Option (Nat × Bool)} {ev : Operand → Option Value} {type : TypeId} {pos : String} {after : Array Edge} {l : List Oper} {tm : Nat → Value} {n nx : Nat} {H : Heap} {v w : Value} {QQ : ASt → Prop} {d : Tmp} {t u s e : TypeId} {x y z : Operand} {k k' : IntKind} {a b : Int}
theorem OpsL.q (hop : aop P H nx (ASt.ev ⟨tm, n, H, nx⟩) ⟨some d, op, type, pos, after, none⟩ = some (v, .none)) (h : OpsL P W0 ops l ⟨tmPut tm (some d) v, n, H, nx⟩ QQ) (hd : d < n := by subst_vars; decide) : OpsL P W0 ops (⟨some d, op, type, pos, after, none⟩ :: l) ⟨tm, n, H, nx⟩ QQ := OpsL.p hd hop h
theorem omv (hx : ev x = some v := by simp only [ASt.ev, tmPut, ↓reduceIte, Nat.reduceEqDiff, plain1, *]; first | done | rfl) : aop P H nx ev ⟨dst, .move x, type, pos, after, guard⟩ = some (v, .none) := aop_move hx
theorem oasg (hx : ev x = some v := by simp only [ASt.ev, tmPut, ↓reduceIte, Nat.reduceEqDiff, plain1, *]; first | done | rfl) : aop P H nx ev ⟨dst, .assign x, type, pos, after, guard⟩ = some (v, .none) := aop_assign hx
theorem olss (hx : ev x = some (.int k a) := by simp only [ASt.ev, tmPut, ↓reduceIte, Nat.reduceEqDiff, plain1, *]; first | done | rfl) (hy : ev y = some (.int k b) := by simp only [ASt.ev, tmPut, ↓reduceIte, Nat.reduceEqDiff, plain1, *]; first | done | rfl) : aop P H nx ev ⟨dst, .binOp .lss t x y u, type, pos, after, guard⟩ = some ((.bool (decide (a < b))), .none) := aop_lss hx hy
theorem OpsL.lssT (h : OpsL P W0 ops l ⟨tmPut tm (some d) (.bool true), n, H, nx⟩ QQ) (hd : d < n := by subst_vars; decide) (hx : ASt.ev ⟨tm, n, H, nx⟩ x = some (.int k a) := by simp only [ASt.ev, tmPut, ↓reduceIte, Nat.reduceEqDiff, plain1, *]; first | done | rfl) (hy : ASt.ev ⟨tm, n, H, nx⟩ y = some (.int k b) := by simp only [ASt.ev, tmPut, ↓reduceIte, Nat.reduceEqDiff, plain1, *]; first | done | rfl) (c : a < b := by omega) : OpsL P W0 ops (⟨some d, .binOp .lss t x y u, type, pos, after, none⟩ :: l) ⟨tm, n, H, nx⟩ QQ := OpsL.p hd (aop_lssT hx hy c) h
theorem OpsL.lssF (h : OpsL P W0 ops l ⟨tmPut tm (some d) (.bool false), n, H, nx⟩ QQ) (hd : d < n := by subst_vars; decide) (hx : ASt.ev ⟨tm, n, H, nx⟩ x = some (.int k a) := by simp only [ASt.ev, tmPut, ↓reduceIte, Nat.reduceEqDiff, plain1, *]; first | done | rfl) (hy : ASt.ev ⟨tm, n, H, nx⟩ y = some (.int k b) := by simp only [ASt.ev, tmPut, ↓reduceIte, Nat.reduceEqDiff, plain1, *]; first | done | rfl) (c : ¬ (a < b) := by omega) : OpsL P W0 ops (⟨some d, .binOp .lss t x y u, type, pos, after, none⟩ :: l) ⟨tm, n, H, nx⟩ QQ := OpsL.p hd (aop_lssF hx hy c) h
theorem oleq (hx : ev x = some (.int k a) := by simp only [ASt.ev, tmPut, ↓reduceIte, Nat.reduceEqDiff, plain1, *]; first | done | rfl) (hy : ev y = some (.int k b) := by simp only [ASt.ev, tmPut, ↓reduceIte, Nat.reduceEqDiff, plain1, *]; first | done | rfl) : aop P H nx ev ⟨dst, .binOp .leq t x y u, type, pos, after, guard⟩ = some ((.bool (decide (a ≤ b))), .none) := aop_leq hx hy
theorem OpsL.leqT (h : OpsL P W0 ops l ⟨tmPut tm (some d) (.bool true), n, H, nx⟩ QQ) (hd : d < n := by subst_vars; decide) (hx : ASt.ev ⟨tm, n, H, nx⟩ x = some (.int k a) := by simp only [ASt.ev, tmPut, ↓reduceIte, Nat.reduceEqDiff, plain1, *]; first | done | rfl) (hy : ASt.ev ⟨tm, n, H, nx⟩ y = some (.int k b) := by simp only [ASt.ev, tmPut, ↓reduceIte, Nat.reduceEqDiff, plain1, *]; first | done | rfl) (c : a ≤ b := by omega) : OpsL P W0 ops (⟨some d, .binOp .leq t x y u, type, pos, after, none⟩ :: l) ⟨tm, n, H, nx⟩ QQ := OpsL.p hd (aop_leqT hx hy c) h
theorem OpsL.leqF (h : OpsL P W0 ops l ⟨tmPut tm (some d) (.bool false), n, H, nx⟩ QQ) (hd : d < n := by subst_vars; decide) (hx : ASt.ev ⟨tm, n, H, nx⟩ x = some (.int k a) := by simp only [ASt.ev, tmPut, ↓reduceIte, Nat.reduceEqDiff, plain1, *]; first | done | rfl) (hy : ASt.ev ⟨tm, n, H, nx⟩ y = some (.int k b) := by simp only [ASt.ev, tmPut, ↓reduceIte, Nat.reduceEqDiff, plain1, *]; first | done | rfl) (c : ¬ (a ≤ b) := by omega) : OpsL P W0 ops (⟨some d, .binOp .leq t x y u, type, pos, after, none⟩ :: l) ⟨tm, n, H, nx⟩ QQ := OpsL.p hd (aop_leqF hx hy c) h
theorem ogtr (hx : ev x = some (.int k a) := by simp only [ASt.ev, tmPut, ↓reduceIte, Nat.reduceEqDiff, plain1, *]; first | done | rfl) (hy : ev y = some (.int k b) := by simp only [ASt.ev, tmPut, ↓reduceIte, Nat.reduceEqDiff, plain1, *]; first | done | rfl) : aop P H nx ev ⟨dst, .binOp .gtr t x y u, type, pos, after, guard⟩ = some ((.bool (decide (b < a))), .none) := aop_gtr hx hy
theorem OpsL.gtrT (h : OpsL P W0 ops l ⟨tmPut tm (some d) (.bool true), n, H, nx⟩ QQ) (hd : d < n := by subst_vars; decide) (hx : ASt.ev ⟨tm, n, H, nx⟩ x = some (.int k a) := by simp only [ASt.ev, tmPut, ↓reduceIte, Nat.reduceEqDiff, plain1, *]; first | done | rfl) (hy : ASt.ev ⟨tm, n, H, nx⟩ y = some (.int k b) := by simp only [ASt.ev, tmPut, ↓reduceIte, Nat.reduceEqDiff, plain1, *]; first | done | rfl) (c : b < a := by omega) : OpsL P W0 ops (⟨some d, .binOp .gtr t x y u, type, pos, after, none⟩ :: l) ⟨tm, n, H, nx⟩ QQ := OpsL.p hd (aop_gtrT hx hy c) h
theorem OpsL.gtrF (h : OpsL P W0 ops l ⟨tmPut tm (some d) (.bool false), n, H, nx⟩ QQ) (hd : d < n := by subst_vars; decide) (hx : ASt.ev ⟨tm, n, H, nx⟩ x = some (.int k a) := by simp only [ASt.ev, tmPut, ↓reduceIte, Nat.reduceEqDiff, plain1, *]; first | done | rfl) (hy : ASt.ev ⟨tm, n, H, nx⟩ y = some (.int k b) := by simp only [ASt.ev, tmPut, ↓reduceIte, Nat.reduceEqDiff, plain1, *]; first | done | rfl) (c : ¬ (b < a) := by omega) : OpsL P W0 ops (⟨some d, .binOp .gtr t x y u, type, pos, after, none⟩ :: l) ⟨tm, n, H, nx⟩ QQ := OpsL.p hd (aop_gtrF hx hy c) h
theorem ogeq (hx : ev x = some (.int k a) := by simp only [ASt.ev, tmPut, ↓reduceIte, Nat.reduceEqDiff, plain1, *]; first | done | rfl) (hy : ev y = some (.int k b) := by simp only [ASt.ev, tmPut, ↓reduceIte, Nat.reduceEqDiff, plain1, *]; first | done | rfl) : aop P H nx ev ⟨dst, .binOp .geq t x y u, type, pos, after, guard⟩ = some ((.bool (decide (b ≤ a))), .none) := aop_geq hx hy
theorem OpsL.geqT (h : OpsL P W0 ops l ⟨tmPut tm (some d) (.bool true), n, H, nx⟩ QQ) (hd : d < n := by subst_vars; decide) (hx : ASt.ev ⟨tm, n, H, nx⟩ x = some (.int k a) := by simp only [ASt.ev, tmPut, ↓reduceIte, Nat.reduceEqDiff, plain1, *]; first | done | rfl) (hy : ASt.ev ⟨tm, n, H, nx⟩ y = some (.int k b) := by simp only [ASt.ev, tmPut, ↓reduceIte, Nat.reduceEqDiff, plain1, *]; first | done | rfl) (c : b ≤ a := by omega) : OpsL P W0 ops (⟨some d, .binOp .geq t x y u, type, pos, after, none⟩ :: l) ⟨tm, n, H, nx⟩ QQ := OpsL.p hd (aop_geqT hx hy c) h
theorem OpsL.geqF (h : OpsL P W0 ops l ⟨tmPut tm (some d) (.bool false), n, H, nx⟩ QQ) (hd : d < n := by subst_vars; decide) (hx : ASt.ev ⟨tm, n, H, nx⟩ x = some (.int k a) := by simp only [ASt.ev, tmPut, ↓reduceIte, Nat.reduceEqDiff, plain1, *]; first | done | rfl) (hy : ASt.ev ⟨tm, n, H, nx⟩ y = some (.int k b) := by simp only [ASt.ev, tmPut, ↓reduceIte, Nat.reduceEqDiff, plain1, *]; first | done | rfl) (c : ¬ (b ≤ a) := by omega) : OpsL P W0 ops (⟨some d, .binOp .geq t x y u, type, pos, after, none⟩ :: l) ⟨tm, n, H, nx⟩ QQ := OpsL.p hd (aop_geqF hx hy c) h
theorem oeql (hx : ev x = some (.int k a) := by simp only [ASt.ev, tmPut, ↓reduceIte, Nat.reduceEqDiff, plain1, *]; first | done | rfl) (hy : ev y = some (.int k b) := by simp only [ASt.ev, tmPut, ↓reduceIte, Nat.reduceEqDiff, plain1, *]; first | done | rfl) : aop P H nx ev ⟨dst, .binOp .eql t x y u, type, pos, after, guard⟩ = some ((.bool (decide (a = b))), .none) := aop_eql hx hy
theorem OpsL.eqlT (h : OpsL P W0 ops l ⟨tmPut tm (some d) (.bool true), n, H, nx⟩ QQ) (hd : d < n := by subst_vars; decide) (hx : ASt.ev ⟨tm, n, H, nx⟩ x = some (.int k a) := by simp only [ASt.ev, tmPut, ↓reduceIte, Nat.reduceEqDiff, plain1, *]; first | done | rfl) (hy : ASt.ev ⟨tm, n, H, nx⟩ y = some (.int k b) := by simp only [ASt.ev, tmPut, ↓reduceIte, Nat.reduceEqDiff, plain1, *]; first | done | rfl) (c : a = b := by omega) : OpsL P W0 ops (⟨some d, .binOp .eql t x y u, type, pos, after, none⟩ :: l) ⟨tm, n, H, nx⟩ QQ := OpsL.p hd (aop_eqlT hx hy c) h
theorem OpsL.eqlF (h : OpsL P W0 ops l ⟨tmPut tm (some d) (.bool false), n, H, nx⟩ QQ) (hd : d < n := by subst_vars; decide) (hx : ASt.ev ⟨tm, n, H, nx⟩ x = some (.int k a) := by simp only [ASt.ev, tmPut, ↓reduceIte, Nat.reduceEqDiff, plain1, *]; first | done | rfl) (hy : ASt.ev ⟨tm, n, H, nx⟩ y = some (.int k b) := by simp only [ASt.ev, tmPut, ↓reduceIte, Nat.reduceEqDiff, plain1, *]; first | done | rfl) (c : ¬ (a = b) := by omega) : OpsL P W0 ops (⟨some d, .binOp .eql t x y u, type, pos, after, none⟩ :: l) ⟨tm, n, H, nx⟩ QQ := OpsL.p hd (aop_eqlF hx hy c) h
theorem oneq (hx : ev x = some (.int k a) := by simp only [ASt.ev, tmPut, ↓reduceIte, Nat.reduceEqDiff, plain1, *]; first | done | rfl) (hy : ev y = some (.int k b) := by simp only [ASt.ev, tmPut, ↓reduceIte, Nat.reduceEqDiff, plain1, *]; first | done | rfl) : aop P H nx ev ⟨dst, .binOp .neq t x y u, type, pos, after, guard⟩ = some ((.bool (decide (a ≠ b))), .none) := aop_neq hx hy
theorem OpsL.neqT (h : OpsL P W0 ops l ⟨tmPut tm (some d) (.bool true), n, H, nx⟩ QQ) (hd : d < n := by subst_vars; decide) (hx : ASt.ev ⟨tm, n, H, nx⟩ x = some (.int k a) := by simp only [ASt.ev, tmPut, ↓reduceIte, Nat.reduceEqDiff, plain1, *]; first | done | rfl) (hy : ASt.ev ⟨tm, n, H, nx⟩ y = some (.int k b) := by simp only [ASt.ev, tmPut, ↓reduceIte, Nat.reduceEqDiff, plain1, *]; first | done | rfl) (c : a ≠ b := by omega) : OpsL P W0 ops (⟨some d, .binOp .neq t x y u, type, pos, after, none⟩ :: l) ⟨tm, n, H, nx⟩ QQ := OpsL.p hd (aop_neqT hx hy c) h
theorem OpsL.neqF (h : OpsL P W0 ops l ⟨tmPut tm (some d) (.bool false), n, H, nx⟩ QQ) (hd : d < n := by subst_vars; decide) (hx : ASt.ev ⟨tm, n, H, nx⟩ x = some (.int k a) := by simp only [ASt.ev, tmPut, ↓reduceIte, Nat.reduceEqDiff, plain1, *]; first | done | rfl) (hy : ASt.ev ⟨tm, n, H, nx⟩ y = some (.int k b) := by simp only [ASt.ev, tmPut, ↓reduceIte, Nat.reduceEqDiff, plain1, *]; first | done | rfl) (c : a = b := by omega) : OpsL P W0 ops (⟨some d, .binOp .neq t x y u, type, pos, after, none⟩ :: l) ⟨tm, n, H, nx⟩ QQ := OpsL.p hd (aop_neqF hx hy c) h
theorem onot {q : Bool} (hx : ev x = some (.bool q) := by simp only [ASt.ev, tmPut, ↓reduceIte, Nat.reduceEqDiff, plain1, *]; first | done | rfl) : aop P H nx ev ⟨dst, .unOp .not t x, type, pos, after, guard⟩ = some ((.bool (!q)), .none) := aop_not hx
theorem oadd (hx : ev x = some (.int .i64 a) := by simp only [ASt.ev, tmPut, ↓reduceIte, Nat.reduceEqDiff, plain1, *]; first | done | rfl) (hy : ev y = some (.int .i64 b) := by simp only [ASt.ev, tmPut, ↓reduceIte, Nat.reduceEqDiff, plain1, *]; first | done | rfl) (c : -9223372036854775808 ≤ a + b ∧ a + b ≤ 9223372036854775807 := by omega) : aop P H nx ev ⟨dst, .binOp .add t x y u, type, pos, after, guard⟩ = some ((.int .i64 (a + b)), .none) := aop_add hx hy c
theorem osub (hx : ev x = some (.int .i64 a) := by simp only [ASt.ev, tmPut, ↓reduceIte, Nat.reduceEqDiff, plain1, *]; first | done | rfl) (hy : ev y = some (.int .i64 b) := by simp only [ASt.ev, tmPut, ↓reduceIte, Nat.reduceEqDiff, plain1, *]; first | done | rfl) (c : -9223372036854775808 ≤ a - b ∧ a - b ≤ 9223372036854775807 := by omega) : aop P H nx ev ⟨dst, .binOp .sub t x y u, type, pos, after, guard⟩ = some ((.int .i64 (a - b)), .none) := aop_sub hx hy c
theorem omul (hx : ev x = some (.int .i64 a) := by simp only [ASt.ev, tmPut, ↓reduceIte, Nat.reduceEqDiff, plain1, *]; first | done | rfl) (hy : ev y = some (.int .i64 b) := by simp only [ASt.ev, tmPut, ↓reduceIte, Nat.reduceEqDiff, plain1, *]; first | done | rfl) (c : -9223372036854775808 ≤ a * b ∧ a * b ≤ 9223372036854775807 := by omega) : aop P H nx ev ⟨dst, .binOp .mul t x y u, type, pos, after, guard⟩ = some ((.int .i64 (a * b)), .none) := aop_mul hx hy c
theorem olen {m c : Nat} {p : Option Addr} (hx : ev x = some (.slice p m c) := by simp only [ASt.ev, tmPut, ↓reduceIte, Nat.reduceEqDiff, plain1, *]; first | done | rfl) (hu : P.underlying t = some (.slice e) := by exact rfl) : aop P H nx ev ⟨dst, .call ⟨.builtin .len, #[x], #[t]⟩, type, pos, after, guard⟩ = some ((.int .i64 (m : Int)), .none) := aop_len hx hu
theorem oixa {m c sz : Nat} {p : Addr} (hx : ev x = some (.slice (some p) m c) := by simp only [ASt.ev, tmPut, ↓reduceIte, Nat.reduceEqDiff, plain1, *]; first | done | rfl) (hy : ev y = some (.int k a) := by simp only [ASt.ev, tmPut, ↓reduceIte, Nat.reduceEqDiff, plain1, *]; first | done | rfl) (hu : P.underlying t = some (.slice e) := by exact rfl) (hs : szOf P e = some sz := by exact rfl) (h0 : 0 ≤ a := by omega) (h1 : a < m := by omega) : aop P H nx ev ⟨dst, .indexAddr t x y, type, pos, after, guard⟩ = some ((.pointer (some ⟨p.block, p.off + a.toNat * sz, p.spot⟩)), .none) := aop_indexAddr hx hy hu hs h0 h1
theorem ofa {f : Nat} {p : Addr} (hx : ev x = some (.pointer (some p)) := by simp only [ASt.ev, tmPut, ↓reduceIte, Nat.reduceEqDiff, plain1, *]; first | done | rfl) (hv : aFieldAddr P s (.pointer (some p)) f = some v := by exact rfl) : aop P H nx ev ⟨dst, .fieldAddr s x f, type, pos, after, guard⟩ = some (v, .none) := aop_fieldAddr hx hv
theorem old {p : Addr} {dd : TypeDesc} (hx : ev x = some (.pointer (some p)) := by simp only [ASt.ev, tmPut, ↓reduceIte, Nat.reduceEqDiff, plain1, *]; first | done | rfl) (hu : P.underlying t = some dd := by exact rfl) (hg : isAggD dd = false := by rfl) (hc : cellAt H p v := by assumption) : aop P H nx ev ⟨dst, .load t x, type, pos, after, guard⟩ = some (v, .none) := aop_load hx hu hg hc
theorem opkT (hx : ev x = some (.bool true) := by simp only [ASt.ev, tmPut, ↓reduceIte, reduceIte, Nat.reduceEqDiff, decide_true, decide_false, not_true_eq_false, not_false_eq_true, Bool.not_true, Bool.not_false, *]; first | done | rfl) (hy : ev y = some v := by simp only [ASt.ev, tmPut, ↓reduceIte, Nat.reduceEqDiff, plain1, *]; first | done | rfl) : aop P H nx ev ⟨dst, .pick x y z, type, pos, after, guard⟩ = some (v, .none) := aop_pickT hx hy
theorem opkF (hx : ev x = some (.bool false) := by simp only [ASt.ev, tmPut, ↓reduceIte, reduceIte, Nat.reduceEqDiff, decide_true, decide_false, not_true_eq_false, not_false_eq_true, Bool.not_true, Bool.not_false, *]; first | done | rfl) (hy : ev z = some v := by simp only [ASt.ev, tmPut, ↓reduceIte, Nat.reduceEqDiff, plain1, *]; first | done | rfl) : aop P H nx ev ⟨dst, .pick x y z, type, pos, after, guard⟩ = some (v, .none) := aop_pickF hx hy
theorem OpsL.ung {j : Nat} {want : Bool} {d' : Tmp} (h : OpsL P W0 ops (⟨dst, op, type, pos, after, none⟩ :: l) ⟨tm, n, H, nx⟩ QQ) (hj : (ops[j]?).bind (·.dst) = some d' := by exact rfl) (hb : tm d' = .bool want := by simp only [ASt.ev, tmPut, ↓reduceIte, reduceIte, Nat.reduceEqDiff, decide_true, decide_false, not_true_eq_false, not_false_eq_true, Bool.not_true, Bool.not_false, *]; first | done | rfl) : OpsL P W0 ops (⟨dst, op, type, pos, after, some (j, want)⟩ :: l) ⟨tm, n, H, nx⟩ QQ := OpsL.unguard hj hb h
theorem OpsL.skp {j : Nat} {want : Bool} {d' : Tmp} (h : OpsL P W0 ops l ⟨tmPut tm (some d) undef, n, H, nx⟩ QQ) (hj : (ops[j]?).bind (·.dst) = some d' := by exact rfl) (hb : tm d' = .bool (!want) := by simp only [ASt.ev, tmPut, ↓reduceIte, reduceIte, Nat.reduceEqDiff, decide_true, decide_false, not_true_eq_false, not_false_eq_true, Bool.not_true, Bool.not_false, *]; first | done | rfl) (hd : d < n := by subst_vars; decide) : OpsL P W0 ops (⟨some d, op, type, pos, after, some (j, want)⟩ :: l) ⟨tm, n, H, nx⟩ QQ := OpsL.skipped hj hb hd h
theorem OpsL.gT {j : Nat} {d' : Tmp} {p : Prop} [Decidable p] (h1 : p → OpsL P W0 ops (⟨some d, op, type, pos, after, none⟩ :: l) ⟨tm, n, H, nx⟩ QQ) (h2 : ¬p → OpsL P W0 ops l ⟨tmPut tm (some d) undef, n, H, nx⟩ QQ) (hj : (ops[j]?).bind (·.dst) = some d' := by exact rfl) (hb : tm d' = .bool (decide p) := by simp only [ASt.ev, tmPut, ↓reduceIte, Nat.reduceEqDiff, plain1, *]; first | done | rfl) (hd : d < n := by subst_vars; decide) : OpsL P W0 ops (⟨some d, op, type, pos, after, some (j, true)⟩ :: l) ⟨tm, n, H, nx⟩ QQ := OpsL.guardT hj hb hd h1 h2
theorem OpsL.gF {j : Nat} {d' : Tmp} {p : Prop} [Decidable p] (h1 : ¬p → OpsL P W0 ops (⟨some d, op, type, pos, after, none⟩ :: l) ⟨tm, n, H, nx⟩ QQ) (h2 : p → OpsL P W0 ops l ⟨tmPut tm (some d) undef, n, H, nx⟩ QQ) (hj : (ops[j]?).bind (·.dst) = some d' := by exact rfl) (hb : tm d' = .bool (decide p) := by simp only [ASt.ev, tmPut, ↓reduceIte, Nat.reduceEqDiff, plain1, *]; first | done | rfl) (hd : d < n := by subst_vars; decide) : OpsL P W0 ops (⟨some d, op, type, pos, after, some (j, false)⟩ :: l) ⟨tm, n, H, nx⟩ QQ := OpsL.guardF hj hb hd h1 h2
variable {f : FuncId} {R : Value → Nat → Heap → Prop} {ts : Array TypeId} {va vb vc ve : Value}
theorem OpsL.c0 (hd : d < n := by subst_vars; decide)  (hf : Enters P f) (hc : ACalls P W0 f [] nx H R) (h : ∀ v nx' H', R v nx' H' → OpsL P W0 ops l ⟨tmPut tm (some d) v, n, H', nx'⟩ QQ) : OpsL P W0 ops (⟨some d, .call ⟨.value (.func f), #[], ts⟩, type, pos, after, none⟩ :: l) ⟨tm, n, H, nx⟩ QQ := OpsL.call0 hd  hf hc h
theorem OpsL.c1 (hd : d < n := by subst_vars; decide) (hx : ASt.ev ⟨tm, n, H, nx⟩ x = some va := by simp only [ASt.ev, tmPut, ↓reduceIte, Nat.reduceEqDiff, plain1, *]; first | done | rfl) (hf : Enters P f) (hc : ACalls P W0 f [va] nx H R) (h : ∀ v nx' H', R v nx' H' → OpsL P W0 ops l ⟨tmPut tm (some d) v, n, H', nx'⟩ QQ) : OpsL P W0 ops (⟨some d, .call ⟨.value (.func f), #[x], ts⟩, type, pos, after, none⟩ :: l) ⟨tm, n, H, nx⟩ QQ := OpsL.call1 hd hx hf hc h
theorem OpsL.c2 (hd : d < n := by subst_vars; decide) (hx : ASt.ev ⟨tm, n, H, nx⟩ x = some va := by simp only [ASt.ev, tmPut, ↓reduceIte, Nat.reduceEqDiff, plain1, *]; first | done | rfl) (hy : ASt.ev ⟨tm, n, H, nx⟩ y = some vb := by simp only [ASt.ev, tmPut, ↓reduceIte, Nat.reduceEqDiff, plain1, *]; first | done | rfl) (hf : Enters P f) (hc : ACalls P W0 f [va, vb] nx H R) (h : ∀ v nx' H', R v nx' H' → OpsL P W0 ops l ⟨tmPut tm (some d) v, n, H', nx'⟩ QQ) : OpsL P W0 ops (⟨some d, .call ⟨.value (.func f), #[x, y], ts⟩, type, pos, after, none⟩ :: l) ⟨tm, n, H, nx⟩ QQ := OpsL.call2 hd hx hy hf hc h
theorem OpsL.c3 (hd : d < n := by subst_vars; decide) (hx : ASt.ev ⟨tm, n, H, nx⟩ x = some va := by simp only [ASt.ev, tmPut, ↓reduceIte, Nat.reduceEqDiff, plain1, *]; first | done | rfl) (hy : ASt.ev ⟨tm, n, H, nx⟩ y = some vb := by simp only [ASt.ev, tmPut, ↓reduceIte, Nat.reduceEqDiff, plain1, *]; first | done | rfl) (hz : ASt.ev ⟨tm, n, H, nx⟩ z = some vc := by simp only [ASt.ev, tmPut, ↓reduceIte, Nat.reduceEqDiff, plain1, *]; first | done | rfl) (hf : Enters P f) (hc : ACalls P W0 f [va, vb, vc] nx H R) (h : ∀ v nx' H', R v nx' H' → OpsL P W0 ops l ⟨tmPut tm (some d) v, n, H', nx'⟩ QQ) : OpsL P W0 ops (⟨some d, .call ⟨.value (.func f), #[x, y, z], ts⟩, type, pos, after, none⟩ :: l) ⟨tm, n, H, nx⟩ QQ := OpsL.call3 hd hx hy hz hf hc h
theorem OpsL.call4 {x y z w : Operand} (hd : d < n) (hx : ASt.ev ⟨tm, n, H, nx⟩ x = some va) (hy : ASt.ev ⟨tm, n, H, nx⟩ y = some vb) (hz : ASt.ev ⟨tm, n, H, nx⟩ z = some vc) (hw : ASt.ev ⟨tm, n, H, nx⟩ w = some ve) (hf : Enters P f) (hcall : ACalls P W0 f [va, vb, vc, ve] nx H R) (h : ∀ v nx' H', R v nx' H' → OpsL P W0 ops l ⟨tmPut tm (some d) v, n, H', nx'⟩ QQ) :
    OpsL P W0 ops (⟨some d, .call ⟨.value (.func f), #[x, y, z, w], ts⟩, type, pos, after, none⟩ :: l) ⟨tm, n, H, nx⟩ QQ := by
  refine OpsL.call R (by simp [dstOk, hd]) rfl ?_ hf hcall h
  have hf' : ASt.ev ⟨tm, n, H, nx⟩ (.func f) = some (.func (.func f) #[] #[]) := rfl
  simp [callee, hf', evAll, hx, hy, hz, hw]
theorem OpsL.c4 {x y z w : Operand} (hd : d < n := by subst_vars; decide) (hx : ASt.ev ⟨tm, n, H, nx⟩ x = some va := by simp only [ASt.ev, tmPut, ↓reduceIte, Nat.reduceEqDiff, plain1, *]; first | done | rfl) (hy : ASt.ev ⟨tm, n, H, nx⟩ y = some vb := by simp only [ASt.ev, tmPut, ↓reduceIte, Nat.reduceEqDiff, plain1, *]; first | done | rfl) (hz : ASt.ev ⟨tm, n, H, nx⟩ z = some vc := by simp only [ASt.ev, tmPut, ↓reduceIte, Nat.reduceEqDiff, plain1, *]; first | done | rfl) (hw : ASt.ev ⟨tm, n, H, nx⟩ w = some ve := by simp only [ASt.ev, tmPut, ↓reduceIte, Nat.reduceEqDiff, plain1, *]; first | done | rfl) (hf : Enters P f) (hc : ACalls P W0 f [va, vb, vc, ve] nx H R) (h : ∀ v nx' H', R v nx' H' → OpsL P W0 ops l ⟨tmPut tm (some d) v, n, H', nx'⟩ QQ) : OpsL P W0 ops (⟨some d, .call ⟨.value (.func f), #[x, y, z, w], ts⟩, type, pos, after, none⟩ :: l) ⟨tm, n, H, nx⟩ QQ := OpsL.call4 hd hx hy hz hw hf hc h
end
section
variable {P : Program} {W0 : World} {st : ASt} {Q : AExit → ASt → Prop} {c : Operand} {x y : Code}
theorem Trip.itA {p : Prop} [Decidable p] (h1 : p → Trip P W0 x st Q) (h2 : ¬p → Trip P W0 y st Q) (hc : st.ev c = some (.bool (decide p)) := by simp only [ASt.ev, tmPut, ↓reduceIte, Nat.reduceEqDiff, plain1, *]; first | done | rfl) : Trip P W0 (.cond c x y) st Q := Trip.ite hc h1 h2
theorem Trip.ifT (h : Trip P W0 x st Q) (hc : st.ev c = some (.bool true) := by simp only [ASt.ev, tmPut, ↓reduceIte, reduceIte, Nat.reduceEqDiff, decide_true, decide_false, not_true_eq_false, not_false_eq_true, Bool.not_true, Bool.not_false, *]; first | done | rfl) : Trip P W0 (.cond c x y) st Q := Trip.iteB hc (fun _ => h) (fun h => absurd h (by decide))
theorem Trip.ifF (h : Trip P W0 y st Q) (hc : st.ev c = some (.bool false) := by simp only [ASt.ev, tmPut, ↓reduceIte, reduceIte, Nat.reduceEqDiff, decide_true, decide_false, not_true_eq_false, not_false_eq_true, Bool.not_true, Bool.not_false, *]; first | done | rfl) : Trip P W0 (.cond c x y) st Q := Trip.iteB hc (fun h => absurd h (by decide)) (fun _ => h)
end
end Go.Am
namespace Go.Am
set_option linter.unusedSimpArgs false
set_option linter.unusedVariables false
open Go.RowKit
section
variable {P : Program} {W0 : World} {ops : Array Oper}
def edgeOkC (ops : Array Oper) (k : Nat) (o : Oper) : Bool :=
 effOp o.op || heapFree o.op || allIdx (fun j oj => !effOp oj.op || depB o j || depB oj k) 0 ops.toList
variable {nx0 : Nat} {H0 : Heap}
section
variable {k : Nat} {type : TypeId} {pos : String} {after : Array Edge} {l : List Oper} {tm : Nat → Value} {n nx nx' : Nat} {H H' : Heap} {v : Value} {QQ : ASt → Prop} {f : FuncId} {d : Tmp} {ts : Array TypeId}
end
def ctAt : List Oper → List (Value × Nat × Heap) → ASt → Nat → ASt
 | o :: l, ve :: vs, st, i + 1 => ctAt l vs ⟨tmPut st.tm o.dst ve.1, st.n, ve.2.2, ve.2.1⟩ i
 | _, _, st, _ => st
theorem ctAt_zero (l : List Oper) (vs : List (Value × Nat × Heap)) (st : ASt) : ctAt l vs st 0 = st := by cases l <;> cases vs <;> rfl
def noHeapV : Value × Nat × Heap := (undef, 0, noHeap)
def depNB (ops : Array Oper) : Nat → Oper → Nat → Bool
 | 0, o, i => depB o i
 | n + 1, o, i => depB o i || (List.range ops.size).any fun m => depB o m && (match ops[m]? with | some om => depNB ops n om i | none => false)
theorem depNB_iff {ops : Array Oper} : ∀ (n : Nat) (o : Oper) (i : Nat), depNB ops n o i = true → depN ops n o i := by
 intro n
 induction n with
 | zero => intro o i h; exact depB_iff.1 h
 | succ n ih =>
  intro o i h
  simp only [depNB, Bool.or_eq_true, List.any_eq_true, Bool.and_eq_true] at h
  rcases h with h | ⟨m, _, h1, h2⟩
  ·exact .inl (depB_iff.1 h)
  ·cases ho : ops[m]? with
   | none => rw [ho] at h2; cases h2
   | some om => rw [ho] at h2; exact .inr ⟨m, om, ho, depB_iff.1 h1, ih om i h2⟩
def seqOkC (ops : Array Oper) : Bool :=
 allIdx (fun i oi => allIdx (fun j oj => !(effOp oi.op && effOp oj.op && decide (i < j)) || depNB ops 3 oj i || (List.range ops.size).any fun k => decide (i < k) && decide (k < j) && (match ops[k]? with | some o => effOp o.op | none => false)) 0 ops.toList) 0 ops.toList
theorem goCall_eff {o : Op} (h : goCall o = true) : effOp o = true := by
 cases o <;> simp only [goCall] at h <;> try (cases h; done)
 rename_i c
 cases hc : c.callee <;> simp [goCall, hc] at h <;> simp [effOp, hc]
theorem calleeE_congr {st : ASt} {o : Oper} : calleeE (evR (opTs o) st.tm) o = callee st o := by
 unfold calleeE callee
 cases ho : o.op <;> simp only
 rename_i c
 cases hc : c.callee <;> simp only
 rename_i x
 have hm : ∀ y, y = x ∨ y ∈ c.args.toList → evR (opTs o) st.tm y = st.ev y := fun y hy =>
  evR_mem (n := st.n) (nx := st.nx) (H := st.H) (fun t ht => mem_opTs (by
   rw [ho, ← ht]
   simp only [Op.operands, Call.operands, hc]
   rcases hy with rfl | hy
   ·simp
   ·simp; right; simpa using hy))
 rw [hm x (.inl rfl), evAll_congr c.args.toList (fun y hy => hm y (.inr hy))]
 rfl
end
end Go.Am
namespace Go.Am
set_option linter.unusedSimpArgs false
set_option linter.unusedVariables false
open Go.RowKit
section
variable {P : Program} {W0 : World} {ops : Array Oper}
def OpsK (P : Program) (W0 : World) (ops : Array Oper) (K : Nat → Heap → Prop) : Nat → List Oper → ASt → (ASt → Prop) → Prop
 | _, [], st, Q => Q st
 | k, o :: l, st, Q => dstOk st o = true ∧ ((wants ops st o = false ∧ OpsK P W0 ops K (k + 1) l (st.put o.dst undef .none) Q) ∨ (wants ops st o = true ∧
   ((∃ v e, aop P st.H st.nx st.ev o = some (v, e) ∧ edgeOkC ops k o = true ∧ (effOp o.op = true → K (e.nx st.nx) (e.H st.nx st.H)) ∧ OpsK P W0 ops K (k + 1) l (st.put o.dst v e) Q) ∨
    (∃ v, effOp o.op = false ∧ (∀ H' nx', K nx' H' → aop P H' nx' st.ev o = some (v, .none)) ∧ OpsK P W0 ops K (k + 1) l (st.put o.dst v .none) Q) ∨
    (∃ f args v nx' H', callee st o = some (f, args) ∧ Enters P f ∧ ACalls P W0 f args st.nx st.H (fun v1 n1 H1 => v1 = v ∧ n1 = nx' ∧ H1 = H') ∧ K nx' H' ∧ OpsK P W0 ops K (k + 1) l ⟨tmPut st.tm o.dst v, st.n, H', nx'⟩ Q))))
variable {K : Nat → Heap → Prop}
theorem OpsK.nil {k : Nat} {st : ASt} {Q : ASt → Prop} (h : Q st) : OpsK P W0 ops K k [] st Q := h
theorem OpsK.one {k : Nat} {o : Oper} {l : List Oper} {st : ASt} {Q : ASt → Prop} (he : effOp o.op = false) (hk : edgeOkC ops k o = true) (h : OpsL P W0 ops [o] st fun s => OpsK P W0 ops K (k + 1) l s Q) : OpsK P W0 ops K k (o :: l) st Q := by
 obtain ⟨hd, h⟩ := h
 refine ⟨hd, ?_⟩
 rcases h with ⟨hw, h⟩ | ⟨hw, ⟨v, e, hop, h⟩ | ⟨f, args, R, hc, _⟩⟩
 ·exact .inl ⟨hw, h⟩
 ·exact .inr ⟨hw, .inl ⟨v, e, hop, hk, fun hx => (by rw [he] at hx; cases hx), h⟩⟩
 ·have := callee_goCall hc
  cases ho : o.op <;> simp only [ho, goCall] at this <;> try (cases this; done)
  rename_i c
  cases hcc : c.callee <;> simp [hcc] at this <;> simp [effOp, ho, hcc] at he
section
variable {k : Nat} {type : TypeId} {pos : String} {after : Array Edge} {l : List Oper} {tm : Nat → Value} {n nx nx' : Nat} {H H' : Heap} {v : Value} {QQ : ASt → Prop} {f : FuncId} {d : Tmp} {ts : Array TypeId}
end
def PStepK (P : Program) (W0 : World) (ops : Array Oper) (K : Nat → Heap → Prop) (k : Nat) (st : ASt) (o : Oper) (v : Value) (nx' : Nat) (H' : Heap) : Prop :=
 dstOk st o = true ∧ ((wants ops st o = false ∧ v = undef ∧ nx' = st.nx ∧ H' = st.H) ∨ (wants ops st o = true ∧ ((∃ e, aop P st.H st.nx st.ev o = some (v, e) ∧ edgeOkC ops k o = true ∧ (effOp o.op = true → K nx' H') ∧ nx' = e.nx st.nx ∧ H' = e.H st.nx st.H) ∨
  (effOp o.op = false ∧ (∀ H1 n1, K n1 H1 → aop P H1 n1 st.ev o = some (v, .none)) ∧ nx' = st.nx ∧ H' = st.H) ∨
  (goCall o.op = true ∧ K nx' H' ∧ ∃ f args, callee st o = some (f, args) ∧ Enters P f ∧ ACalls P W0 f args st.nx st.H (fun v1 n1 H1 => v1 = v ∧ n1 = nx' ∧ H1 = H')))))
theorem OpsK.vals {Q : ASt → Prop} : ∀ (l : List Oper) (k : Nat) (st : ASt), OpsK P W0 ops K k l st Q → ∃ vs : List (Value × Nat × Heap), vs.length = l.length ∧ Q (ctAt l vs st l.length) ∧
  ∀ (i : Nat) (o : Oper), l[i]? = some o → PStepK P W0 ops K (k + i) (ctAt l vs st i) o (vs.getD i noHeapV).1 (vs.getD i noHeapV).2.1 (vs.getD i noHeapV).2.2 ∧ ctAt l vs st (i + 1) = ⟨tmPut (ctAt l vs st i).tm o.dst (vs.getD i noHeapV).1, (ctAt l vs st i).n, (vs.getD i noHeapV).2.2, (vs.getD i noHeapV).2.1⟩ := by
 intro l
 induction l with
 | nil => intro k st h; exact ⟨[], rfl, h, fun i o ho => by simp at ho⟩
 | cons o l ih =>
  intro k st h
  obtain ⟨hd, h⟩ := h
  have key : ∃ v nx' H', PStepK P W0 ops K k st o v nx' H' ∧ OpsK P W0 ops K (k + 1) l ⟨tmPut st.tm o.dst v, st.n, H', nx'⟩ Q := by
   rcases h with ⟨hw, h⟩ | ⟨hw, ⟨v, e, hop, he, hx, h⟩ | ⟨v, he, hop, h⟩ | ⟨f, args, v, nx', H', hc, hf, hcall, hx, h⟩⟩
   ·exact ⟨undef, st.nx, st.H, ⟨hd, .inl ⟨hw, rfl, rfl, rfl⟩⟩, h⟩
   ·exact ⟨v, e.nx st.nx, e.H st.nx st.H, ⟨hd, .inr ⟨hw, .inl ⟨e, hop, he, hx, rfl, rfl⟩⟩⟩, h⟩
   ·exact ⟨v, st.nx, st.H, ⟨hd, .inr ⟨hw, .inr (.inl ⟨he, hop, rfl, rfl⟩)⟩⟩, h⟩
   ·exact ⟨v, nx', H', ⟨hd, .inr ⟨hw, .inr (.inr ⟨callee_goCall hc, hx, f, args, hc, hf, hcall⟩)⟩⟩, h⟩
  obtain ⟨v, nx', H', h1, h2⟩ := key
  obtain ⟨vs, e1, e2, e3⟩ := ih _ _ h2
  refine ⟨(v, nx', H') :: vs, by simp [e1], e2, ?_⟩
  intro i o' ho
  cases i with
  | zero =>
   simp only [List.getElem?_cons_zero, Option.some.injEq] at ho
   subst ho
   refine ⟨by rw [ctAt_zero]; exact h1, ?_⟩
   show ctAt l vs ⟨tmPut st.tm o.dst v, st.n, H', nx'⟩ 0 = _
   rw [ctAt_zero, ctAt_zero]; rfl
  | succ i =>
   have := e3 i o' (by simpa using ho)
   rw [show k + (i + 1) = k + 1 + i by omega]
   exact this
theorem OpsK.drawn {id : Nat} {st : ASt} {Q : AExit → ASt → Prop} (hm : P.follows .mixedOrders = true) (hs : statOk ops = true) (hq : seqOkC ops = true) (h0 : K st.nx st.H) (h : OpsK P W0 ops K 0 ops.toList st (Q .normal)) : Trip P W0 (.region id ops true) st Q := by
 have q2 := hq
 unfold seqOkC at q2
 obtain ⟨vs, e1, e2, e3⟩ := OpsK.vals _ _ _ h
 simp only [Nat.zero_add] at e3
 obtain ⟨b1, b2, b3⟩ := statOk_spec hs
 have toL : ∀ (i : Nat) (o : Oper), ops[i]? = some o → ops.toList[i]? = some o := fun i o ho => by simpa using ho
 have hz := ctAt_zero ops.toList vs st
 have hnn : ∀ i, i ≤ ops.size → (ctAt ops.toList vs st i).n = st.n := by
  intro i
  induction i with
  | zero => intro _; rw [hz]
  | succ i ih =>
   intro hi
   have ho : ops[i]? = some ops[i] := Array.getElem?_eq_getElem (by omega)
   rw [(e3 i _ (toL i _ ho)).2]
   exact ih (by omega)
 have hend : ∀ i, ops[i]? = none → ctAt ops.toList vs st (i + 1) = ctAt ops.toList vs st i := by
  have gen : ∀ (l : List Oper) (us : List (Value × Nat × Heap)) (st : ASt) (i : Nat), us.length = l.length → l.length ≤ i → ctAt l us st (i + 1) = ctAt l us st i := by
   intro l
   induction l with
   | nil => intro us st i _ _; cases i <;> rfl
   | cons o l ih =>
    intro us st i hu hi
    cases us with
    | nil => simp at hu
    | cons u us =>
     cases i with
     | zero => simp at hi
     | succ i => exact ih us _ i (by simpa using hu) (by simpa using hi)
  intro i hi
  exact gen _ _ _ _ e1 (by simpa using Array.getElem?_eq_none_iff.1 hi)
 have hstill : ∀ i, isEff ops i = false → (ctAt ops.toList vs st (i + 1)).H = (ctAt ops.toList vs st i).H ∧ (ctAt ops.toList vs st (i + 1)).nx = (ctAt ops.toList vs st i).nx := by
  intro i hi
  cases ho : ops[i]? with
  | none => rw [hend i ho]; exact ⟨rfl, rfl⟩
  | some o =>
   obtain ⟨⟨_, p2⟩, p3⟩ := e3 i o (toL i o ho)
   have hE : effOp o.op = false := by simpa [isEff, ho] using hi
   rw [p3]
   rcases p2 with ⟨_, _, c, d⟩ | ⟨_, ⟨e, c1, _, _, c2, c3⟩ | ⟨_, _, c, d⟩ | ⟨g, _⟩⟩
   ·exact ⟨d, c⟩
   ·have := effOp_none hE c1
    subst this
    exact ⟨c3, c2⟩
   ·exact ⟨d, c⟩
   ·rw [goCall_eff g] at hE; cases hE
 have hextAll : ∀ i, i ≤ ops.size → K (ctAt ops.toList vs st i).nx (ctAt ops.toList vs st i).H := by
  intro i
  induction i with
  | zero => intro _; rw [hz]; exact h0
  | succ i ih =>
   intro hi
   have ho : ops[i]? = some ops[i] := Array.getElem?_eq_getElem (by omega)
   by_cases hE : effOp ops[i].op = true
   ·obtain ⟨⟨_, p2⟩, p3⟩ := e3 i _ (toL i _ ho)
    rw [p3]
    rcases p2 with ⟨_, _, c, d⟩ | ⟨_, ⟨e, _, _, c, _⟩ | ⟨g, _⟩ | ⟨_, c, _⟩⟩
    ·rw [c, d]; exact ih (by omega)
    ·exact c hE
    ·rw [g] at hE; cases hE
    ·exact c
   ·obtain ⟨a, b⟩ := hstill i (by unfold isEff; rw [ho]; simpa using hE)
    rw [a, b]; exact ih (by omega)
 have hrange : ∀ m p, (∀ j, p ≤ j → j < p + m → isEff ops j = false) → (ctAt ops.toList vs st (p + m)).H = (ctAt ops.toList vs st p).H ∧ (ctAt ops.toList vs st (p + m)).nx = (ctAt ops.toList vs st p).nx := by
  intro m
  induction m with
  | zero => intro p _; exact ⟨rfl, rfl⟩
  | succ m ih =>
   intro p hp
   obtain ⟨a1, a2⟩ := ih p (fun j h1 h2 => hp j h1 (by omega))
   obtain ⟨c1, c2⟩ := hstill (p + m) (hp _ (by omega) (by omega))
   exact ⟨by rw [show p + (m + 1) = p + m + 1 by omega, c1, a1], by rw [show p + (m + 1) = p + m + 1 by omega, c2, a2]⟩
 have hev : ∀ (i : Nat) (o : Oper) (H : Heap) (nx : Nat), aop P H nx (evR (opTs o) (ctAt ops.toList vs st i).tm) o = aop P H nx (ctAt ops.toList vs st i).ev o := fun i o H nx =>
  aop_congr (fun x hx => evR_mem (n := (ctAt ops.toList vs st i).n) (nx := (ctAt ops.toList vs st i).nx) (H := (ctAt ops.toList vs st i).H) (fun t ht => mem_opTs (by rw [← ht]; exact hx)))
 refine Trip.drawn (tms := fun i => (ctAt ops.toList vs st i).tm) (vs := fun i => (vs.getD i noHeapV).1) (Hs := fun i => (ctAt ops.toList vs st i).H) (ns := fun i => (ctAt ops.toList vs st i).nx) (isE := isEff ops) hm
  ⟨by rw [hz], by rw [hz], by rw [hz], ?_, ?_, hstill, b1, b2, b3, ?_, ?_, ?_⟩ ?_
 ·intro i o ho
  rw [(e3 i o (toL i o ho)).2]
 ·intro i o ho
  obtain ⟨⟨p1, p2⟩, p3⟩ := e3 i o (toL i o ho)
  have hlt : i < ops.size := (Array.getElem?_eq_some_iff.1 ho).1
  refine ⟨fun d hd => by have := dstOk_spec p1 d hd; rwa [hnn i (by omega)] at this, ?_⟩
  simp only [wantsT_wants]
  rcases p2 with ⟨a, b, c, d⟩ | ⟨a, ⟨e, c1, _, _, c2, c3⟩ | ⟨_, c1, c2, c3⟩ | ⟨_, _, f, args, g1, g2, g3⟩⟩
  ·exact .inl ⟨a, b, by rw [p3, d], by rw [p3, c]⟩
  ·exact .inr ⟨a, .inl ⟨e, by rw [hev]; exact c1, by rw [p3, c3], by rw [p3, c2]⟩⟩
  ·exact .inr ⟨a, .inl ⟨.none, by rw [hev]; exact c1 _ _ (hextAll i (by omega)), by rw [p3, c3]; rfl, by rw [p3, c2]; rfl⟩⟩
  ·refine .inr ⟨a, .inr (.inl ⟨f, args, by rw [calleeE_congr]; exact g1, g2, ?_⟩)⟩
   rw [p3]; exact g3
 ·intro i j oj hi hj hoj hij hbetween
  unfold isEff at hi hj
  cases hoi : ops[i]? with
  | none => rw [hoi] at hi; cases hi
  | some oi =>
   rw [hoi] at hi
   rw [hoj] at hj
   simp only at hi hj
   have := allIdx_spec _ _ (allIdx_spec _ _ q2 i oi (toL i oi hoi)) j oj (toL j oj hoj)
   simp only [Nat.zero_add, hi, hj, hij, decide_true, Bool.and_self, Bool.not_true, Bool.false_or, Bool.or_eq_true] at this
   rcases this with h1 | h1
   ·exact ⟨3, depNB_iff _ _ _ h1⟩
   ·rw [List.any_eq_true] at h1
    obtain ⟨k, _, hk⟩ := h1
    simp only [Bool.and_eq_true, decide_eq_true_eq] at hk
    obtain ⟨⟨k1, k2⟩, k3⟩ := hk
    have := hbetween k k1 k2
    unfold isEff at this
    cases hok : ops[k]? with
    | none => rw [hok] at k3; cases k3
    | some o => rw [hok] at this k3; simp only at this k3; rw [this] at k3; cases k3
 ·intro i oi p ho hE hw _ hple hdep hnot
  obtain ⟨⟨p1, p2⟩, p3⟩ := e3 i oi (toL i oi ho)
  have hlt : i < ops.size := (Array.getElem?_eq_some_iff.1 ho).1
  have hEo : effOp oi.op = false := by simpa [isEff, ho] using hE
  simp only [wantsT_wants] at hw
  have hcases : (aop P (ctAt ops.toList vs st i).H (ctAt ops.toList vs st i).nx (ctAt ops.toList vs st i).ev oi = some ((vs.getD i noHeapV).1, .none) ∧ edgeOkC ops i oi = true) ∨ (∀ H1 n1, K n1 H1 → aop P H1 n1 (ctAt ops.toList vs st i).ev oi = some ((vs.getD i noHeapV).1, .none)) := by
   rcases p2 with ⟨a, _⟩ | ⟨_, ⟨e, c1, c2, _⟩ | ⟨_, c, _⟩ | ⟨g, _⟩⟩
   ·rw [hw] at a; cases a
   ·rw [effOp_none hEo c1] at c1; exact .inl ⟨c1, c2⟩
   ·exact .inr c
   ·rw [goCall_eff g] at hEo; cases hEo
  show aop P _ _ (evR (opTs oi) (ctAt ops.toList vs st i).tm) oi = _
  rw [hev]
  rcases hcases with ⟨hop, hq⟩ | hst
  case inr => exact hst _ _ (hextAll p hple)
  unfold edgeOkC at hq
  simp only [hEo, Bool.false_or, Bool.or_eq_true] at hq
  rcases hq with hf | hf
  ·rw [heapFree_aop (H' := (ctAt ops.toList vs st i).H) (nx' := (ctAt ops.toList vs st i).nx) hf]; exact hop
  ·have hrel : ∀ j, isEff ops j = true → (j < i → j < p) ∧ (i < j → p ≤ j) := by
    intro j hj
    have hj' := hj
    unfold isEff at hj
    cases hoj : ops[j]? with
    | none => rw [hoj] at hj; cases hj
    | some oj =>
     rw [hoj] at hj
     simp only at hj
     have := allIdx_spec _ _ hf j oj (toL j oj hoj)
     simp only [Nat.zero_add, hj, Bool.not_true, Bool.false_or, Bool.or_eq_true] at this
     rcases this with h1 | h1
     ·have hd := depB_iff.1 h1
      have := b1 i oi ho j hd
      exact ⟨fun _ => hdep j hj' hd, fun _ => by omega⟩
     ·have hd := depB_iff.1 h1
      have := b1 j oj hoj i hd
      refine ⟨fun _ => by omega, fun _ => ?_⟩
      rcases Nat.lt_or_ge j p with c | c
      ·exact absurd hd (hnot j oj hj' c hoj)
      ·exact c
   have hsame : (ctAt ops.toList vs st p).H = (ctAt ops.toList vs st i).H ∧ (ctAt ops.toList vs st p).nx = (ctAt ops.toList vs st i).nx := by
    rcases Nat.le_total p i with c | c
    ·obtain ⟨m, rfl⟩ : ∃ m, i = p + m := ⟨i - p, by omega⟩
     obtain ⟨a1, a2⟩ := hrange m p (fun j h1 h2 => by
      cases hj : isEff ops j with
      | false => rfl
      | true => have := (hrel j hj).1 h2; omega)
     exact ⟨a1.symm, a2.symm⟩
    ·obtain ⟨m, rfl⟩ : ∃ m, p = i + m := ⟨p - i, by omega⟩
     exact hrange m i (fun j h1 h2 => by
      cases hj : isEff ops j with
      | false => rfl
      | true =>
       have hne : j ≠ i := fun x => by rw [x, hE] at hj; cases hj
       have := (hrel j hj).2 (by omega); omega)
   simp only [hsame.1, hsame.2]
   exact hop
 ·intro i hi
  unfold isEff at hi
  cases ho : ops[i]? with
  | none => rw [ho] at hi; cases hi
  | some o => exact (Array.getElem?_eq_some_iff.1 ho).1
 ·have hl : ops.toList.length = ops.size := by simp
  rw [hl] at e2
  have hn := hnn ops.size (Nat.le_refl _)
  have : (⟨(ctAt ops.toList vs st ops.size).tm, st.n, (ctAt ops.toList vs st ops.size).H, (ctAt ops.toList vs st ops.size).nx⟩ : ASt) = ctAt ops.toList vs st ops.size := by rw [← hn]
  rw [this]
  exact e2
end
end Go.Am
namespace Go.Am
set_option linter.unusedSimpArgs false
set_option linter.unusedVariables false
open Go.RowKit
def depT (ops : Array Oper) (j i : Nat) : Bool := match ops[j]? with | some oj => depNB ops 4 oj i | none => false
def depD (ops : Array Oper) (j i : Nat) : Bool := match ops[j]? with | some oj => depB oj i | none => false
def front (ops : Array Oper) (l : List Nat) (i : Nat) : Bool := l.all fun j => !depD ops i j
def readsOk (ops : Array Oper) : Bool :=
 allIdx (fun _ oi => allIdx (fun j oj => match oj.dst with
  | some t => if (opTs oi).contains t || gdst ops oi == some t then depB oi j else true
  | none => true) 0 ops.toList) 0 ops.toList
def edgeR (ops : Array Oper) (acts : List Nat) (i : Nat) (o : Oper) (l : List Nat) : Bool := heapFree o.op || l.all fun j => !acts.contains j || depT ops j i
def ActStep (P : Program) (W0 : World) (ops : Array Oper) (acts : List Nat) (K : Nat → Heap → Prop) (i : Nat) (st : ASt) (N : ASt → Prop) : Prop :=
 ∃ o, ops[i]? = some o ∧ dstOk st o = true ∧ acts.contains i = true ∧
  ((wants ops st o = false ∧ N (st.put o.dst undef .none)) ∨
   (wants ops st o = true ∧
    ((∃ v e, aop P st.H st.nx st.ev o = some (v, e) ∧ K (e.nx st.nx) (e.H st.nx st.H) ∧ N (st.put o.dst v e)) ∨
    (∃ f args R, callee st o = some (f, args) ∧ Enters P f ∧ ACalls P W0 f args st.nx st.H R ∧ ∀ v nx' H', R v nx' H' → K nx' H' ∧ N ⟨tmPut st.tm o.dst v, st.n, H', nx'⟩))))
def OpsR (P : Program) (W0 : World) (ops : Array Oper) (acts : List Nat) (K : Nat → Heap → Prop) : Nat → List Nat → ASt → (ASt → Prop) → Prop
 | _, [], st, Q => Q st
 | 0, _ :: _, _, _ => False
 | m + 1, i :: l, st, Q =>
  (acts.contains i = false ∧ front ops l i = true ∧ ∃ o, ops[i]? = some o ∧ dstOk st o = true ∧
   ((wants ops st o = false ∧ OpsR P W0 ops acts K m l (st.put o.dst undef .none) Q) ∨
    (wants ops st o = true ∧ ∃ v, aop P st.H st.nx st.ev o = some (v, .none) ∧ (edgeR ops acts i o l = true ∨ ∀ H' nx', K nx' H' → aop P H' nx' st.ev o = some (v, .none)) ∧ OpsR P W0 ops acts K m l (st.put o.dst v .none) Q))) ∨
  (∀ j ∈ i :: l, front ops ((i :: l).erase j) j = true → ActStep P W0 ops acts K j st fun s => OpsR P W0 ops acts K m ((i :: l).erase j) s Q)
section
variable {P : Program} {W0 : World} {ops : Array Oper} {acts : List Nat} {K : Nat → Heap → Prop}
theorem aop_evR {st : ASt} {o : Oper} {H : Heap} {nx : Nat} : aop P H nx (evR (opTs o) st.tm) o = aop P H nx st.ev o :=
 aop_congr (fun x hx => evR_mem (n := st.n) (nx := st.nx) (H := st.H) (fun t ht => mem_opTs (by rw [← ht]; exact hx)))
theorem readsOk_spec (h : readsOk ops = true) {i j : Nat} {oi oj : Oper} {t : Tmp} (hi : ops[i]? = some oi) (hj : ops[j]? = some oj) (ht : t ∈ opTs oi ∨ gdst ops oi = some t) (hd : oj.dst = some t) : dep oi j := by
 unfold readsOk at h
 have h1 := allIdx_spec _ _ (allIdx_spec _ _ h i oi (by simpa using hi)) j oj (by simpa using hj)
 simp only [Nat.zero_add, hd] at h1
 rw [if_pos] at h1
 ·exact depB_iff.1 h1
 ·rcases ht with ht | ht
  ·simp [ht]
  ·simp [ht]
theorem front_iff {l : List Nat} {i : Nat} : front ops l i = true ↔ ∀ j ∈ l, depD ops i j = false := by
 unfold front
 rw [List.all_eq_true]
 constructor
 ·intro h j hj; have := h j hj; simpa using this
 ·intro h j hj; simp [h j hj]
def Pend (P : Program) (ops : Array Oper) (acts : List Nat) (K : Nat → Heap → Prop) (L : List Nat) (T : Nat → Value) (n : Nat) (H : Heap) (nx : Nat) (i : Nat) (o : Oper) : Prop :=
 (∀ d, o.dst = some d → d < n) ∧ ∃ val, (∀ d, o.dst = some d → T d = val) ∧ ((wantsT ops T o = false ∧ val = undef) ∨
  (wantsT ops T o = true ∧ aop P H nx (evR (opTs o) T) o = some (val, .none) ∧ ((∀ j ∈ L, acts.contains j = true → depT ops j i = true) ∨ ∀ H' nx', K nx' H' → aop P H' nx' (evR (opTs o) T) o = some (val, .none))))
structure RInv (P : Program) (ops : Array Oper) (acts : List Nat) (K : Nat → Heap → Prop) (D L : List Nat) (listed : Array Bool) (tm T : Nat → Value) (n : Nat) (H : Heap) (nx : Nat) : Prop where
 size : listed.size = ops.size
 down : ∀ (i : Nat) (o : Oper), ops[i]? = some o → listed.getD i false = true → ∀ j, dep o j → listed.getD j false = true
 unl : ∀ i ∈ L, listed.getD i false = false
 all : ∀ i, i < ops.size → i ∈ D ∨ i ∈ L
 disj : ∀ p ∈ D, ∀ i ∈ L, p ≠ i
 topo : ∀ p ∈ D, ∀ i ∈ L, depD ops p i = false
 nd : L.Nodup
 lt : ∀ i ∈ L, i < ops.size
 pend : ∀ i ∈ D, listed.getD i false = false → ∃ o, ops[i]? = some o ∧ Pend P ops acts K L T n H nx i o
 eqv : ∀ t, (∀ (i : Nat) (o : Oper), ops[i]? = some o → i ∈ D → listed.getD i false = false → o.dst ≠ some t) → tm t = T t
variable {D L : List Nat} {listed : Array Bool} {tm T : Nat → Value} {n nx : Nat} {H : Heap}
theorem reach_listed (down : ∀ (i : Nat) (o : Oper), ops[i]? = some o → listed.getD i false = true → ∀ j, dep o j → listed.getD j false = true) : ∀ (m : Nat) (o : Oper) (i : Nat), (∀ j, dep o j → listed.getD j false = true) → depN ops m o i → listed.getD i false = true := by
 intro m
 induction m with
 | zero => intro o i ha hd; exact ha i hd
 | succ m ihm =>
  intro o i ha hd
  rcases hd with hd | ⟨k, ok, hok, hdk, hd⟩
  ·exact ha i hd
  ·exact ihm ok i (fun j hj => down k ok hok (ha k hdk) j hj) hd
theorem depT_listed (down : ∀ (i : Nat) (o : Oper), ops[i]? = some o → listed.getD i false = true → ∀ j, dep o j → listed.getD j false = true) {i j : Nat} {o : Oper} (ho : ops[j]? = some o) (hall : ∀ k, dep o k → listed.getD k false = true) (h : depT ops j i = true) : listed.getD i false = true := by
 unfold depT at h
 rw [ho] at h
 exact reach_listed down 4 o i hall (depNB_iff _ _ _ h)
theorem RInv.reads (hr : readsOk ops = true) (hi : RInv P ops acts K D L listed tm T n H nx) {i : Nat} {o : Oper} (ho : ops[i]? = some o) (hall : ∀ j, dep o j → listed.getD j false = true) {t : Tmp} (ht : t ∈ opTs o ∨ gdst ops o = some t) : tm t = T t := by
 refine hi.eqv t fun p op hop hp hun hd => ?_
 have := hall p (readsOk_spec hr ho hop ht hd)
 rw [hun] at this
 cases this
theorem pend_put (hr : readsOk ops = true) (hone : ∀ (i j : Nat) (oi oj : Oper) (d : Tmp), ops[i]? = some oi → ops[j]? = some oj → oi.dst = some d → oj.dst = some d → i = j) {i p : Nat} {o op : Oper} {H' : Heap} {nx' : Nat} (ho : ops[i]? = some o) (hop : ops[p]? = some op) (hpi : p ≠ i) (hni : depD ops p i = false) (v : Value)
  {L' : List Nat} (hsub : ∀ j ∈ L', j ∈ L) (hil : i ∈ L) (h : Pend P ops acts K L T n H nx p op) (hk : (H' = H ∧ nx' = nx) ∨ (acts.contains i = true ∧ depT ops i p = false ∧ K nx' H')) : Pend P ops acts K L' (tmPut T o.dst v) n H' nx' p op := by
 obtain ⟨h2, val, h3, h4⟩ := h
 have hsame : ∀ t, (t ∈ opTs op ∨ gdst ops op = some t) → tmPut T o.dst v t = T t := fun t ht => by
  cases hd : o.dst with
  | none => rfl
  | some d =>
   have hne : t ≠ d := fun e => by
    subst e
    have := depB_iff.2 (readsOk_spec hr hop ho ht hd)
    unfold depD at hni
    rw [hop] at hni
    simp only at hni
    rw [hni] at this
    cases this
   simp only [tmPut, hne, if_false]
 refine ⟨h2, val, fun d hd => ?_, ?_⟩
 ·rw [← h3 d hd]
  cases hod : o.dst with
  | none => rfl
  | some d' =>
   have hne : d ≠ d' := fun e => hpi (hone p i op o d hop ho hd (by rw [hod, e]))
   simp only [tmPut, hne, if_false]
 ·rw [wantsT_congr (tm' := T) (fun d hd => hsame d (.inr hd)), evR_congr (tm' := T) (fun t ht => hsame t (.inl ht))]
  rcases h4 with h4 | ⟨h5, h6, h7⟩
  ·exact .inl h4
  ·refine .inr ⟨h5, ?_, ?_⟩
   ·rcases hk with ⟨rfl, rfl⟩ | ⟨he, hno, hK⟩
    ·exact h6
    ·rcases h7 with h7 | h7
     ·have := h7 i hil he
      rw [hno] at this; cases this
     ·exact h7 _ _ hK
   ·rcases h7 with h7 | h7
    ·exact .inl fun j hj => h7 j (hsub j hj)
    ·exact .inr h7
theorem read_same (hr : readsOk ops = true) (hlex : ∀ (i : Nat) (o : Oper), ops[i]? = some o → ∀ j, dep o j → j < i) {i : Nat} {o : Oper} (ho : ops[i]? = some o) (v : Value) {t : Tmp} (ht : t ∈ opTs o ∨ gdst ops o = some t) : tmPut T o.dst v t = T t := by
 cases hod : o.dst with
 | none => rfl
 | some d =>
  have hne : t ≠ d := fun e => by
   subst e
   exact absurd (hlex i o ho i (readsOk_spec hr ho ho ht hod)) (Nat.lt_irrefl _)
  simp only [tmPut, hne, if_false]
theorem RInv.advance (hr : readsOk ops = true) (hlex : ∀ (i : Nat) (o : Oper), ops[i]? = some o → ∀ j, dep o j → j < i) (hone : ∀ (i j : Nat) (oi oj : Oper) (d : Tmp), ops[i]? = some oi → ops[j]? = some oj → oi.dst = some d → oj.dst = some d → i = j) {i m : Nat} {Q : ASt → Prop} (hi : RInv P ops acts K D (i :: L) listed tm T n H nx) (hfr : front ops L i = true)
  (h : ∃ o, ops[i]? = some o ∧ dstOk ⟨T, n, H, nx⟩ o = true ∧
   ((wants ops ⟨T, n, H, nx⟩ o = false ∧ OpsR P W0 ops acts K m L (ASt.put ⟨T, n, H, nx⟩ o.dst undef .none) Q) ∨
    (wants ops ⟨T, n, H, nx⟩ o = true ∧ ∃ v, aop P H nx (ASt.ev ⟨T, n, H, nx⟩) o = some (v, .none) ∧ (edgeR ops acts i o L = true ∨ ∀ H' nx', K nx' H' → aop P H' nx' (ASt.ev ⟨T, n, H, nx⟩) o = some (v, .none)) ∧ OpsR P W0 ops acts K m L (ASt.put ⟨T, n, H, nx⟩ o.dst v .none) Q))) :
  ∃ T', RInv P ops acts K (i :: D) L listed tm T' n H nx ∧ OpsR P W0 ops acts K m L ⟨T', n, H, nx⟩ Q := by
 obtain ⟨o, ho, hd, h⟩ := h
 have hl : ∀ j ∈ L, i ≠ j ∧ depD ops i j = false := fun j hj => ⟨fun e => (List.nodup_cons.1 hi.nd).1 (e ▸ hj), front_iff.1 hfr j hj⟩
 have hdn := dstOk_spec hd
 have key : ∃ v, Pend P ops acts K L (tmPut T o.dst v) n H nx i o ∧ OpsR P W0 ops acts K m L ⟨tmPut T o.dst v, n, H, nx⟩ Q := by
  have hown : ∀ v d, o.dst = some d → tmPut T o.dst v d = v := fun v d hd => by simp [tmPut, hd]
  rcases h with ⟨hw, h⟩ | ⟨hw, v, hop, hedge, h⟩
  ·refine ⟨undef, ⟨hdn, undef, hown undef, .inl ⟨?_, rfl⟩⟩, h⟩
   rw [wantsT_congr (tm' := T) (fun d hd => read_same hr hlex ho _ (.inr hd))]
   exact (wantsT_wants ⟨T, n, H, nx⟩ o).trans hw
  ·refine ⟨v, ⟨hdn, v, hown v, .inr ⟨?_, ?_, ?_⟩⟩, h⟩
   ·rw [wantsT_congr (tm' := T) (fun d hd => read_same hr hlex ho _ (.inr hd))]
    exact (wantsT_wants ⟨T, n, H, nx⟩ o).trans hw
   ·rw [evR_congr (tm' := T) (fun t ht => read_same hr hlex ho _ (.inl ht))]
    exact (aop_evR (st := ⟨T, n, H, nx⟩)).trans hop
   ·rcases hedge with hedge | hst
    ·unfold edgeR at hedge
     rw [Bool.or_eq_true] at hedge
     rcases hedge with hf | hf
     ·refine .inr fun H' nx' _ => ?_
      rw [evR_congr (tm' := T) (fun t ht => read_same hr hlex ho _ (.inl ht)), heapFree_aop (H' := H) (nx' := nx) hf]
      exact (aop_evR (st := ⟨T, n, H, nx⟩)).trans hop
     ·refine .inl fun j hj hej => ?_
      rw [List.all_eq_true] at hf
      have := hf j hj
      rw [hej] at this
      simpa using this
    ·refine .inr fun H' nx' hK => ?_
     rw [evR_congr (tm' := T) (fun t ht => read_same hr hlex ho _ (.inl ht))]
     exact (aop_evR (st := ⟨T, n, H, nx⟩)).trans (hst H' nx' hK)
 obtain ⟨v, hp, h2⟩ := key
 refine ⟨tmPut T o.dst v, ⟨hi.size, hi.down, fun j hj => hi.unl j (List.mem_cons_of_mem _ hj), ?_, ?_, ?_, (List.nodup_cons.1 hi.nd).2, fun j hj => hi.lt j (List.mem_cons_of_mem _ hj), ?_, ?_⟩, h2⟩
 ·intro j hj
  rcases hi.all j hj with h | h
  ·exact .inl (List.mem_cons_of_mem _ h)
  ·rcases List.mem_cons.1 h with rfl | h
   ·exact .inl List.mem_cons_self
   ·exact .inr h
 ·intro p hp j hj
  rcases List.mem_cons.1 hp with rfl | hp
  ·exact (hl j hj).1
  ·exact hi.disj p hp j (List.mem_cons_of_mem _ hj)
 ·intro p hp j hj
  rcases List.mem_cons.1 hp with rfl | hp
  ·exact (hl j hj).2
  ·exact hi.topo p hp j (List.mem_cons_of_mem _ hj)
 ·intro p hp2 hun
  rcases List.mem_cons.1 hp2 with rfl | hp2
  ·exact ⟨o, ho, hp⟩
  ·obtain ⟨op, hop, hpe⟩ := hi.pend p hp2 hun
   exact ⟨op, hop, pend_put hr hone ho hop (hi.disj p hp2 i List.mem_cons_self) (hi.topo p hp2 i List.mem_cons_self) v (fun j hj => List.mem_cons_of_mem _ hj) List.mem_cons_self hpe (.inl ⟨rfl, rfl⟩)⟩
 ·intro t ht
  have h0 := hi.eqv t (fun p op hop hp hun => ht p op hop (List.mem_cons_of_mem _ hp) hun)
  have hne := ht i o ho List.mem_cons_self (hi.unl i List.mem_cons_self)
  rw [h0]
  cases hod : o.dst with
  | none => rfl
  | some d =>
   have : t ≠ d := fun e => hne (by rw [hod, e])
   simp only [tmPut, this, if_false]
theorem RInv.find (hr : readsOk ops = true) (hlex : ∀ (i : Nat) (o : Oper), ops[i]? = some o → ∀ j, dep o j → j < i) (hone : ∀ (i j : Nat) (oi oj : Oper) (d : Tmp), ops[i]? = some oi → ops[j]? = some oj → oi.dst = some d → oj.dst = some d → i = j) {Q : ASt → Prop} {i : Nat} {o : Oper} (ho : ops[i]? = some o) (hall : ∀ j, dep o j → listed.getD j false = true) :
  ∀ (m : Nat) (L D : List Nat) (T : Nat → Value), RInv P ops acts K D L listed tm T n H nx → OpsR P W0 ops acts K m L ⟨T, n, H, nx⟩ Q → i ∈ L → ∃ m' D' L' T', RInv P ops acts K D' L' listed tm T' n H nx ∧ ((i ∈ D' ∧ OpsR P W0 ops acts K m' L' ⟨T', n, H, nx⟩ Q) ∨ (i ∈ L' ∧ front ops (L'.erase i) i = true ∧ ActStep P W0 ops acts K i ⟨T', n, H, nx⟩ fun s => OpsR P W0 ops acts K m' (L'.erase i) s Q)) := by
 intro m
 induction m with
 | zero =>
  intro L D T hi h hm
  cases L with
  | nil => cases hm
  | cons k L => exact h.elim
 | succ m ih =>
  intro L D T hi h hm
  cases L with
  | nil => cases hm
  | cons k L =>
   rcases h with ⟨_, hfr, h⟩ | h
   ·obtain ⟨T', hi', h'⟩ := hi.advance hr hlex hone hfr h
    by_cases hk : k = i
    ·subst hk
     exact ⟨m, _, _, T', hi', .inl ⟨List.mem_cons_self, h'⟩⟩
    ·have hm2 : i ∈ L := by
      rcases List.mem_cons.1 hm with e | hm
      ·exact absurd e.symm hk
      ·exact hm
     exact ih _ _ _ hi' h' hm2
   ·have hfr : front ops ((k :: L).erase i) i = true := front_iff.2 fun j hj => by
     cases hd : depD ops i j with
     | false => rfl
     | true =>
      have hjl := hi.unl j (List.mem_of_mem_erase hj)
      unfold depD at hd
      rw [ho] at hd
      have := hall j (depB_iff.1 hd)
      rw [hjl] at this
      cases this
    exact ⟨m, D, _, T, hi, .inr ⟨hm, hfr, h i hm hfr⟩⟩
theorem callR_wp {ρ : Option Nat} {C : Corr} {o : Oper} {f : FuncId} {args : List Value} {R : Value → Nat → Heap → Prop} {a : Act} {w : World} {i : Nat} {KK : Act → World → Prop} {Q : Exit → Act → World → Prop} (hs : SRel W0 C ⟨tm, n, H, nx⟩ a w) (hd : ∀ d, o.dst = some d → d < n) (hw : wantsT ops tm o = true)
  (hc : calleeE (evR (opTs o) tm) o = some (f, args)) (hf : Enters P f) (hcall : ACalls P W0 f args nx H R) (ho : ops[i]? = some o)
  (hk : ∀ v nx' H' C' v' w', R v nx' H' → SRel W0 C' ⟨tmPut tm o.dst v, n, H', nx'⟩ (a.put o.dst v') w' → Stp nx H C nx' H' C' → KK (a.put o.dst v') w') : wpOpIn (rf ρ) 0 P ops Q i KK a w := by
 have hww := wants_sound hs ops o
 rw [← wantsT_wants] at hww
 unfold wpOpIn
 rw [ho]
 simp only [hww, hw, if_true]
 refine ⟨fun _ _ => trivial, ?_⟩
 have hE' := calleeE_sound hs (evR_ev _ _) hc
 obtain ⟨args', hrun, hargs⟩ := callee_sound hs hE' hf
 rw [callee_semAt hE', hrun]
 refine ⟨fun h => (by cases h), callsIn_rf ((hcall C w args' hs.rel hargs).mono ?_)⟩
 rintro e w'' ⟨v0, v', C', nx1, H1, rfl, hr, hR, hv, hS⟩
 exact hk v0 nx1 H1 C' v' w'' hr (hs.put hd hR hS hv) hS
theorem opsR_any (hr : readsOk ops = true) (hlex : ∀ (i : Nat) (o : Oper), ops[i]? = some o → ∀ j, dep o j → j < i) (hone : ∀ (i j : Nat) (oi oj : Oper) (d : Tmp), ops[i]? = some oi → ops[j]? = some oj → oi.dst = some d → oj.dst = some d → i = j) {ρ : Option Nat} {nx0 : Nat} {H0 : Heap} {C0 : Corr} {df : List Deferred} {Q' : ASt → Prop} {Q : Exit → Act → World → Prop}
  (hq : ∀ T H nx C a w, Q' ⟨T, n, H, nx⟩ → SRel W0 C ⟨T, n, H, nx⟩ a w → Stp nx0 H0 C0 nx H C → a.defers = df → Q .normal a w) :
  ∀ (fuel : Nat) (listed : Array Bool) (tm : Nat → Value) (m : Nat) (D L : List Nat) (T : Nat → Value) (H : Heap) (nx : Nat) (C : Corr) (a : Act) (w : World), RInv P ops acts K D L listed tm T n H nx → ((List.range ops.size).filter fun i => !listed.getD i false).length = fuel →
   SRel W0 C ⟨tm, n, H, nx⟩ a w → Stp nx0 H0 C0 nx H C → a.defers = df → K nx H → OpsR P W0 ops acts K m L ⟨T, n, H, nx⟩ Q' → wpAnyIn (rf ρ) 0 P .any ops Q fuel listed a w := by
 intro fuel
 induction fuel with
 | zero =>
  intro listed tm m D L T H nx C a w hi hf hs hS hdf hK h
  have hall : ∀ i, i < ops.size → listed.getD i false = true := by
   intro i hlt
   cases hl : listed.getD i false with
   | true => rfl
   | false =>
    have : i ∈ (List.range ops.size).filter fun i => !listed.getD i false := List.mem_filter.2 ⟨List.mem_range.2 hlt, by rw [hl]; rfl⟩
    rw [List.length_eq_zero_iff.1 hf] at this
    cases this
  refine ⟨?_, ?_⟩
  ·cases hrr : Region.ready .any ops listed with
   | nil => rfl
   | cons j r =>
    have hj : j ∈ Region.ready .any ops listed := by rw [hrr]; exact List.mem_cons_self ..
    obtain ⟨h0, o, ho, _⟩ := mem_ready.1 hj
    have hlt : j < ops.size := (Array.getElem?_eq_some_iff.1 ho).1
    have := hall j hlt
    rw [getD_lt (by rw [hi.size]; exact hlt) false true, h0] at this
    cases this
  ·cases L with
   | cons k L =>
    have := hi.unl k List.mem_cons_self
    rw [hall k (hi.lt k List.mem_cons_self)] at this
    cases this
   | nil =>
    have h : Q' ⟨T, n, H, nx⟩ := by cases m <;> exact h
    have htm : tm = T := by
     funext t
     refine hi.eqv t fun p op hop hp hun => ?_
     rw [hall p (Array.getElem?_eq_some_iff.1 hop).1] at hun
     cases hun
    subst htm
    exact hq _ _ _ C a w h hs hS hdf
 | succ fuel ih =>
  intro listed tm m D L T H nx C a w hi hf hs hS hdf hK h
  refine ⟨?_, ?_⟩
  ·intro hrd
   exfalso
   have hex : ∃ i, i < ops.size ∧ listed.getD i false = false ∧ ∀ j, j < i → listed.getD j false = true := by
    have : ∃ i, i < ops.size ∧ listed.getD i false = false := by
     cases hl : (List.range ops.size).filter fun i => !listed.getD i false with
     | nil => rw [hl] at hf; simp at hf
     | cons i r =>
      have : i ∈ (List.range ops.size).filter fun i => !listed.getD i false := by rw [hl]; exact List.mem_cons_self ..
      obtain ⟨h1, h2⟩ := List.mem_filter.1 this
      exact ⟨i, List.mem_range.1 h1, by simpa using h2⟩
    obtain ⟨i, h1, h2⟩ := this
    induction i using Nat.strongRecOn with
    | _ i ihh =>
     by_cases hm : ∃ j, j < i ∧ listed.getD j false = false
     ·obtain ⟨j, hj1, hj2⟩ := hm
      exact ihh j hj1 (by omega) hj2
     ·refine ⟨i, h1, h2, fun j hj => ?_⟩
      cases hl : listed.getD j false with
      | true => rfl
      | false => exact absurd ⟨j, hj, hl⟩ hm
   obtain ⟨i, hlt, hun, hmin⟩ := hex
   have ho : ops[i]? = some ops[i] := by simp
   have : i ∈ Region.ready .any ops listed := mem_ready.2 ⟨by rw [getD_lt (by rw [hi.size]; exact hlt) true false]; exact hun, _, ho, fun e he hb => hmin _ (hlex i _ ho e.on ⟨e, he, hb, rfl⟩)⟩
   rw [hrd] at this
   cases this
  ·intro i hir
   obtain ⟨h0, o, ho, hall0⟩ := mem_ready.1 hir
   have hlt : i < ops.size := (Array.getElem?_eq_some_iff.1 ho).1
   have hlts : i < listed.size := by rw [hi.size]; exact hlt
   have hun : listed.getD i false = false := by rw [getD_lt hlts false true]; exact h0
   have hall : ∀ j, dep o j → listed.getD j false = true := fun j ⟨e, he, hb, hj⟩ => hj ▸ hall0 e he hb
   have hcount : ((List.range ops.size).filter fun j => !(listed.setIfInBounds i true).getD j false).length = fuel := by
    have key : ∀ (l : List Nat), l.Nodup → i ∈ l → ((l.filter fun j => !(listed.setIfInBounds i true).getD j false).length + 1 = (l.filter fun j => !listed.getD j false).length) := by
     intro l
     induction l with
     | nil => intro _ hm; cases hm
     | cons x l ihl =>
      intro hnd hm
      rw [List.nodup_cons] at hnd
      by_cases e : x = i
      ·subst e
       have hsame : (l.filter fun j => !(listed.setIfInBounds x true).getD j false) = (l.filter fun j => !listed.getD j false) := by
        apply List.filter_congr
        intro y hy
        rw [getD_set_ne false (fun z : x = y => hnd.1 (by rw [z]; exact hy))]
       rw [List.filter_cons, List.filter_cons]
       simp only [getD_set_self hlts, hun, Bool.not_true, Bool.not_false, Bool.false_eq_true, if_false, if_true, List.length_cons, hsame]
      ·have hm' : i ∈ l := by
        cases hm with
        | head => exact absurd rfl e
        | tail _ hm => exact hm
       have := ihl hnd.2 hm'
       rw [List.filter_cons, List.filter_cons, getD_set_ne false (Ne.symm e)]
       split
       ·simp only [List.length_cons]; omega
       ·exact this
    have := key (List.range ops.size) List.nodup_range (List.mem_range.2 hlt)
    omega
   have hdown' : ∀ (k : Nat) (ok : Oper), ops[k]? = some ok → (listed.setIfInBounds i true).getD k false = true → ∀ j, dep ok j → (listed.setIfInBounds i true).getD j false = true := by
    intro k ok hok hk j hj
    apply getD_set_true
    by_cases e : i = k
    ·subst e
     rw [ho] at hok
     cases hok
     exact hall j hj
    ·rw [getD_set_ne false e] at hk
     exact hi.down k ok hok hk j hj
   have hwalk : ∃ m' D' L' T', RInv P ops acts K D' L' listed tm T' n H nx ∧ ((i ∈ D' ∧ OpsR P W0 ops acts K m' L' ⟨T', n, H, nx⟩ Q') ∨ (i ∈ L' ∧ front ops (L'.erase i) i = true ∧ ActStep P W0 ops acts K i ⟨T', n, H, nx⟩ fun s => OpsR P W0 ops acts K m' (L'.erase i) s Q')) := by
    rcases hi.all i hlt with hD | hL
    ·exact ⟨m, D, L, T, hi, .inl ⟨hD, h⟩⟩
    ·exact RInv.find hr hlex hone ho hall m L D T hi h hL
   clear hi h T D L m
   obtain ⟨m, D, L, T, hi, hcase⟩ := hwalk
   have hrd : ∀ t, (t ∈ opTs o ∨ gdst ops o = some t) → tm t = T t := fun t ht => hi.reads hr ho hall ht
   rcases hcase with ⟨hD, h⟩ | ⟨hL, hfr, h⟩
   ·-- one that waits comes up
    obtain ⟨o', ho', hp⟩ := hi.pend i hD hun
    rw [ho] at ho'
    cases ho'
    obtain ⟨p2, val, p3, p4⟩ := hp
    have hds : DStep P W0 ops tm n H nx o val H nx := by
     refine ⟨p2, ?_⟩
     rw [wantsT_congr (tm' := T) (fun d hd => hrd d (.inr hd)), evR_congr (tm' := T) (fun t ht => hrd t (.inl ht))]
     rcases p4 with ⟨q1, q2⟩ | ⟨q1, q2, _⟩
     ·exact .inl ⟨q1, q2, rfl, rfl⟩
     ·exact .inr ⟨q1, .inl ⟨.none, q2, rfl, rfl⟩⟩
    refine hds.wp hs ho ?_
    intro C' v' w' hs' hS'
    refine ih (listed.setIfInBounds i true) (tmPut tm o.dst val) m D L T H nx C' _ w' ⟨by simp [hi.size], hdown', ?_, hi.all, hi.disj, hi.topo, hi.nd, hi.lt, ?_, ?_⟩ hcount hs' (hS.trans hS') ((put_defers _ _ _).trans hdf) hK h
    ·intro j hj
     rw [getD_set_ne false (hi.disj i hD j hj)]
     exact hi.unl j hj
    ·intro p hp hpu
     by_cases e : i = p
     ·subst e
      rw [getD_set_self hlts] at hpu
      cases hpu
     ·rw [getD_set_ne false e] at hpu
      exact hi.pend p hp hpu
    ·intro t ht
     by_cases hdt : o.dst = some t
     ·simp only [tmPut, hdt, if_true]
      exact (p3 t hdt).symm
     ·have hb : tm t = T t := hi.eqv t fun p op hop hp hpu => by
       by_cases e : i = p
       ·subst e
        rw [ho] at hop
        cases hop
        exact hdt
       ·exact ht p op hop hp (by rw [getD_set_ne false e]; exact hpu)
      rw [← hb]
      cases hod : o.dst with
      | none => rfl
      | some d =>
       have : t ≠ d := fun e => hdt (by rw [hod, e])
       simp only [tmPut, this, if_false]
   ·-- one that acts
    obtain ⟨o', ho', hd, hE, h⟩ := h
    rw [ho] at ho'
    cases ho'
    have hdn := dstOk_spec hd
    have hmE : ∀ j ∈ L.erase i, j ∈ L := fun j hj => List.mem_of_mem_erase hj
    have hl : ∀ j ∈ L.erase i, i ≠ j ∧ depD ops i j = false := fun j hj => ⟨fun e => by subst e; exact absurd hj (fun hx => (hi.nd.mem_erase_iff.1 hx).1 rfl), front_iff.1 hfr j hj⟩
    have hnodep : ∀ p ∈ D, listed.getD p false = false → depT ops i p = false := by
     intro p hp hpu
     cases hx : depT ops i p with
     | false => rfl
     | true =>
      have := depT_listed hi.down ho hall hx
      rw [hpu] at this
      cases this
    have hnext : ∀ (v : Value) (H' : Heap) (nx' : Nat) (C' : Corr) (v' : Value) (w' : World), ((H' = H ∧ nx' = nx) ∨ K nx' H') → OpsR P W0 ops acts K m (L.erase i) ⟨tmPut T o.dst v, n, H', nx'⟩ Q' → SRel W0 C' ⟨tmPut tm o.dst v, n, H', nx'⟩ (a.put o.dst v') w' → Stp nx H C nx' H' C' → wpAnyIn (rf ρ) 0 P .any ops Q fuel (listed.setIfInBounds i true) (a.put o.dst v') w' := by
     intro v H' nx' C' v' w' hK' h' hs' hS'
     refine ih (listed.setIfInBounds i true) (tmPut tm o.dst v) m (i :: D) (L.erase i) (tmPut T o.dst v) H' nx' C' _ w' ⟨by simp [hi.size], hdown', ?_, ?_, ?_, ?_, hi.nd.erase i, fun j hj => hi.lt j (hmE j hj), ?_, ?_⟩ hcount hs' (hS.trans hS') ((put_defers _ _ _).trans hdf) (by rcases hK' with ⟨rfl, rfl⟩ | hK'; exact hK; exact hK') h'
     ·intro j hj
      rw [getD_set_ne false (hl j hj).1]
      exact hi.unl j (hmE j hj)
     ·intro j hj
      rcases hi.all j hj with h | h
      ·exact .inl (List.mem_cons_of_mem _ h)
      ·by_cases e : j = i
       ·exact .inl (e ▸ List.mem_cons_self)
       ·exact .inr ((List.mem_erase_of_ne e).2 h)
     ·intro p hp j hj
      rcases List.mem_cons.1 hp with rfl | hp
      ·exact (hl j hj).1
      ·exact hi.disj p hp j (hmE j hj)
     ·intro p hp j hj
      rcases List.mem_cons.1 hp with rfl | hp
      ·exact (hl j hj).2
      ·exact hi.topo p hp j (hmE j hj)
     ·intro p hp hpu
      rcases List.mem_cons.1 hp with rfl | hp
      ·rw [getD_set_self hlts] at hpu
       cases hpu
      ·have hne : i ≠ p := fun e => hi.disj p hp i hL e.symm
       rw [getD_set_ne false hne] at hpu
       obtain ⟨op, hop, hpe⟩ := hi.pend p hp hpu
       refine ⟨op, hop, pend_put hr hone ho hop (Ne.symm hne) (hi.topo p hp i hL) v hmE hL hpe ?_⟩
       rcases hK' with hK' | hK'
       ·exact .inl hK'
       ·exact .inr ⟨hE, hnodep p hp hpu, hK'⟩
     ·intro t ht
      by_cases hdt : o.dst = some t
      ·simp only [tmPut, hdt, if_true]
      ·have hb : tm t = T t := hi.eqv t fun p op hop hp hpu => ht p op hop (List.mem_cons_of_mem _ hp) (by
        have hne : i ≠ p := fun e => hi.disj p hp i hL e.symm
        rw [getD_set_ne false hne]; exact hpu)
       cases hod : o.dst with
       | none => exact hb
       | some d =>
        have : t ≠ d := fun e => hdt (by rw [hod, e])
        simp only [tmPut, this, if_false]
        exact hb
    have hwT : wantsT ops tm o = wants ops ⟨T, n, H, nx⟩ o := by
     rw [wantsT_congr (tm' := T) (fun d hd => hrd d (.inr hd))]
     exact wantsT_wants ⟨T, n, H, nx⟩ o
    have hevT : evR (opTs o) tm = evR (opTs o) T := evR_congr (fun t ht => hrd t (.inl ht))
    rcases h with ⟨hw, h⟩ | ⟨hw, ⟨v, e, hop, hKe, h⟩ | ⟨f, args, R, hc, hf2, hcall, h⟩⟩
    ·have hds : DStep P W0 ops tm n H nx o undef H nx := ⟨hdn, .inl ⟨hwT.trans hw, rfl, rfl, rfl⟩⟩
     exact hds.wp hs ho fun C' v' w' hs' hS' => hnext undef H nx C' v' w' (.inl ⟨rfl, rfl⟩) h hs' hS'
    ·have hds : DStep P W0 ops tm n H nx o v (e.H nx H) (e.nx nx) := ⟨hdn, .inr ⟨hwT.trans hw, .inl ⟨e, by rw [hevT]; exact (aop_evR (st := ⟨T, n, H, nx⟩)).trans hop, rfl, rfl⟩⟩⟩
     exact hds.wp hs ho fun C' v' w' hs' hS' => hnext v _ _ C' v' w' (.inr hKe) h hs' hS'
    ·refine callR_wp hs hdn (hwT.trans hw) (by rw [hevT]; exact (calleeE_congr (st := ⟨T, n, H, nx⟩)).trans hc) hf2 hcall ho ?_
     intro v nx' H' C' v' w' hRv hs' hS'
     obtain ⟨hK', h'⟩ := h v nx' H' hRv
     exact hnext v H' nx' C' v' w' (.inr hK') h' hs' hS'
theorem OpsR.drawn {id : Nat} {st : ASt} {Q : AExit → ASt → Prop} (acts : List Nat) (hm : P.follows .mixedOrders = true) (hs : statOk ops = true) (hr : readsOk ops = true) (perm : List Nat) (hperm : ((List.range ops.size).all perm.contains && perm.all (fun i => decide (i < ops.size)) && decide perm.Nodup) = true) (h0 : K st.nx st.H) (h : OpsR P W0 ops acts K perm.length perm st (Q .normal)) : Trip P W0 (.region id ops true) st Q := by
 obtain ⟨b1, b2, _⟩ := statOk_spec hs
 simp only [Bool.and_eq_true, decide_eq_true_eq] at hperm
 obtain ⟨⟨hp1, hp2⟩, hp3⟩ := hperm
 intro ρ C a w hrr hss
 have hs' : SRel W0 C st a w.drew := ⟨hss.tm, hss.sz, hss.rel.drew⟩
 have hfalse : ∀ i, (Array.replicate ops.size false).getD i false = false := fun i => by
  rw [Array.getD_eq_getD_getElem?, Array.getElem?_replicate]; split <;> rfl
 refine wpIn_region_any hm (opsR_any (P := P) (W0 := W0) (K := K) (n := st.n) (nx0 := st.nx) (H0 := st.H) (C0 := C) (df := a.defers) (Q' := Q .normal) hr b1 b2 (fun T H nx C' a' w' hq hs' hS hdf => ⟨.normal, _, C', rfl, hq, hs', hS, rfl, .of_eq hdf⟩) ops.size (Array.replicate ops.size false) st.tm perm.length [] perm st.tm st.H st.nx C a _ ?_ ?_ hs' (Stp.refl _ _ _) rfl h0 h)
 ·refine ⟨by simp, fun i o _ hl => (by rw [hfalse] at hl; cases hl), fun i _ => hfalse i, fun i hi => .inr ?_, fun p hp => (by cases hp), fun p hp => (by cases hp), hp3, fun i hi => (by have := List.all_eq_true.1 hp2 i hi; simpa using this), fun i hi => (by cases hi), fun t _ => rfl⟩
  have := List.all_eq_true.1 hp1 i (List.mem_range.2 hi)
  simpa using this
 ·have : ((List.range ops.size).filter fun i => !(Array.replicate ops.size false).getD i false) = List.range ops.size := by
   rw [List.filter_eq_self]
   intro i _
   rw [hfalse]; rfl
  rw [this, List.length_range]
theorem OpsR.nil {m : Nat} {st : ASt} {Q : ASt → Prop} (h : Q st) : OpsR P W0 ops acts K m [] st Q := by cases m <;> exact h
theorem OpsR.one {m i : Nat} {l : List Nat} {o : Oper} {st : ASt} {Q : ASt → Prop} (ho : ops[i]? = some o) (hn : acts.contains i = false) (he : effOp o.op = false) (hk : (front ops l i && edgeR ops acts i o l) = true) (h : OpsL P W0 ops [o] st fun s => OpsR P W0 ops acts K m l s Q) : OpsR P W0 ops acts K (m + 1) (i :: l) st Q := by
 rw [Bool.and_eq_true] at hk
 obtain ⟨hd, h⟩ := h
 refine .inl ⟨hn, hk.1, o, ho, hd, ?_⟩
 rcases h with ⟨hw, h⟩ | ⟨hw, ⟨v, e, hop, h⟩ | ⟨f, args, R, hc, _⟩⟩
 ·exact .inl ⟨hw, h⟩
 ·have := effOp_none he hop
  subst this
  exact .inr ⟨hw, v, hop, .inl hk.2, h⟩
 ·have := goCall_eff (callee_goCall hc)
  rw [he] at this
  cases this
theorem OpsR.sp {m i : Nat} {l : List Nat} {d : Tmp} {op : Op} {type : TypeId} {pos : String} {after : Array Edge} {tm : Nat → Value} {n nx : Nat} {H : Heap} {v : Value} {Q : ASt → Prop} (ho : ops[i]? = some ⟨some d, op, type, pos, after, none⟩) (he : (!acts.contains i && front ops l i) = true) (hd : d < n) (hK : K nx H)
  (hop : ∀ H' nx', K nx' H' → aop P H' nx' (ASt.ev ⟨tm, n, H, nx⟩) ⟨some d, op, type, pos, after, none⟩ = some (v, .none)) (h : OpsR P W0 ops acts K m l ⟨tmPut tm (some d) v, n, H, nx⟩ Q) : OpsR P W0 ops acts K (m + 1) (i :: l) ⟨tm, n, H, nx⟩ Q := by
 simp only [Bool.and_eq_true, Bool.not_eq_true'] at he
 exact .inl ⟨he.1, he.2, _, ho, by simp [dstOk, hd], .inr ⟨rfl, v, hop H nx hK, .inr hop, h⟩⟩
def waitAll (ops : Array Oper) (l all : List Nat) : Bool := l.all fun j => (all.erase j).any fun k => depD ops j k
theorem waitAll_spec {l all : List Nat} (h : waitAll ops l all = true) {j : Nat} (hj : j ∈ l) : front ops (all.erase j) j = false := by
 unfold waitAll at h
 rw [List.all_eq_true] at h
 have := h j hj
 rw [List.any_eq_true] at this
 obtain ⟨k, hk, hd⟩ := this
 cases hf : front ops (all.erase j) j with
 | false => rfl
 | true => rw [front_iff.1 hf k hk] at hd; cases hd
theorem OpsR.act {m i : Nat} {l : List Nat} {st : ASt} {Q : ASt → Prop} (hw : waitAll ops l (i :: l) = true) (h : ActStep P W0 ops acts K i st fun s => OpsR P W0 ops acts K m l s Q) : OpsR P W0 ops acts K (m + 1) (i :: l) st Q := by
 refine .inr fun j hj hf => ?_
 by_cases e : j = i
 ·subst e
  rw [List.erase_cons_head]
  exact h
 ·have hj2 : j ∈ l := by
   rcases List.mem_cons.1 hj with h | h
   ·exact absurd h e
   ·exact h
  rw [waitAll_spec hw hj2] at hf
  cases hf
theorem OpsR.act2 {m i k : Nat} {l : List Nat} {st : ASt} {Q : ASt → Prop} (hw : (waitAll ops l (i :: k :: l) && !Nat.beq i k) = true) (h1 : ActStep P W0 ops acts K i st fun s => OpsR P W0 ops acts K m (k :: l) s Q) (h2 : ActStep P W0 ops acts K k st fun s => OpsR P W0 ops acts K m (i :: l) s Q) : OpsR P W0 ops acts K (m + 1) (i :: k :: l) st Q := by
 simp only [Bool.and_eq_true, Bool.not_eq_true'] at hw
 have hne : k ≠ i := fun e => by have := hw.2; rw [e] at this; simp at this
 refine .inr fun j hj hf => ?_
 by_cases e : j = i
 ·subst e
  rw [List.erase_cons_head]
  exact h1
 ·by_cases e2 : j = k
  ·subst e2
   rw [List.erase_cons_tail (by simpa using Ne.symm hne), List.erase_cons_head]
   exact h2
  ·have hj2 : j ∈ l := by
    rcases List.mem_cons.1 hj with h | h
    ·exact absurd h e
    ·rcases List.mem_cons.1 h with h | h
     ·exact absurd h e2
     ·exact h
   rw [waitAll_spec hw.1 hj2] at hf
   cases hf
section
variable {i : Nat} {d : Tmp} {ts : Array TypeId} {type : TypeId} {pos : String} {after : Array Edge} {tm : Nat → Value} {n nx : Nat} {H : Heap} {f : FuncId} {R : Value → Nat → Heap → Prop} {N : ASt → Prop}
theorem ActStep.call1 {c x : Operand} {a : Value} (ho : ops[i]? = some ⟨some d, .call ⟨.value c, #[x], ts⟩, type, pos, after, none⟩) (he : acts.contains i = true) (hd : d < n) (hf' : ASt.ev ⟨tm, n, H, nx⟩ c = some (.func (.func f) #[] #[])) (hx : ASt.ev ⟨tm, n, H, nx⟩ x = some a) (hf : Enters P f) (hcall : ACalls P W0 f [a] nx H R)
  (h : ∀ v nx' H', R v nx' H' → K nx' H' ∧ N ⟨tmPut tm (some d) v, n, H', nx'⟩) : ActStep P W0 ops acts K i ⟨tm, n, H, nx⟩ N :=
 ⟨_, ho, by simp [dstOk, hd], he, .inr ⟨rfl, .inr ⟨f, [a], R, by simp [callee, hf', evAll, hx], hf, hcall, h⟩⟩⟩
theorem ActStep.call2 {c x y : Operand} {a b : Value} (ho : ops[i]? = some ⟨some d, .call ⟨.value c, #[x, y], ts⟩, type, pos, after, none⟩) (he : acts.contains i = true) (hd : d < n) (hf' : ASt.ev ⟨tm, n, H, nx⟩ c = some (.func (.func f) #[] #[])) (hx : ASt.ev ⟨tm, n, H, nx⟩ x = some a) (hy : ASt.ev ⟨tm, n, H, nx⟩ y = some b) (hf : Enters P f) (hcall : ACalls P W0 f [a, b] nx H R)
  (h : ∀ v nx' H', R v nx' H' → K nx' H' ∧ N ⟨tmPut tm (some d) v, n, H', nx'⟩) : ActStep P W0 ops acts K i ⟨tm, n, H, nx⟩ N :=
 ⟨_, ho, by simp [dstOk, hd], he, .inr ⟨rfl, .inr ⟨f, [a, b], R, by simp [callee, hf', evAll, hx, hy], hf, hcall, h⟩⟩⟩
end
end
end Go.Am
namespace Go.Am
set_option linter.unusedSimpArgs false
set_option linter.unusedVariables false
open Go.RowKit Go.ChangeShapes Go.WideShapes Go.ChangeAt
section
variable {H : Type} {enc : TypeId × Value → H} {P : Program} {W W' : World}
theorem trodAll_stays (hl : laidOutB P = true) (hb : BelD W.heap.size W W') : ∀ (ts : List TypeId) (vs : List Value) (ds : List (DataW H)) (ps : List MemPlace), (ts.all fun t => P.readableRec t && decide (t < P.types.size)) = true →
  DataW.TrodAll enc P W 0 (fun _ => true) true ts vs ds ps → (∀ x ∈ ps, x.block < W.heap.size) → DataW.TrodAll enc P W' 0 (fun b => decide (b < W.heap.size)) true ts vs ds ps := by
 intro ts
 induction ts with
 | nil =>
  intro vs ds ps _ h _
  cases vs <;> cases ds <;> first | exact h | exact h.elim
 | cons t ts ih =>
  intro vs ds ps hr h hlt
  simp only [List.all_cons, Bool.and_eq_true, decide_eq_true_eq] at hr
  obtain ⟨v, vs', d, ds', p, q, rfl, rfl, rfl, h0, h1⟩ := trodAll_cons h
  exact trodAll_cons_mk (Below.trod hl hr.1.1 hr.1.2 h0 hb.toB (fun x hx => hlt x (List.mem_append.2 (.inl hx)))) (ih vs' ds' q hr.2 h1 (fun x hx => hlt x (List.mem_append.2 (.inr hx))))
theorem law_post {f : Func} {s : ChangeSpec} {t : TypeId} {args : Array Value} {ds gs : List (DataW H)} {before : List MemPlace} (hl : laidOutB P = true) (hr : (f.params.toList.all fun t => P.readableRec t && decide (t < P.types.size)) = true)
  (hrt : f.resultTypes = #[t]) (ht : P.underlying t = some .bool) (hvars : s.vars = []) (hW : DataW.Whole enc P f.params.toList s.vars false W args.toList ds gs before)
  (hspec : s.fn H (ds ++ gs) = { results := [.lit (.bool true)], args := ds }) (hb : BelD W.heap.size W W') : s.post enc P f false true false false W args (.bool true) W' := by
 have hW' := hW
 obtain ⟨p, q, hA, hV, rfl, _, _⟩ := hW
 have hlt : ∀ x ∈ p, x.block < W.heap.size := fun x hx => hW'.lt x (List.mem_append.2 (.inl hx))
 rw [hvars] at hV
 obtain ⟨rfl, rfl⟩ := trodVars_none hV
 refine ⟨ds, [], _, [], p, [], hW', ?_, ?_, ?_, hb.toB.frame _, fun h => by cases h⟩
 ·rw [hspec, hrt]
  exact trodAll_mk1 (shut_bool ht _)
 ·rw [hspec]
  exact trodAll_stays hl hb _ _ _ _ hr hA hlt
 ·rw [hspec, hvars]; rfl
end
end Go.Am
namespace Go.Am
set_option linter.unusedSimpArgs false
set_option linter.unusedVariables false
open Go.RowKit Go.ChangeShapes Go.WideShapes Go.ChangeAt
inductive Arg where
 | plain (v : Value)
 | ints (k : IntKind) (xs : List Int)
def NumsAt (H : Heap) (k : IntKind) (v : Value) (xs : List Int) : Prop :=
 (∃ c, v = .slice none 0 c ∧ xs = []) ∨ ∃ a c, v = .slice (some a) xs.length c ∧ ∀ (i : Nat) (h : i < xs.length), cellAt H ⟨a.block, a.off + i, a.spot⟩ (.int k xs[i])
def RowIn (H : Heap) (v : Value) : Prop := v = .slice none 0 0 ∨ ∃ k n c cs, v = .slice (some ⟨k, 0, none⟩) n c ∧ H k = some (.cells cs 1 none true none) ∧ cs.length = c ∧ n ≤ c
def Arg.came (W : World) : Arg → Value → Prop
 | .plain u, v => v = u ∧ plain1 u = true
 | .ints k xs, v => (v = .slice none 0 0 ∧ xs = []) ∨ ∃ (b off len cap : Nat) (zs : List Int) (Cc : Array Value) (el : TypeId) (fr : Nat × Nat), v = .slice (some ⟨b, off, none⟩) len cap ∧ len ≤ cap ∧ zs.length = cap ∧ xs = zs.take len ∧
   W.heap[b]? = some (.cells Cc el fr) ∧ off + cap ≤ Cc.size ∧ ∀ i, i < cap → Cc[off + i]? = some (.int k (zs.getD i 0))
def Arg.at (H : Heap) : Arg → Value → Prop
 | .plain u, v => v = u
 | .ints k xs, v => NumsAt H k v xs ∧ RowIn H v
def All2 {α β : Type} (R : α → β → Prop) : List α → List β → Prop
 | [], [] => True
 | a :: l, b :: l' => R a b ∧ All2 R l l'
 | _, _ => False
theorem All2.cons {α β : Type} {R : α → β → Prop} {a : α} {l : List α} {us : List β} (h : All2 R (a :: l) us) : ∃ b us', us = b :: us' ∧ R a b ∧ All2 R l us' := by
 cases us with
 | nil => exact h.elim
 | cons b us => exact ⟨b, us, rfl, h.1, h.2⟩
theorem All2.nil {α β : Type} {R : α → β → Prop} {us : List β} (h : All2 R [] us) : us = [] := by
 cases us with
 | nil => rfl
 | cons b us => exact h.elim
section
variable {P : Program} {W0 : World} {C : Corr} {nx : Nat} {H : Heap} {w : World}
theorem Rel.read (h : Rel W0 C nx H w) (hpn : ∀ k, C.pin k = none) (hro : ∀ id o, H id = some o → o.ro = true) {c : List Value} {b off : Nat} {Cc : Array Value} {el : TypeId} {fr : Nat × Nat} (hw : w.heap[b]? = some (.cells Cc el fr)) (hle : off + c.length ≤ Cc.size)
  (hp : c.all plain1 = true) (hc : ∀ i, i < c.length → Cc[off + i]? = c[i]?) :
  Rel W0 (C.put nx (b, off) Cc.size) (nx + 1) (H.put nx (.cells c 1 none true none)) w ∧ Stp nx H C (nx + 1) (H.put nx (.cells c 1 none true none)) (C.put nx (b, off) Cc.size) := by
 have hst : Stp nx H C (nx + 1) (H.put nx (.cells c 1 none true none)) (C.put nx (b, off) Cc.size) := ⟨⟨by omega, fun id o' hid ho' ht => by
  have : id ≠ nx := by omega
  simp only [Heap.put, this, if_false] at ho'
  exact ⟨o', ho', rfl, rfl, by simp [Corr.put, this], by simp [Corr.put, this]⟩⟩, fun _ _ x => x, fun id hid hl => by
  have : id ≠ nx := by omega
  simp only [Heap.put, this, if_false]
  exact ⟨hl, by simp [Corr.put, this]⟩⟩
 have hro' : ∀ id o, (H.put nx (.cells c 1 none true none)) id = some o → o.ro = true := by
  intro id o ho
  by_cases e : id = nx
  ·simp only [Heap.put, e, if_true, Option.some.injEq] at ho; subst ho; rfl
  ·simp only [Heap.put, e, if_false] at ho; exact hro id o ho
 refine ⟨⟨h.below, ?_, ?_, ?_, ?_, h.pin, Nat.le_succ_of_le h.base, fun g og hg hog => ?_, fun _ _ _ => hpn _⟩, hst⟩
 ·intro id o' ho'
  by_cases e : id = nx
  ·subst e
   simp only [Heap.put, if_true, Option.some.injEq] at ho'
   subst ho'
   exact ⟨by omega, fun t ht => by cases ht⟩
  ·simp only [Heap.put, e, if_false] at ho'
   obtain ⟨a, b⟩ := h.lt id o' ho'
   exact ⟨by omega, fun t ht => by have := b t ht; omega⟩
 ·intro id o' ho'
  by_cases e : id = nx
  ·subst e
   simp only [Heap.put, if_true, Option.some.injEq] at ho'
   subst ho'
   refine ⟨Cc, el, fr, by simpa [Corr.put] using hw, by simp [Corr.put], by simpa [Corr.put] using hle, ?_, ⟨fun hh => (by cases hh), fun t ht => (by cases ht), fun hh => (by cases hh), fun hh => (by cases hh)⟩⟩
   intro i hi hi'
   simp only [Corr.put, if_true] at hi' ⊢
   have := hc i hi
   rw [Array.getElem?_eq_getElem hi', List.getElem?_eq_getElem hi, Option.some.injEq] at this
   rw [this]
   exact plain1_VR (List.all_eq_true.1 hp _ (List.getElem_mem hi))
  ·simp only [Heap.put, e, if_false] at ho'
   exact (h.obj id o' ho').mono hst (by simp [Corr.put, e]) (by simp [Corr.put, e]) rfl
 ·intro id o' ho' hh
  rw [hro' id o' ho'] at hh; cases hh
 ·intro i j oi oj hi _ _ hh
  rw [hro' i oi hi] at hh; cases hh
 ·have e : g ≠ nx := by have := h.base; omega
  simp only [Heap.put, e, if_false] at hog
  simpa [Corr.put, e] using h.glob g og hg hog
theorem NumsAt.mono {H' : Heap} {k : IntKind} {v : Value} {xs : List Int} (hh : ∀ id o, H id = some o → H' id = some o) (h : NumsAt H k v xs) : NumsAt H' k v xs := by
 rcases h with h | ⟨a, c, rfl, h⟩
 ·exact .inl h
 ·refine .inr ⟨a, c, rfl, fun i hi => ?_⟩
  have h1 := h i hi
  obtain ⟨o, ho⟩ := getc_some h1
  unfold cellAt getc at *
  rw [hh _ _ ho]
  rw [ho] at h1
  exact h1
theorem Arg.at_mono {H' : Heap} (hh : ∀ id o, H id = some o → H' id = some o) : ∀ {a : Arg} {v : Value}, a.at H v → a.at H' v := by
 intro a v h
 cases a with
 | plain u => exact h
 | ints k xs =>
  refine ⟨h.1.mono hh, ?_⟩
  rcases h.2 with h | ⟨k, n, c, cs, h1, h2, h3⟩
  ·exact .inl h
  ·exact .inr ⟨k, n, c, cs, h1, hh _ _ h2, h3⟩
theorem All2.at_mono {H' : Heap} (hh : ∀ id o, H id = some o → H' id = some o) : ∀ {aas : List Arg} {vs : List Value}, All2 (Arg.at H) aas vs → All2 (Arg.at H') aas vs := by
 intro aas
 induction aas with
 | nil => intro vs h; cases vs <;> first | trivial | exact h.elim
 | cons a aas ih =>
  intro vs h
  cases vs with
  | nil => exact h.elim
  | cons v vs => exact ⟨Arg.at_mono hh h.1, ih h.2⟩
theorem start {T : Tables} (W : World) (hT : Tabs T W) : ∀ (aas : List Arg) (vs : List Value), All2 (Arg.came W) aas vs → ∃ nx H C us, Rel W C nx H W ∧ VRs nx H C us vs ∧ All2 (Arg.at H) aas us ∧ (∀ id o, H id = some o → o.ro = true) ∧ (∀ k, C.pin k = none) ∧ ∀ g o, (tabTree T).get g = some o → H g = some o := by
 intro aas
 induction aas with
 | nil =>
  intro vs h
  cases vs with
  | nil => exact ⟨NG, (tabTree T).get, Corr.tab W, [], Rel.tabs hT (BelD.refl _ _), VRs.nil, trivial, fun _ _ h => (by obtain ⟨c, _, rfl⟩ := tabTree_get h; rfl), fun _ => rfl, fun _ _ h => h⟩
  | cons => exact h.elim
 | cons a aas ih =>
  intro vs h
  cases vs with
  | nil => exact h.elim
  | cons v vs =>
   obtain ⟨nx, H, C, us, hR, hV, hA, hro, hpn, htb⟩ := ih vs h.2
   have hlt := fun id o (ho : H id = some o) => (hR.lt id o ho).1
   have h1 := h.1
   cases a with
   | plain u =>
    obtain ⟨rfl, hp⟩ := h1
    exact ⟨nx, H, C, v :: us, hR, VRs.cons (plain1_VR hp) hV, ⟨rfl, hA⟩, hro, hpn, htb⟩
   | ints k xs =>
    rcases h1 with ⟨rfl, rfl⟩ | ⟨b, off, len, cap, zs, Cc, el, fr, rfl, hlc, hz, rfl, hw, hle, hc⟩
    ·exact ⟨nx, H, C, .slice none 0 0 :: us, hR, VRs.cons (.nils _ _) hV, ⟨⟨.inl ⟨0, rfl, rfl⟩, .inl rfl⟩, hA⟩, hro, hpn, htb⟩
    ·obtain ⟨hR', hS⟩ := hR.read hpn hro (c := zs.map (.int k ·)) hw (by simpa [hz] using hle) (by simp [plain1]) (fun i hi => by
      simp only [List.length_map, hz] at hi
      rw [hc i hi, List.getElem?_map, List.getElem?_eq_getElem (by omega)]
      simp [List.getD_eq_getElem?_getD, List.getElem?_eq_getElem (show i < zs.length by omega)])
     have hext : ∀ id o, H id = some o → (H.put nx (.cells (zs.map (.int k ·)) 1 none true none)) id = some o := fun id o ho => by
      have : id ≠ nx := by have := hlt id o ho; omega
      simp only [Heap.put, this, if_false]; exact ho
     refine ⟨nx + 1, _, _, .slice (some ⟨nx, 0, none⟩) len cap :: us, hR', VRs.cons ?_ (hV.mono hS), ⟨⟨.inr ⟨⟨nx, 0, none⟩, cap, by simp [hz]; omega, ?_⟩, .inr ⟨nx, len, cap, zs.map (.int k ·), rfl, by simp [Heap.put], by simpa using hz, hlc⟩⟩, hA.at_mono hext⟩, ?_, hpn, fun g o hg => hext g o (htb g o hg)⟩
     ·exact .slc _ _ _ _ _ ⟨by simp, by simp⟩ (fun o ho _ => ⟨by simp [Corr.at, Corr.put], by simp [capOk]⟩)
     ·intro i hi
      simp only [List.length_take, hz] at hi
      have hi' : i < zs.length := by omega
      simp [cellAt, getc, Heap.put, hi', List.getElem_take]
      refine ⟨by omega, ?_⟩
      rw [← List.map_drop, ← List.map_take, List.take_one, List.head?_drop, List.getElem?_eq_getElem hi']
      rfl
     ·intro id o ho
      by_cases e : id = nx
      ·simp only [Heap.put, e, if_true, Option.some.injEq] at ho; subst ho; rfl
      ·simp only [Heap.put, e, if_false] at ho; exact hro id o ho
theorem law_callsT {T : Tables} {f : FuncId} {ars : List Arg} {vs : List Value} {W : World} (hT : Tabs T W) (hc : All2 (Arg.came W) ars vs)
  (h : ∀ nx H us, All2 (Arg.at H) ars us → (∀ id o, H id = some o → id < nx) → (∀ g o, (tabTree T).get g = some o → H g = some o) → ACalls P W f us nx H fun v _ _ => v = .bool true) :
  Calls P f vs.toArray W fun e w' => e = .returned (.bool true) ∧ BelD W.heap.size W w' := by
 obtain ⟨nx, H, C, us, hR, hV, hA, _, _, htb⟩ := start W hT ars vs hc
 refine (h nx H us hA (fun id o ho => (hR.lt id o ho).1) htb C W vs hR hV).mono ?_
 rintro e w' ⟨v, v', C', nx', H', rfl, rfl, hR', hv, _⟩
 cases hv
 exact ⟨rfl, hR'.below⟩
theorem law_calls {f : FuncId} {ars : List Arg} {vs : List Value} {W : World} (hc : All2 (Arg.came W) ars vs) (h : ∀ nx H us, All2 (Arg.at H) ars us → (∀ id o, H id = some o → id < nx) → ACalls P W f us nx H fun v _ _ => v = .bool true) :
  Calls P f vs.toArray W fun e w' => e = .returned (.bool true) ∧ BelD W.heap.size W w' :=
 law_callsT Tabs.nil hc fun nx H us h1 h2 _ => h nx H us h1 h2
theorem rowAt_le {fits : TypeId → Bool} : ∀ (d : Nat) (e : TypeId) (count off n : Nat), rowAt P fits d e count off n = true → P.cellsOf e ≠ 0 ∧ off ≤ count * P.cellsOf e := by
 intro d
 cases d with
 | zero => intro e count off n h; cases h
 | succ d =>
  intro e count off n h
  simp only [rowAt] at h
  split at h
  ·cases h
  ·rename_i hs
   refine ⟨hs, ?_⟩
   have hd := Nat.div_add_mod off (P.cellsOf e)
   simp only [Bool.or_eq_true, Bool.and_eq_true, beq_iff_eq, decide_eq_true_eq] at h
   rcases h with ⟨⟨h1, h2⟩, _⟩ | ⟨h1, _⟩
   ·have := Nat.mul_le_mul_right (P.cellsOf e) (show off / P.cellsOf e ≤ count by omega)
    rw [h1, Nat.mul_comm] at hd
    omega
   ·have := Nat.mul_le_mul_right (P.cellsOf e) (show off / P.cellsOf e + 1 ≤ count by omega)
    have hm := Nat.mod_lt off (Nat.pos_of_ne_zero hs)
    rw [Nat.add_mul, Nat.mul_comm (off / _)] at this
    omega
theorem liesAt_le : ∀ (d : Nat) (e : TypeId) (count off : Nat) (u : TypeId) (n : Nat), liesAt P d e count off u n = true → off ≤ count * P.cellsOf e := by
 intro d
 induction d with
 | zero => intro e count off u n h; cases h
 | succ d ih =>
  intro e count off u n h
  simp only [liesAt, Bool.or_eq_true] at h
  rcases h with h | h
  ·exact (rowAt_le _ _ _ _ _ h).2
  ·split at h
   ·exact ih _ _ _ _ _ h
   ·cases h
variable {E : Type} {enc : TypeId × Value → E} {W : World}
theorem came_ints {t e : TypeId} {k : IntKind} {r : Reach} {b0 : Nat} {v : Value} {d : DataW E} {ps : List MemPlace} (ht : P.underlying t = some (.slice e)) (he : P.underlying e = some (.int k)) (hc : P.cellsOf e = 1)
  (hval : Value.okWide P W r b0 t v) (h : DataW.Trod enc P W 0 (fun _ => true) true t v d ps) : ∃ xs, Arg.came W (.ints k xs) v ∧ ∀ x ∈ xs, (Lit.int k x).wf = true := by
 obtain ⟨a0, len0, cap0, rfl⟩ := okWide_slice ht hval
 obtain ⟨fuel, hf⟩ := h
 simp only [Value.okWide, ht, Cell.okWide] at hval
 rcases open_ints ht he hc hf with ⟨h1, _⟩ | ⟨a, len, cap, zs, h1, _, hle, hmax, hz, hx, hcell, hwf⟩
 ·simp [Value.cells] at h1
  obtain ⟨rfl, rfl, rfl⟩ := h1
  exact ⟨[], .inl ⟨rfl, rfl⟩, fun x hx => by cases hx⟩
 ·simp [Value.cells] at h1
  obtain ⟨rfl, rfl, rfl⟩ := h1
  simp only [if_true] at hz
  have hok : len0 ≤ cap0 ∧ (cap0 : Int) ≤ IntKind.i64.max ∧ W.has P r b0 a e cap0 := by
   simpa [Cell.ok, ht] using hval
  obtain ⟨_, _, _, hsp, row, cells, hsh, hlies⟩ := hok
  obtain ⟨b, off, sp⟩ := a
  simp only at hsp
  subst hsp
  simp only [World.shape?] at hsh
  split at hsh
  case h_2 => cases hsh
  rename_i Cc el fr hw
  simp only [Option.some.injEq, Prod.mk.injEq] at hsh
  obtain ⟨rfl, rfl⟩ := hsh
  have hoff : off ≤ Cc.size := by
   have h1 := liesAt_le _ _ _ _ _ _ hlies
   have h2 := Nat.div_mul_le_self Cc.size (P.cellsOf el)
   exact Nat.le_trans h1 h2
  have hcells : ∀ i, i < cap0 → Cc[off + i]? = some (.int k (zs.getD i 0)) := fun i hi => by
   have := hcell i (by omega)
   simpa [add_none, World.cell?, hw] using this
  have hle2 : off + cap0 ≤ Cc.size := by
   rcases Nat.eq_zero_or_pos cap0 with h0 | h0
   ·omega
   ·have := hcells (cap0 - 1) (by omega)
    have := (Array.getElem?_eq_some_iff.1 this).1
    omega
  exact ⟨zs.take len0, .inr ⟨b, off, len0, cap0, zs, Cc, el, fr, rfl, hle, hz, rfl, hw, hle2, hcells⟩, fun x hx => hwf x (List.mem_of_mem_take hx)⟩
end
end Go.Am
