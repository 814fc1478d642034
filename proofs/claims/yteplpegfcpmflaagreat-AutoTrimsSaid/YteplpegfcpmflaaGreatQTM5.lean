import Derived.Test.YteplpegfcpmflaaGreatQTM4
set_option linter.unusedSimpArgs false
set_option linter.unusedVariables false
set_option maxRecDepth 100000
set_option maxHeartbeats 64000000
namespace Go.Am
open Go.RowKit
section
variable {P : Program} {W0 : World} {ev : Operand → Option Value} {H : Heap} {nx n : Nat} {dst : Option Tmp} {type : TypeId} {pos : String} {after : Array Edge} {guard : Option (Nat × Bool)}
theorem zy {t : TypeId} {ps : Array (Nat × Operand)} {l : List (Nat × Value)} {v : Value} (hl : zt ev ps.toList = some l) (hb : zaF P t l = some v) :
  aop P H nx ev ⟨dst, .build t ps, type, pos, after, guard⟩ = some (v, .none) := by simp [aop, hl, hb]
theorem zl {t : TypeId} {len : Nat} {ps : Array (Nat × Operand)} {l : List (Nat × Value)} {r : Value × Eff} (hl : zt ev ps.toList = some l) (hb : z2B P nx t len l = some r) :
  aop P H nx ev ⟨dst, .buildSlice t len ps, type, pos, after, guard⟩ = some r := by simp [aop, hl, hb]
theorem zS {t : TypeId} {x : Operand} {lo hi mx : Option Operand} {v r : Value} {a b c : Option Value} (hx : ev x = some v) (ha : z0G ev lo = some a) (hb : z0G ev hi = some b) (hc : z0G ev mx = some c) (h : z0P P H t v a b c = some r) :
  aop P H nx ev ⟨dst, .slice t x lo hi mx, type, pos, after, guard⟩ = some (r, .none) := by simp [aop, hx, ha, hb, hc, h]
theorem z1I {t : TypeId} {l c : Operand} {a b : Value} {r : Value × Eff} (hl : ev l = some a) (hc : ev c = some b) (h : z2p P nx t a b = some r) :
  aop P H nx ev ⟨dst, .makeSlice t l c, type, pos, after, guard⟩ = some r := by simp [aop, hl, hc, h]
theorem zdV {a : Addr} {cs : List Value} {e : Nat} {q : Option TypeId} {v : Value} (hH : H a.block = some (.cells cs e a.spot false q)) (h : a.off < cs.length) (h1 : v.oneCell' = true) : z3Q H a [v] = some (.cells (cs.set a.off v) e a.spot false q) := by
 unfold z3Q;rw [hH];simp only [List.length_cons, List.length_nil, List.all_cons, List.all_nil, h1, Bool.and_self, and_true, true_and];rw [if_pos (by omega), List.set_eq_take_append_cons_drop, if_pos h];simp
theorem z2n {b off : Nat} {t : Option Nat} {cs : List Value} {e : Nat} {ro : Bool} {q : Option TypeId} (hH : H b = some (.cells cs e t ro q)) (h : off < cs.length) : zb H ⟨b, off, t⟩ cs[off] := by
 unfold zb z0L;simp only [hH];rw [if_pos ⟨trivial, by omega⟩, List.take_one, List.head?_drop, List.getElem?_eq_getElem h];rfl
variable {ops : Array Oper} {l : List Oper} {tm : Nat → Value} {QQ : ASt → Prop}
theorem zau {t : TypeId} {x y : Operand} {a : Addr} {v : Value} {cs : List Value} {e : Nat} {q : Option TypeId} (hx : ASt.ev ⟨tm, n, H, nx⟩ x = some (.pointer (some a))) (hy : ASt.ev ⟨tm, n, H, nx⟩ y = some v) (hz : z1r P t = some 1) (hv : v.cells = #[v]) (h1 : v.oneCell' = true)
  (hH : H a.block = some (.cells cs e a.spot false q)) (hlt : a.off < cs.length) (h : OpsL P W0 ops l ⟨tm, n, H.put a.block (.cells (cs.set a.off v) e a.spot false q), nx⟩ QQ) :
  OpsL P W0 ops (⟨none, .store t x y, type, pos, after, none⟩ :: l) ⟨tm, n, H, nx⟩ QQ :=
 OpsL.upd (zp hx hy hz (by rw [hv]; rfl) (by rw [hv]; exact zdV hH hlt h1)) h
theorem NumsAt.own {b : Nat} {t : Option Nat} {xs : List Int} {rest : List Value} {e c : Nat} {ro : Bool} {q : Option TypeId} (hH : H b = some (.cells (xs.map (.int .i64 ·) ++ rest) e t ro q)) : IntsAt H (.slice (some ⟨b, 0, t⟩) xs.length c) xs := by
 refine .inr ⟨⟨b, 0, t⟩, c, rfl, fun i hi => ?_⟩;have := z2n (off := 0 + i) hH (by simp; omega);simpa [List.getElem_append_left, hi] using this
theorem OwnInts.at {ob : Option (Nat × Nat)} {el : TypeId} {v : Value} {xs : List Int} (h : OwnInts H ob el v xs) : IntsAt H v xs := by
 cases ob with
 | none =>
  obtain ⟨rfl, h1, _⟩ := h;exact .inl ⟨0, rfl, by simpa using h1⟩
 | some bt =>
  obtain ⟨b, t⟩ := bt;obtain ⟨rfl, _, rest, ho⟩ := h;exact NumsAt.own ho
def Ext (nx : Nat) (H : Heap) (nx' : Nat) (H' : Heap) : Prop := nx ≤ nx' ∧ ∀ i, i < nx → H' i = H i
theorem Ext.refl : Ext nx H nx H := ⟨Nat.le_refl _, fun _ _ => rfl⟩
theorem Ext.trans {nx1 nx2 : Nat} {H1 H2 : Heap} (h : Ext nx H nx1 H1) (k : Ext nx1 H1 nx2 H2) : Ext nx H nx2 H2 := ⟨Nat.le_trans h.1 k.1, fun i hi => by rw [k.2 i (Nat.lt_of_lt_of_le hi h.1), h.2 i hi]⟩
theorem Ext.put {nx1 k : Nat} {H1 : Heap} {o : AObj} (h : Ext nx H nx1 H1) (hk : nx ≤ k) : Ext nx H nx1 (H1.put k o) := ⟨h.1, fun i hi => by rw [z5 (by omega), h.2 i hi]⟩
theorem Ext.up {nx1 nx2 : Nat} {H1 : Heap} (h : Ext nx H nx1 H1) (hk : nx1 ≤ nx2) : Ext nx H nx2 H1 := ⟨Nat.le_trans h.1 hk, h.2⟩
theorem z0W {nx' : Nat} {H' : Heap} (h : Ext nx H nx' H') {a : Addr} {m : Nat} {vs : List Value} (hok : ∀ id o, H id = some o → id < nx) (hg : z0L H a m = some vs) : z0L H' a m = some vs := by
 obtain ⟨o, ho⟩ := z62 hg;unfold z0L at *;rw [h.2 _ (hok _ _ ho)];exact hg
theorem IntsAt.ext {nx' : Nat} {H' : Heap} {v : Value} {xs : List Int} (h : Ext nx H nx' H') (hok : ∀ id o, H id = some o → id < nx) (hi : IntsAt H v xs) : IntsAt H' v xs := by
 rcases hi with hi | ⟨a, c, rfl, hi⟩
 ·exact .inl hi
 ·exact .inr ⟨a, c, rfl, fun i q => z0W h hok (hi i q)⟩
theorem z89 {ob : Option (Nat × Nat)} {el : TypeId} {sz k j : Nat} {v : Value} {cs : List Value} {o : AObj} (h : OwnRow H ob el sz v cs k) (hne : ∀ b t, ob = some (b, t) → b ≠ j) : OwnRow (H.put j o) ob el sz v cs k := by
 cases ob with
 | none => exact h
 | some bt =>
  obtain ⟨b, t⟩ := bt;obtain ⟨h1, h2, rest, h3⟩ := h;exact ⟨h1, h2, rest, by rw [z5 (hne b t rfl)]; exact h3⟩
theorem OwnRow.ext {nx' : Nat} {H' : Heap} {ob : Option (Nat × Nat)} {el : TypeId} {sz k : Nat} {v : Value} {cs : List Value} (hx : Ext nx H nx' H') (hlt : ∀ b t, ob = some (b, t) → b < nx) (h : OwnRow H ob el sz v cs k) : OwnRow H' ob el sz v cs k := by
 cases ob with
 | none => exact h
 | some bt =>
  obtain ⟨b, t⟩ := bt;obtain ⟨h1, h2, rest, h3⟩ := h;exact ⟨h1, h2, rest, by rw [hx.2 _ (hlt b t rfl)]; exact h3⟩
theorem z1u {d1 d2 dy : Tmp} {x : Operand} {st el ty1 ty2 : TypeId} {p1 p2 : String} {af1 af2 : Array Edge} {a : Int} {v : Value} {ob : Option (Nat × Nat)} {xs : List Int}
  (hd1 : d1 < n) (hd2 : d2 < n) (hx : ASt.ev ⟨tm, n, H, nx⟩ x = some (.int .i64 a)) (hne : dy ≠ d1) (hy : tm dy = v) (hv : OwnInts H ob el v xs) (hob : ∀ b t, ob = some (b, t) → b < nx)
  (hst : P.underlying st = some (.slice el)) (hsz : z1r P el = some 1) (hby : z0n P el = some 8) (hz : z0M P el = some [.int .i64 0]) (hle : xs.length ≤ 1000000000)
  (h : ∀ v' ob' H', OwnInts H' ob' el v' (xs ++ [a]) → (∃ b, ob' = some (b, nx + 1) ∧ (b = nx + 1 ∨ ∃ t, ob = some (b, t))) → (∀ k, k < nx → (∀ b t, ob = some (b, t) → k ≠ b) → H' k = H k) →
   OpsL P W0 ops l ⟨z9 (z9 tm (some d1) (.slice (some ⟨nx, 0, none⟩) 1 1)) (some d2) v', n, H', nx + 1 + 1⟩ QQ) :
  OpsL P W0 ops (⟨some d1, .buildSlice st 1 #[(0, x)], ty1, p1, af1, none⟩ :: ⟨some d2, .call ⟨.builtin .append, #[.tmp dy, .tmp d1], #[st, st]⟩, ty2, p2, af2, none⟩ :: l) ⟨tm, n, H, nx⟩ QQ := by
 refine OpsL.new hd1 (z3O hx hst hsz hz) ?_;have hblk : ∀ b t, ob = some (b, t) → b ≠ nx := fun b t hb => by have := hob b t hb; omega
 refine OpsL.append (sz := 1) (bytes := 8) (k := xs.length) (m := 1) (cs := xs.map (.int .i64 ·)) (xs := [.int .i64 a]) (ob := ob) (u := .slice (some ⟨nx, 0, none⟩) 1 1) (xd := .slice el) (v := v) hd2 (by simp [ASt.ev, z9, hne, hy]) (by simp [ASt.ev, z9])
  (z89 hv hblk) (z72 (by exact z6) rfl (by omega)) rfl (by omega) hst hst rfl hsz hby hz rfl (by omega) (by omega) ?_
 refine h _ (some (z4A (nx + 1) ob, nx + 1)) _ ⟨by simp, by simp, [], ?_⟩ ⟨_, rfl, ?_⟩ ?_
 ·rw [z6]; simp
 ·cases ob with
  | none => exact .inl rfl
  | some bt => exact .inr ⟨bt.2, rfl⟩
 ·intro k hk hkb
  have h1 : k ≠ z4A (nx + 1) ob := by
   cases ob with
   | none => simp only [z4A]; omega
   | some bt => exact hkb bt.1 bt.2 rfl
  rw [z5 h1, z5 (by omega)]
def Bd (o : Option Value) (dflt k : Nat) : Prop := (o = none ∧ k = dflt) ∨ ∃ kd, o = some (.int kd k)
theorem Bd.bound {o : Option Value} {dflt k : Nat} (h : Bd o dflt k) : z4T o dflt = some k := by
 rcases h with ⟨rfl, rfl⟩ | ⟨kd, rfl⟩
 ·rfl
 ·simp [Am.z4T]
theorem z64 {len cap l h : Nat} {lo hi : Option Value} (hl : Bd lo 0 l) (hh : Bd hi len h) (h1 : l ≤ h) (h2 : h ≤ cap) : z3D len cap lo hi none = some (l, h, cap) := by
 unfold z3D;rw [hl.bound, hh.bound];simp [Am.z4T, h1, h2]
theorem z5k {t el : TypeId} {sz : Nat} {a : Addr} {len cap l h : Nat} {lo hi : Option Value} {o : AObj} (hu : P.underlying t = some (.slice el)) (hs : z1r P el = some sz) (ho : H a.block = some o) (ht : o.tag = none) (ha : a.spot = none)
  (hl : Bd lo 0 l) (hh : Bd hi len h) (h1 : l ≤ h) (h2 : h ≤ cap) : z0P P H t (.slice (some a) len cap) lo hi none = some (.slice (some (if cap = l then a else ⟨a.block, a.off + l * sz, none⟩)) (h - l) (cap - l)) := by
 unfold z0P;simp only [hu, hs, ho, ht, ha, if_true, z64 hl hh h1 h2, Option.map_some]
theorem zQ {t el : TypeId} {sz : Nat} {a : Addr} {len cap l h tg : Nat} {lo hi : Option Value} {o : AObj} (hu : P.underlying t = some (.slice el)) (hs : z1r P el = some sz) (ho : H a.block = some o) (ht : o.tag = some tg) (ha : a.spot = some tg) (he : o.esz = sz)
  (hl : Bd lo 0 l) (hh : Bd hi len h) (h1 : l ≤ h) (h2 : h ≤ len) : z0P P H t (.slice (some a) len cap) lo hi none = some (.slice (some ⟨a.block, a.off + l * sz, if l = len ∧ 0 < l then none else some tg⟩) (h - l) (h - l)) := by
 unfold z0P;simp only [hu, hs, ho, ht, ha, he, if_true, z64 hl hh h1 h2, Option.map_some, Option.isSome_none, Bool.false_eq_true, ne_eq, not_true_eq_false, or_self, if_false]
theorem z2o {t el : TypeId} {sz : Nat} {lo hi : Option Value} (hu : P.underlying t = some (.slice el)) (hs : z1r P el = some sz)
  (hl : Bd lo 0 0) (hh : Bd hi 0 0) : z0P P H t (.slice none 0 0) lo hi none = some (.slice none 0 0) := by
 unfold z0P;simp only [hu, hs, Option.isSome_some, if_true, z64 hl hh (Nat.le_refl _) (Nat.le_refl _), Option.map_some]
theorem zeq {t u : TypeId} {k : IntKind} {x y : Operand} {a b : Int} (hx : ev x = some (.int k a)) (hy : ev y = some (.int k b)) (h : a ≤ b) :
  aop P H nx ev ⟨dst, .binOp .leq t x y u, type, pos, after, guard⟩ = some (.bool true, .none) := by rw [z9J hx hy]; simp [h]
theorem z1X {a : Addr} {u v : Value} (h : z0L H a 2 = some [u, v]) : zb H ⟨a.block, a.off + 1, a.spot⟩ v := by
 unfold zb z0L at *;split at h
 ·rename_i c e t r q ho
  simp only [ho];split at h
  ·rename_i hc
   rw [if_pos ⟨hc.1, by omega⟩];simp only [Option.some.injEq] at h;have h1 : ((c.drop a.off).take 2)[1]? = some v := by rw [h]; rfl
   rw [List.getElem?_take, if_pos (by omega), List.getElem?_drop] at h1;rw [List.take_one, List.head?_drop, h1];rfl
  ·cases h
 ·cases h
theorem ACalls.ok {f : FuncId} {args : List Value} {R : Value → Nat → Heap → Prop} (h : ACalls P W0 f args nx H R) : ACalls P W0 f args nx H fun v nx' H' => R v nx' H' ∧ ∀ id o, H' id = some o → id < nx' := fun C w args' hR ha => by
 refine (h C w args' hR ha).mono ?_;rintro e w' ⟨v, v', C', nx', H', h1, h2, hR', h4⟩;exact ⟨v, v', C', nx', H', h1, ⟨h2, fun id o ho => (hR'.lt id o ho).1⟩, hR', h4⟩
theorem OwnInts.take {ob : Option (Nat × Nat)} {t el : TypeId} {v : Value} {xs : List Int} {k : Nat} {lo hi : Option Value} (h : OwnInts H ob el v xs) (hu : P.underlying t = some (.slice el)) (hs : z1r P el = some 1) (hk : k ≤ xs.length) (hl : Bd lo 0 0) (hh : Bd hi xs.length k) :
  ∃ r, z0P P H t v lo hi none = some r ∧ OwnInts H ob el r (xs.take k) := by
 cases ob with
 | none =>
  obtain ⟨rfl, h1, _⟩ := h;have hx : xs = [] := by simpa using h1
  subst hx;have hk0 : k = 0 := by simpa using hk
  subst hk0;exact ⟨_, z2o hu hs hl hh, rfl, rfl, rfl⟩
 | some bt =>
  obtain ⟨b, tg⟩ := bt;obtain ⟨rfl, _, rest, ho⟩ := h;refine ⟨_, zQ hu hs (a := ⟨b, 0, some tg⟩) ho rfl rfl rfl hl hh (Nat.zero_le _) hk, ?_, by simp [Nat.min_eq_left hk], (xs.drop k).map (.int .i64 ·) ++ rest, ?_⟩
  ·simp [List.length_take, Nat.min_eq_left hk]
  ·rw [ho, ← List.append_assoc, ← List.map_append, List.take_append_drop]
theorem OpsL.storeAt {t : TypeId} {x y : Operand} {a : Addr} {v : Value} {cs cs' : List Value} {e : Nat} {q : Option TypeId} (j : Nat) (hx : ASt.ev ⟨tm, n, H, nx⟩ x = some (.pointer (some a))) (hy : ASt.ev ⟨tm, n, H, nx⟩ y = some v) (hz : z1r P t = some 1) (hv : v.cells = #[v]) (h1 : v.oneCell' = true)
  (hH : H a.block = some (.cells cs e a.spot false q)) (hj : a.off = j) (hlt : j < cs.length) (hcs : cs.set j v = cs') (h : OpsL P W0 ops l ⟨tm, n, H.put a.block (.cells cs' e a.spot false q), nx⟩ QQ) :
  OpsL P W0 ops (⟨none, .store t x y, type, pos, after, none⟩ :: l) ⟨tm, n, H, nx⟩ QQ := by
 subst hj; subst hcs;exact zau hx hy hz hv h1 hH hlt h
theorem zeo {t u : TypeId} {k : IntKind} {x y : Operand} {a b : Int} (hx : ev x = some (.int k a)) (hy : ev y = some (.int k b)) (h : a < b) :
  aop P H nx ev ⟨dst, .binOp .lss t x y u, type, pos, after, guard⟩ = some (.bool true, .none) := by rw [z9I hx hy]; simp only [h, decide_true, decide_false, not_false_eq_true, not_true_eq_false]
theorem zep {t u : TypeId} {k : IntKind} {x y : Operand} {a b : Int} (hx : ev x = some (.int k a)) (hy : ev y = some (.int k b)) (h : ¬ (a < b)) :
  aop P H nx ev ⟨dst, .binOp .lss t x y u, type, pos, after, guard⟩ = some (.bool false, .none) := by rw [z9I hx hy]; simp only [h, decide_true, decide_false, not_false_eq_true, not_true_eq_false]
theorem zer {t u : TypeId} {k : IntKind} {x y : Operand} {a b : Int} (hx : ev x = some (.int k a)) (hy : ev y = some (.int k b)) (h : ¬ (a ≤ b)) :
  aop P H nx ev ⟨dst, .binOp .leq t x y u, type, pos, after, guard⟩ = some (.bool false, .none) := by rw [z9J hx hy]; simp only [h, decide_true, decide_false, not_false_eq_true, not_true_eq_false]
theorem zet {t u : TypeId} {k : IntKind} {x y : Operand} {a b : Int} (hx : ev x = some (.int k a)) (hy : ev y = some (.int k b)) (h : b < a) :
  aop P H nx ev ⟨dst, .binOp .gtr t x y u, type, pos, after, guard⟩ = some (.bool true, .none) := by rw [z9K hx hy]; simp only [h, decide_true, decide_false, not_false_eq_true, not_true_eq_false]
theorem zeu {t u : TypeId} {k : IntKind} {x y : Operand} {a b : Int} (hx : ev x = some (.int k a)) (hy : ev y = some (.int k b)) (h : ¬ (b < a)) :
  aop P H nx ev ⟨dst, .binOp .gtr t x y u, type, pos, after, guard⟩ = some (.bool false, .none) := by rw [z9K hx hy]; simp only [h, decide_true, decide_false, not_false_eq_true, not_true_eq_false]
theorem zev {t u : TypeId} {k : IntKind} {x y : Operand} {a b : Int} (hx : ev x = some (.int k a)) (hy : ev y = some (.int k b)) (h : b ≤ a) :
  aop P H nx ev ⟨dst, .binOp .geq t x y u, type, pos, after, guard⟩ = some (.bool true, .none) := by rw [z9L hx hy]; simp only [h, decide_true, decide_false, not_false_eq_true, not_true_eq_false]
theorem zew {t u : TypeId} {k : IntKind} {x y : Operand} {a b : Int} (hx : ev x = some (.int k a)) (hy : ev y = some (.int k b)) (h : ¬ (b ≤ a)) :
  aop P H nx ev ⟨dst, .binOp .geq t x y u, type, pos, after, guard⟩ = some (.bool false, .none) := by rw [z9L hx hy]; simp only [h, decide_true, decide_false, not_false_eq_true, not_true_eq_false]
theorem zex {t u : TypeId} {k : IntKind} {x y : Operand} {a b : Int} (hx : ev x = some (.int k a)) (hy : ev y = some (.int k b)) (h : ¬ (a = b)) :
  aop P H nx ev ⟨dst, .binOp .eql t x y u, type, pos, after, guard⟩ = some (.bool false, .none) := by rw [z9M hx hy]; simp only [h, decide_true, decide_false, not_false_eq_true, not_true_eq_false]
theorem zel {t u : TypeId} {k : IntKind} {x y : Operand} {a b : Int} (hx : ev x = some (.int k a)) (hy : ev y = some (.int k b)) (h : a ≠ b) :
  aop P H nx ev ⟨dst, .binOp .neq t x y u, type, pos, after, guard⟩ = some (.bool true, .none) := by rw [z9H hx hy]; simp [h]
theorem zem {t u : TypeId} {k : IntKind} {x y : Operand} {a b : Int} (hx : ev x = some (.int k a)) (hy : ev y = some (.int k b)) (h : a = b) :
  aop P H nx ev ⟨dst, .binOp .neq t x y u, type, pos, after, guard⟩ = some (.bool false, .none) := by rw [z9H hx hy]; simp [h]
def bs (s : ByteArray) : List Int := s.data.toList.map fun b => (b.toNat : Int)
theorem z7I {t u : TypeId} {x y : Operand} {a b : Array Value} {r : Bool} (hx : ev x = some (.agg a)) (hy : ev y = some (.agg b)) (hg : P.eqGuardType P.depth t = false) (he : aEq P H 60 t (.agg a) (.agg b) = some r) :
  aop P H nx ev ⟨dst, .binOp .eql t x y u, type, pos, after, guard⟩ = some (.bool r, .none) := by simp [aop, hx, hy, z6C, zfl, hg, he]
theorem z3U {t u : TypeId} {x y : Operand} {a b : Array Value} {r : Bool} (hx : ev x = some (.agg a)) (hy : ev y = some (.agg b)) (hg : P.eqGuardType P.depth t = false) (he : aEq P H 60 t (.agg a) (.agg b) = some r) :
  aop P H nx ev ⟨dst, .binOp .neq t x y u, type, pos, after, guard⟩ = some (.bool !r, .none) := by simp [aop, hx, hy, z6C, zfl, hg, he]
theorem zW {t : TypeId} {x : Operand} {v : Value} (hx : ev x = some v) : aop P H nx ev ⟨dst, .box t x, type, pos, after, guard⟩ = some (.pointer (some ⟨nx, 0, none⟩), .new (.cells v.cells.toList 0 none false (some t))) := by simp [aop, hx]
end
end Go.Am
namespace Go.Am
open Go.RowKit
section
variable {P : Program} {W0 : World} {ops : Array Oper} {dst : Option Tmp} {op : Op} {guard : Option (Nat × Bool)} {ev : Operand → Option Value} {type : TypeId} {pos : String} {after : Array Edge} {l : List Oper} {tm : Nat → Value} {n nx : Nat} {H : Heap} {v w : Value} {QQ : ASt → Prop} {d : Tmp} {t u s e : TypeId} {x y z : Operand} {k k' : IntKind} {a b : Int}
theorem z7 (hop : aop P H nx (ASt.ev ⟨tm, n, H, nx⟩) ⟨some d, op, type, pos, after, none⟩ = some (v, .none)) (h : OpsL P W0 ops l ⟨z9 tm (some d) v, n, H, nx⟩ QQ) (hd : d < n := by first | decide | (refine Nat.lt_of_lt_of_eq ?_ (Eq.symm ‹_›); decide)) : OpsL P W0 ops (⟨some d, op, type, pos, after, none⟩ :: l) ⟨tm, n, H, nx⟩ QQ := z20 hd hop h
theorem omv (hx : ev x = some v := by simp only [ASt.ev, z9, ↓reduceIte, Nat.reduceEqDiff, zk, *]; first | done | rfl) : aop P H nx ev ⟨dst, .move x, type, pos, after, guard⟩ = some (v, .none) := zen hx
theorem z0x (hx : ev x = some v := by simp only [ASt.ev, z9, ↓reduceIte, Nat.reduceEqDiff, zk, *]; first | done | rfl) : aop P H nx ev ⟨dst, .assign x, type, pos, after, guard⟩ = some (v, .none) := zc0 hx
theorem z6B (hx : ev x = some (.int k a) := by simp only [ASt.ev, z9, ↓reduceIte, Nat.reduceEqDiff, zk, *]; first | done | rfl) (hy : ev y = some (.int k b) := by simp only [ASt.ev, z9, ↓reduceIte, Nat.reduceEqDiff, zk, *]; first | done | rfl) : aop P H nx ev ⟨dst, .binOp .lss t x y u, type, pos, after, guard⟩ = some ((.bool (decide (a < b))), .none) := z9I hx hy
theorem z0c (h : OpsL P W0 ops l ⟨z9 tm (some d) (.bool true), n, H, nx⟩ QQ) (hd : d < n := by first | decide | (refine Nat.lt_of_lt_of_eq ?_ (Eq.symm ‹_›); decide)) (hx : ASt.ev ⟨tm, n, H, nx⟩ x = some (.int k a) := by simp only [ASt.ev, z9, ↓reduceIte, Nat.reduceEqDiff, zk, *]; first | done | rfl) (hy : ASt.ev ⟨tm, n, H, nx⟩ y = some (.int k b) := by simp only [ASt.ev, z9, ↓reduceIte, Nat.reduceEqDiff, zk, *]; first | done | rfl) (c : a < b := by omega) : OpsL P W0 ops (⟨some d, .binOp .lss t x y u, type, pos, after, none⟩ :: l) ⟨tm, n, H, nx⟩ QQ := z20 hd (zeo hx hy c) h
theorem z17 (h : OpsL P W0 ops l ⟨z9 tm (some d) (.bool false), n, H, nx⟩ QQ) (hd : d < n := by first | decide | (refine Nat.lt_of_lt_of_eq ?_ (Eq.symm ‹_›); decide)) (hx : ASt.ev ⟨tm, n, H, nx⟩ x = some (.int k a) := by simp only [ASt.ev, z9, ↓reduceIte, Nat.reduceEqDiff, zk, *]; first | done | rfl) (hy : ASt.ev ⟨tm, n, H, nx⟩ y = some (.int k b) := by simp only [ASt.ev, z9, ↓reduceIte, Nat.reduceEqDiff, zk, *]; first | done | rfl) (c : ¬ (a < b) := by omega) : OpsL P W0 ops (⟨some d, .binOp .lss t x y u, type, pos, after, none⟩ :: l) ⟨tm, n, H, nx⟩ QQ := z20 hd (zep hx hy c) h
theorem zgk (hx : ev x = some (.int k a) := by simp only [ASt.ev, z9, ↓reduceIte, Nat.reduceEqDiff, zk, *]; first | done | rfl) (hy : ev y = some (.int k b) := by simp only [ASt.ev, z9, ↓reduceIte, Nat.reduceEqDiff, zk, *]; first | done | rfl) : aop P H nx ev ⟨dst, .binOp .leq t x y u, type, pos, after, guard⟩ = some ((.bool (decide (a ≤ b))), .none) := z9J hx hy
theorem z66 (h : OpsL P W0 ops l ⟨z9 tm (some d) (.bool true), n, H, nx⟩ QQ) (hd : d < n := by first | decide | (refine Nat.lt_of_lt_of_eq ?_ (Eq.symm ‹_›); decide)) (hx : ASt.ev ⟨tm, n, H, nx⟩ x = some (.int k a) := by simp only [ASt.ev, z9, ↓reduceIte, Nat.reduceEqDiff, zk, *]; first | done | rfl) (hy : ASt.ev ⟨tm, n, H, nx⟩ y = some (.int k b) := by simp only [ASt.ev, z9, ↓reduceIte, Nat.reduceEqDiff, zk, *]; first | done | rfl) (c : a ≤ b := by omega) : OpsL P W0 ops (⟨some d, .binOp .leq t x y u, type, pos, after, none⟩ :: l) ⟨tm, n, H, nx⟩ QQ := z20 hd (zeq hx hy c) h
theorem zdv (h : OpsL P W0 ops l ⟨z9 tm (some d) (.bool false), n, H, nx⟩ QQ) (hd : d < n := by first | decide | (refine Nat.lt_of_lt_of_eq ?_ (Eq.symm ‹_›); decide)) (hx : ASt.ev ⟨tm, n, H, nx⟩ x = some (.int k a) := by simp only [ASt.ev, z9, ↓reduceIte, Nat.reduceEqDiff, zk, *]; first | done | rfl) (hy : ASt.ev ⟨tm, n, H, nx⟩ y = some (.int k b) := by simp only [ASt.ev, z9, ↓reduceIte, Nat.reduceEqDiff, zk, *]; first | done | rfl) (c : ¬ (a ≤ b) := by omega) : OpsL P W0 ops (⟨some d, .binOp .leq t x y u, type, pos, after, none⟩ :: l) ⟨tm, n, H, nx⟩ QQ := z20 hd (zer hx hy c) h
theorem zif (hx : ev x = some (.int k a) := by simp only [ASt.ev, z9, ↓reduceIte, Nat.reduceEqDiff, zk, *]; first | done | rfl) (hy : ev y = some (.int k b) := by simp only [ASt.ev, z9, ↓reduceIte, Nat.reduceEqDiff, zk, *]; first | done | rfl) : aop P H nx ev ⟨dst, .binOp .gtr t x y u, type, pos, after, guard⟩ = some ((.bool (decide (b < a))), .none) := z9K hx hy
theorem z1G (h : OpsL P W0 ops l ⟨z9 tm (some d) (.bool true), n, H, nx⟩ QQ) (hd : d < n := by first | decide | (refine Nat.lt_of_lt_of_eq ?_ (Eq.symm ‹_›); decide)) (hx : ASt.ev ⟨tm, n, H, nx⟩ x = some (.int k a) := by simp only [ASt.ev, z9, ↓reduceIte, Nat.reduceEqDiff, zk, *]; first | done | rfl) (hy : ASt.ev ⟨tm, n, H, nx⟩ y = some (.int k b) := by simp only [ASt.ev, z9, ↓reduceIte, Nat.reduceEqDiff, zk, *]; first | done | rfl) (c : b < a := by omega) : OpsL P W0 ops (⟨some d, .binOp .gtr t x y u, type, pos, after, none⟩ :: l) ⟨tm, n, H, nx⟩ QQ := z20 hd (zet hx hy c) h
theorem z18 (h : OpsL P W0 ops l ⟨z9 tm (some d) (.bool false), n, H, nx⟩ QQ) (hd : d < n := by first | decide | (refine Nat.lt_of_lt_of_eq ?_ (Eq.symm ‹_›); decide)) (hx : ASt.ev ⟨tm, n, H, nx⟩ x = some (.int k a) := by simp only [ASt.ev, z9, ↓reduceIte, Nat.reduceEqDiff, zk, *]; first | done | rfl) (hy : ASt.ev ⟨tm, n, H, nx⟩ y = some (.int k b) := by simp only [ASt.ev, z9, ↓reduceIte, Nat.reduceEqDiff, zk, *]; first | done | rfl) (c : ¬ (b < a) := by omega) : OpsL P W0 ops (⟨some d, .binOp .gtr t x y u, type, pos, after, none⟩ :: l) ⟨tm, n, H, nx⟩ QQ := z20 hd (zeu hx hy c) h
theorem zhG (hx : ev x = some (.int k a) := by simp only [ASt.ev, z9, ↓reduceIte, Nat.reduceEqDiff, zk, *]; first | done | rfl) (hy : ev y = some (.int k b) := by simp only [ASt.ev, z9, ↓reduceIte, Nat.reduceEqDiff, zk, *]; first | done | rfl) : aop P H nx ev ⟨dst, .binOp .geq t x y u, type, pos, after, guard⟩ = some ((.bool (decide (b ≤ a))), .none) := z9L hx hy
theorem z2X (h : OpsL P W0 ops l ⟨z9 tm (some d) (.bool true), n, H, nx⟩ QQ) (hd : d < n := by first | decide | (refine Nat.lt_of_lt_of_eq ?_ (Eq.symm ‹_›); decide)) (hx : ASt.ev ⟨tm, n, H, nx⟩ x = some (.int k a) := by simp only [ASt.ev, z9, ↓reduceIte, Nat.reduceEqDiff, zk, *]; first | done | rfl) (hy : ASt.ev ⟨tm, n, H, nx⟩ y = some (.int k b) := by simp only [ASt.ev, z9, ↓reduceIte, Nat.reduceEqDiff, zk, *]; first | done | rfl) (c : b ≤ a := by omega) : OpsL P W0 ops (⟨some d, .binOp .geq t x y u, type, pos, after, none⟩ :: l) ⟨tm, n, H, nx⟩ QQ := z20 hd (zev hx hy c) h
theorem z2x (h : OpsL P W0 ops l ⟨z9 tm (some d) (.bool false), n, H, nx⟩ QQ) (hd : d < n := by first | decide | (refine Nat.lt_of_lt_of_eq ?_ (Eq.symm ‹_›); decide)) (hx : ASt.ev ⟨tm, n, H, nx⟩ x = some (.int k a) := by simp only [ASt.ev, z9, ↓reduceIte, Nat.reduceEqDiff, zk, *]; first | done | rfl) (hy : ASt.ev ⟨tm, n, H, nx⟩ y = some (.int k b) := by simp only [ASt.ev, z9, ↓reduceIte, Nat.reduceEqDiff, zk, *]; first | done | rfl) (c : ¬ (b ≤ a) := by omega) : OpsL P W0 ops (⟨some d, .binOp .geq t x y u, type, pos, after, none⟩ :: l) ⟨tm, n, H, nx⟩ QQ := z20 hd (zew hx hy c) h
theorem zeM (hx : ev x = some (.int k a) := by simp only [ASt.ev, z9, ↓reduceIte, Nat.reduceEqDiff, zk, *]; first | done | rfl) (hy : ev y = some (.int k b) := by simp only [ASt.ev, z9, ↓reduceIte, Nat.reduceEqDiff, zk, *]; first | done | rfl) : aop P H nx ev ⟨dst, .binOp .eql t x y u, type, pos, after, guard⟩ = some ((.bool (decide (a = b))), .none) := z9M hx hy
theorem z07 (h : OpsL P W0 ops l ⟨z9 tm (some d) (.bool true), n, H, nx⟩ QQ) (hd : d < n := by first | decide | (refine Nat.lt_of_lt_of_eq ?_ (Eq.symm ‹_›); decide)) (hx : ASt.ev ⟨tm, n, H, nx⟩ x = some (.int k a) := by simp only [ASt.ev, z9, ↓reduceIte, Nat.reduceEqDiff, zk, *]; first | done | rfl) (hy : ASt.ev ⟨tm, n, H, nx⟩ y = some (.int k b) := by simp only [ASt.ev, z9, ↓reduceIte, Nat.reduceEqDiff, zk, *]; first | done | rfl) (c : a = b := by omega) : OpsL P W0 ops (⟨some d, .binOp .eql t x y u, type, pos, after, none⟩ :: l) ⟨tm, n, H, nx⟩ QQ := z20 hd (z3V hx hy c) h
theorem z0d (h : OpsL P W0 ops l ⟨z9 tm (some d) (.bool false), n, H, nx⟩ QQ) (hd : d < n := by first | decide | (refine Nat.lt_of_lt_of_eq ?_ (Eq.symm ‹_›); decide)) (hx : ASt.ev ⟨tm, n, H, nx⟩ x = some (.int k a) := by simp only [ASt.ev, z9, ↓reduceIte, Nat.reduceEqDiff, zk, *]; first | done | rfl) (hy : ASt.ev ⟨tm, n, H, nx⟩ y = some (.int k b) := by simp only [ASt.ev, z9, ↓reduceIte, Nat.reduceEqDiff, zk, *]; first | done | rfl) (c : ¬ (a = b) := by omega) : OpsL P W0 ops (⟨some d, .binOp .eql t x y u, type, pos, after, none⟩ :: l) ⟨tm, n, H, nx⟩ QQ := z20 hd (zex hx hy c) h
theorem zid (hx : ev x = some (.int k a) := by simp only [ASt.ev, z9, ↓reduceIte, Nat.reduceEqDiff, zk, *]; first | done | rfl) (hy : ev y = some (.int k b) := by simp only [ASt.ev, z9, ↓reduceIte, Nat.reduceEqDiff, zk, *]; first | done | rfl) : aop P H nx ev ⟨dst, .binOp .neq t x y u, type, pos, after, guard⟩ = some ((.bool (decide (a ≠ b))), .none) := z9H hx hy
theorem z1l (h : OpsL P W0 ops l ⟨z9 tm (some d) (.bool true), n, H, nx⟩ QQ) (hd : d < n := by first | decide | (refine Nat.lt_of_lt_of_eq ?_ (Eq.symm ‹_›); decide)) (hx : ASt.ev ⟨tm, n, H, nx⟩ x = some (.int k a) := by simp only [ASt.ev, z9, ↓reduceIte, Nat.reduceEqDiff, zk, *]; first | done | rfl) (hy : ASt.ev ⟨tm, n, H, nx⟩ y = some (.int k b) := by simp only [ASt.ev, z9, ↓reduceIte, Nat.reduceEqDiff, zk, *]; first | done | rfl) (c : a ≠ b := by omega) : OpsL P W0 ops (⟨some d, .binOp .neq t x y u, type, pos, after, none⟩ :: l) ⟨tm, n, H, nx⟩ QQ := z20 hd (zel hx hy c) h
theorem z16 (h : OpsL P W0 ops l ⟨z9 tm (some d) (.bool false), n, H, nx⟩ QQ) (hd : d < n := by first | decide | (refine Nat.lt_of_lt_of_eq ?_ (Eq.symm ‹_›); decide)) (hx : ASt.ev ⟨tm, n, H, nx⟩ x = some (.int k a) := by simp only [ASt.ev, z9, ↓reduceIte, Nat.reduceEqDiff, zk, *]; first | done | rfl) (hy : ASt.ev ⟨tm, n, H, nx⟩ y = some (.int k b) := by simp only [ASt.ev, z9, ↓reduceIte, Nat.reduceEqDiff, zk, *]; first | done | rfl) (c : a = b := by omega) : OpsL P W0 ops (⟨some d, .binOp .neq t x y u, type, pos, after, none⟩ :: l) ⟨tm, n, H, nx⟩ QQ := z20 hd (zem hx hy c) h
theorem z3R {q : Bool} (hx : ev x = some (.bool q) := by simp only [ASt.ev, z9, ↓reduceIte, Nat.reduceEqDiff, zk, *]; first | done | rfl) : aop P H nx ev ⟨dst, .unOp .not t x, type, pos, after, guard⟩ = some ((.bool (!q)), .none) := zfR hx
theorem z6w (hx : ev x = some (.int .i64 a) := by simp only [ASt.ev, z9, ↓reduceIte, Nat.reduceEqDiff, zk, *]; first | done | rfl) (hy : ev y = some (.int .i64 b) := by simp only [ASt.ev, z9, ↓reduceIte, Nat.reduceEqDiff, zk, *]; first | done | rfl) (c : -9223372036854775808 ≤ a + b ∧ a + b ≤ 9223372036854775807 := by omega) : aop P H nx ev ⟨dst, .binOp .add t x y u, type, pos, after, guard⟩ = some ((.int .i64 (a + b)), .none) := zfT hx hy c
theorem zeJ (hx : ev x = some (.int .i64 a) := by simp only [ASt.ev, z9, ↓reduceIte, Nat.reduceEqDiff, zk, *]; first | done | rfl) (hy : ev y = some (.int .i64 b) := by simp only [ASt.ev, z9, ↓reduceIte, Nat.reduceEqDiff, zk, *]; first | done | rfl) (c : -9223372036854775808 ≤ a - b ∧ a - b ≤ 9223372036854775807 := by omega) : aop P H nx ev ⟨dst, .binOp .sub t x y u, type, pos, after, guard⟩ = some ((.int .i64 (a - b)), .none) := zfQ hx hy c
theorem zgj (hx : ev x = some (.int .i64 a) := by simp only [ASt.ev, z9, ↓reduceIte, Nat.reduceEqDiff, zk, *]; first | done | rfl) (hy : ev y = some (.int .i64 b) := by simp only [ASt.ev, z9, ↓reduceIte, Nat.reduceEqDiff, zk, *]; first | done | rfl) (c : -9223372036854775808 ≤ a * b ∧ a * b ≤ 9223372036854775807 := by omega) : aop P H nx ev ⟨dst, .binOp .mul t x y u, type, pos, after, guard⟩ = some ((.int .i64 (a * b)), .none) := z7u hx hy c
theorem z1s {m c : Nat} {p : Option Addr} (hx : ev x = some (.slice p m c) := by simp only [ASt.ev, z9, ↓reduceIte, Nat.reduceEqDiff, zk, *]; first | done | rfl) (hu : P.underlying t = some (.slice e) := by exact rfl) : aop P H nx ev ⟨dst, .call ⟨.builtin .len, #[x], #[t]⟩, type, pos, after, guard⟩ = some ((.int .i64 (m : Int)), .none) := zfS hx hu
theorem z4s {m c sz : Nat} {p : Addr} (hx : ev x = some (.slice (some p) m c) := by simp only [ASt.ev, z9, ↓reduceIte, Nat.reduceEqDiff, zk, *]; first | done | rfl) (hy : ev y = some (.int k a) := by simp only [ASt.ev, z9, ↓reduceIte, Nat.reduceEqDiff, zk, *]; first | done | rfl) (hu : P.underlying t = some (.slice e) := by exact rfl) (hs : z1r P e = some sz := by exact rfl) (h0 : 0 ≤ a := by omega) (h1 : a < m := by omega) : aop P H nx ev ⟨dst, .indexAddr t x y, type, pos, after, guard⟩ = some ((.pointer (some ⟨p.block, p.off + a.toNat * sz, p.spot⟩)), .none) := z7Y hx hy hu hs h0 h1
theorem ofa {f : Nat} {p : Addr} (hx : ev x = some (.pointer (some p)) := by simp only [ASt.ev, z9, ↓reduceIte, Nat.reduceEqDiff, zk, *]; first | done | rfl) (hv : z33 P s (.pointer (some p)) f = some v := by exact rfl) : aop P H nx ev ⟨dst, .fieldAddr s x f, type, pos, after, guard⟩ = some (v, .none) := z7Z hx hv
theorem old {p : Addr} {dd : TypeDesc} (hx : ev x = some (.pointer (some p)) := by simp only [ASt.ev, z9, ↓reduceIte, Nat.reduceEqDiff, zk, *]; first | done | rfl) (hu : P.underlying t = some dd := by exact rfl) (hg : z2E dd = false := by rfl) (hc : zb H p v := by assumption) : aop P H nx ev ⟨dst, .load t x, type, pos, after, guard⟩ = some (v, .none) := zq hx hu hg hc
theorem z2q (hx : ev x = some (.bool true) := by simp only [ASt.ev, z9, ↓reduceIte, reduceIte, Nat.reduceEqDiff, decide_true, decide_false, not_true_eq_false, not_false_eq_true, Bool.not_true, Bool.not_false, *]; first | done | rfl) (hy : ev y = some v := by simp only [ASt.ev, z9, ↓reduceIte, Nat.reduceEqDiff, zk, *]; first | done | rfl) : aop P H nx ev ⟨dst, .pick x y z, type, pos, after, guard⟩ = some (v, .none) := zdj hx hy
theorem z27 (hx : ev x = some (.bool false) := by simp only [ASt.ev, z9, ↓reduceIte, reduceIte, Nat.reduceEqDiff, decide_true, decide_false, not_true_eq_false, not_false_eq_true, Bool.not_true, Bool.not_false, *]; first | done | rfl) (hy : ev z = some v := by simp only [ASt.ev, z9, ↓reduceIte, Nat.reduceEqDiff, zk, *]; first | done | rfl) : aop P H nx ev ⟨dst, .pick x y z, type, pos, after, guard⟩ = some (v, .none) := zdk hx hy
theorem zj {j : Nat} {want : Bool} {d' : Tmp} (h : OpsL P W0 ops (⟨dst, op, type, pos, after, none⟩ :: l) ⟨tm, n, H, nx⟩ QQ) (hj : (ops[j]?).bind (·.dst) = some d' := by exact rfl) (hb : tm d' = .bool want := by simp only [ASt.ev, z9, ↓reduceIte, reduceIte, Nat.reduceEqDiff, decide_true, decide_false, not_true_eq_false, not_false_eq_true, Bool.not_true, Bool.not_false, *]; first | done | rfl) : OpsL P W0 ops (⟨dst, op, type, pos, after, some (j, want)⟩ :: l) ⟨tm, n, H, nx⟩ QQ := z5l hj hb h
theorem zF {j : Nat} {want : Bool} {d' : Tmp} (h : OpsL P W0 ops l ⟨z9 tm (some d) undef, n, H, nx⟩ QQ) (hj : (ops[j]?).bind (·.dst) = some d' := by exact rfl) (hb : tm d' = .bool (!want) := by simp only [ASt.ev, z9, ↓reduceIte, reduceIte, Nat.reduceEqDiff, decide_true, decide_false, not_true_eq_false, not_false_eq_true, Bool.not_true, Bool.not_false, *]; first | done | rfl) (hd : d < n := by first | decide | (refine Nat.lt_of_lt_of_eq ?_ (Eq.symm ‹_›); decide)) : OpsL P W0 ops (⟨some d, op, type, pos, after, some (j, want)⟩ :: l) ⟨tm, n, H, nx⟩ QQ := z5m hj hb hd h
theorem z3e {j : Nat} {d' : Tmp} {p : Prop} [Decidable p] (h1 : p → OpsL P W0 ops (⟨some d, op, type, pos, after, none⟩ :: l) ⟨tm, n, H, nx⟩ QQ) (h2 : ¬p → OpsL P W0 ops l ⟨z9 tm (some d) undef, n, H, nx⟩ QQ) (hj : (ops[j]?).bind (·.dst) = some d' := by exact rfl) (hb : tm d' = .bool (decide p) := by simp only [ASt.ev, z9, ↓reduceIte, Nat.reduceEqDiff, zk, *]; first | done | rfl) (hd : d < n := by first | decide | (refine Nat.lt_of_lt_of_eq ?_ (Eq.symm ‹_›); decide)) : OpsL P W0 ops (⟨some d, op, type, pos, after, some (j, true)⟩ :: l) ⟨tm, n, H, nx⟩ QQ := zav hj hb hd h1 h2
theorem zfV {j : Nat} {d' : Tmp} {p : Prop} [Decidable p] (h1 : ¬p → OpsL P W0 ops (⟨some d, op, type, pos, after, none⟩ :: l) ⟨tm, n, H, nx⟩ QQ) (h2 : p → OpsL P W0 ops l ⟨z9 tm (some d) undef, n, H, nx⟩ QQ) (hj : (ops[j]?).bind (·.dst) = some d' := by exact rfl) (hb : tm d' = .bool (decide p) := by simp only [ASt.ev, z9, ↓reduceIte, Nat.reduceEqDiff, zk, *]; first | done | rfl) (hd : d < n := by first | decide | (refine Nat.lt_of_lt_of_eq ?_ (Eq.symm ‹_›); decide)) : OpsL P W0 ops (⟨some d, op, type, pos, after, some (j, false)⟩ :: l) ⟨tm, n, H, nx⟩ QQ := zaw hj hb hd h1 h2
variable {f : FuncId} {R : Value → Nat → Heap → Prop} {ts : Array TypeId} {va vb vc ve : Value}
theorem zfW (hd : d < n := by first | decide | (refine Nat.lt_of_lt_of_eq ?_ (Eq.symm ‹_›); decide))  (hf : z0F P f) (hc : ACalls P W0 f [] nx H R) (h : ∀ v nx' H', R v nx' H' → OpsL P W0 ops l ⟨z9 tm (some d) v, n, H', nx'⟩ QQ) : OpsL P W0 ops (⟨some d, .call ⟨.value (.func f), #[], ts⟩, type, pos, after, none⟩ :: l) ⟨tm, n, H, nx⟩ QQ := zcc hd  hf hc h
theorem z0g (hd : d < n := by first | decide | (refine Nat.lt_of_lt_of_eq ?_ (Eq.symm ‹_›); decide)) (hx : ASt.ev ⟨tm, n, H, nx⟩ x = some va := by simp only [ASt.ev, z9, ↓reduceIte, Nat.reduceEqDiff, zk, *]; first | done | rfl) (hf : z0F P f) (hc : ACalls P W0 f [va] nx H R) (h : ∀ v nx' H', R v nx' H' → OpsL P W0 ops l ⟨z9 tm (some d) v, n, H', nx'⟩ QQ) : OpsL P W0 ops (⟨some d, .call ⟨.value (.func f), #[x], ts⟩, type, pos, after, none⟩ :: l) ⟨tm, n, H, nx⟩ QQ := zcb hd hx hf hc h
theorem OpsL.c2 (hd : d < n := by first | decide | (refine Nat.lt_of_lt_of_eq ?_ (Eq.symm ‹_›); decide)) (hx : ASt.ev ⟨tm, n, H, nx⟩ x = some va := by simp only [ASt.ev, z9, ↓reduceIte, Nat.reduceEqDiff, zk, *]; first | done | rfl) (hy : ASt.ev ⟨tm, n, H, nx⟩ y = some vb := by simp only [ASt.ev, z9, ↓reduceIte, Nat.reduceEqDiff, zk, *]; first | done | rfl) (hf : z0F P f) (hc : ACalls P W0 f [va, vb] nx H R) (h : ∀ v nx' H', R v nx' H' → OpsL P W0 ops l ⟨z9 tm (some d) v, n, H', nx'⟩ QQ) : OpsL P W0 ops (⟨some d, .call ⟨.value (.func f), #[x, y], ts⟩, type, pos, after, none⟩ :: l) ⟨tm, n, H, nx⟩ QQ := zca hd hx hy hf hc h
theorem z1p (hd : d < n := by first | decide | (refine Nat.lt_of_lt_of_eq ?_ (Eq.symm ‹_›); decide)) (hx : ASt.ev ⟨tm, n, H, nx⟩ x = some va := by simp only [ASt.ev, z9, ↓reduceIte, Nat.reduceEqDiff, zk, *]; first | done | rfl) (hy : ASt.ev ⟨tm, n, H, nx⟩ y = some vb := by simp only [ASt.ev, z9, ↓reduceIte, Nat.reduceEqDiff, zk, *]; first | done | rfl) (hz : ASt.ev ⟨tm, n, H, nx⟩ z = some vc := by simp only [ASt.ev, z9, ↓reduceIte, Nat.reduceEqDiff, zk, *]; first | done | rfl) (hf : z0F P f) (hc : ACalls P W0 f [va, vb, vc] nx H R) (h : ∀ v nx' H', R v nx' H' → OpsL P W0 ops l ⟨z9 tm (some d) v, n, H', nx'⟩ QQ) : OpsL P W0 ops (⟨some d, .call ⟨.value (.func f), #[x, y, z], ts⟩, type, pos, after, none⟩ :: l) ⟨tm, n, H, nx⟩ QQ := zc9 hd hx hy hz hf hc h
theorem zc8 {x y z w : Operand} (hd : d < n) (hx : ASt.ev ⟨tm, n, H, nx⟩ x = some va) (hy : ASt.ev ⟨tm, n, H, nx⟩ y = some vb) (hz : ASt.ev ⟨tm, n, H, nx⟩ z = some vc) (hw : ASt.ev ⟨tm, n, H, nx⟩ w = some ve) (hf : z0F P f) (hcall : ACalls P W0 f [va, vb, vc, ve] nx H R) (h : ∀ v nx' H', R v nx' H' → OpsL P W0 ops l ⟨z9 tm (some d) v, n, H', nx'⟩ QQ) :
    OpsL P W0 ops (⟨some d, .call ⟨.value (.func f), #[x, y, z, w], ts⟩, type, pos, after, none⟩ :: l) ⟨tm, n, H, nx⟩ QQ := by
  refine OpsL.call R (by simp [z1c, hd]) rfl ?_ hf hcall h;have hf' : ASt.ev ⟨tm, n, H, nx⟩ (.func f) = some (.func (.func f) #[] #[]) := rfl;simp [z0O, hf', z0q, hx, hy, hz, hw]
theorem zcU {x y z w : Operand} (hd : d < n := by first | decide | (refine Nat.lt_of_lt_of_eq ?_ (Eq.symm ‹_›); decide)) (hx : ASt.ev ⟨tm, n, H, nx⟩ x = some va := by simp only [ASt.ev, z9, ↓reduceIte, Nat.reduceEqDiff, zk, *]; first | done | rfl) (hy : ASt.ev ⟨tm, n, H, nx⟩ y = some vb := by simp only [ASt.ev, z9, ↓reduceIte, Nat.reduceEqDiff, zk, *]; first | done | rfl) (hz : ASt.ev ⟨tm, n, H, nx⟩ z = some vc := by simp only [ASt.ev, z9, ↓reduceIte, Nat.reduceEqDiff, zk, *]; first | done | rfl) (hw : ASt.ev ⟨tm, n, H, nx⟩ w = some ve := by simp only [ASt.ev, z9, ↓reduceIte, Nat.reduceEqDiff, zk, *]; first | done | rfl) (hf : z0F P f) (hc : ACalls P W0 f [va, vb, vc, ve] nx H R) (h : ∀ v nx' H', R v nx' H' → OpsL P W0 ops l ⟨z9 tm (some d) v, n, H', nx'⟩ QQ) : OpsL P W0 ops (⟨some d, .call ⟨.value (.func f), #[x, y, z, w], ts⟩, type, pos, after, none⟩ :: l) ⟨tm, n, H, nx⟩ QQ := zc8 hd hx hy hz hw hf hc h
end
section
variable {P : Program} {W0 : World} {st : ASt} {Q : AExit → ASt → Prop} {c : Operand} {x y : Code}
theorem z0t {p : Prop} [Decidable p] (h1 : p → Trip P W0 x st Q) (h2 : ¬p → Trip P W0 y st Q) (hc : st.ev c = some (.bool (decide p)) := by simp only [ASt.ev, z9, ↓reduceIte, Nat.reduceEqDiff, zk, *]; first | done | rfl) : Trip P W0 (.cond c x y) st Q := zey hc h1 h2
theorem z05 (h : Trip P W0 x st Q) (hc : st.ev c = some (.bool true) := by simp only [ASt.ev, z9, ↓reduceIte, reduceIte, Nat.reduceEqDiff, decide_true, decide_false, not_true_eq_false, not_false_eq_true, Bool.not_true, Bool.not_false, *]; first | done | rfl) : Trip P W0 (.cond c x y) st Q := z8U hc (fun _ => h) (fun h => absurd h (by decide))
theorem zU (h : Trip P W0 y st Q) (hc : st.ev c = some (.bool false) := by simp only [ASt.ev, z9, ↓reduceIte, reduceIte, Nat.reduceEqDiff, decide_true, decide_false, not_true_eq_false, not_false_eq_true, Bool.not_true, Bool.not_false, *]; first | done | rfl) : Trip P W0 (.cond c x y) st Q := z8U hc (fun h => absurd h (by decide)) (fun _ => h)
end
theorem evd {A : Prop} (h : A := by simp only [ASt.ev, z9, ↓reduceIte, Nat.reduceEqDiff, *]; done) : A := h
theorem evr {A : Prop} (h : A := by simp only [ASt.ev, z9, ↓reduceIte, Nat.reduceEqDiff, *]; rfl) : A := h
theorem stp {A : Prop} (h : A := by simp [z9, *]) : A := h
theorem krf {A : Prop} (h : A := by kernel_rfl) : A := h
theorem zg0 {G K : Prop} (k : K) (f : PLift K → G := by
 intro k;refine OpsK.one rfl (by kernel_rfl) ?_
 repeat (first | refine z7 (by exact omv) ?_ | (refine OpsL.nil ?_; (skip)))
 refine OpsK.one rfl (by kernel_rfl) ?_;exact k.down) : G := f ⟨k⟩
theorem zg1 {G K : Prop} (k : K) (f : PLift K → G := by
 intro k;refine OpsR.one rfl rfl rfl (by kernel_rfl) ?_;exact k.down) : G := f ⟨k⟩
theorem zg2 {G K : Prop} (k : K) (f : PLift K → G := by
 intro k;refine zU ?_
 repeat (first | (refine z7 (by first | exact omv | exact z0x | exact z6w) ?_) | refine zd ?_ | (refine Trip.skip ?_; ((repeat (refine zK ?_)); change Trip _ _ _ _ _)) | (refine OpsL.nil ?_; (dsimp only)))
 exact k.down) : G := f ⟨k⟩
theorem zg3 {G K : Prop} (k : K) (f : PLift K → G := by
 intro k;refine zg1 ?_
 repeat (first | refine z7 (by exact ofa) ?_ | (refine OpsL.nil ?_; (dsimp only)))
 exact k.down) : G := f ⟨k⟩
theorem zg4 {G K : Prop} (k : K) (f : PLift K → G := by
 intro k;refine zg1 ?_
 repeat (first | refine z7 (by exact omv) ?_ | (refine OpsL.nil ?_; (skip)))
 refine zg1 ?_;exact k.down) : G := f ⟨k⟩
theorem zg5 {G K : Prop} (k : K) (f : PLift K → G := by
 intro k;refine z05 ?_
 repeat (first | refine z7 (by exact z0x) ?_ | refine Trip.seq ?_ | refine zd ?_ | (refine Trip.ret ?_; ((repeat (refine z1i ?_)); dsimp only)) | (refine OpsL.nil ?_; (change Trip _ _ _ _ _)))
 exact k.down) : G := f ⟨k⟩
theorem zg6 {G K : Prop} (k : K) (f : PLift K → G := by
 intro k
 repeat (first | (refine OpsL.nil ?_; (skip)) | refine zF ?_)
 refine OpsK.one rfl (by kernel_rfl) ?_
 repeat (first | (refine OpsL.nil ?_; (skip)) | refine zF ?_)
 refine OpsK.one rfl (by kernel_rfl) ?_
 repeat (first | (refine OpsL.nil ?_; (skip)) | refine zF ?_)
 refine OpsK.one rfl (by kernel_rfl) ?_;exact k.down) : G := f ⟨k⟩
theorem zg7 {G K : Prop} (k : K) (f : PLift K → G := by
 intro k
 repeat (first | (refine z7 (by first | exact omv | exact z0x | exact z6w) ?_) | refine zd ?_ | (refine OpsL.nil ?_; ((repeat (refine zK ?_)); first | (change Trip _ _ _ _ _) | (dsimp only))))
 exact k.down) : G := f ⟨k⟩
theorem zg8 {G K : Prop} (k : K) (f : PLift K → G := by
 intro k
 repeat (first | refine Trip.seq ?_ | refine zd ?_)
 refine z17 ?_
 repeat (first | refine Trip.seq ?_ | (refine OpsL.nil ?_; (change Trip _ _ _ _ _)))
 refine zU ?_;exact k.down) : G := f ⟨k⟩
theorem zg9 {G K : Prop} (k : K) (f : PLift K → G := by
 intro k
 repeat (first | refine Trip.seq ?_ | refine zd ?_)
 refine z0c ?_
 repeat (first | refine Trip.seq ?_ | (refine OpsL.nil ?_; (change Trip _ _ _ _ _)))
 refine z05 ?_;exact k.down) : G := f ⟨k⟩
theorem z7j {G K : Prop} (k : K) (f : PLift K → G := by
 intro k
 repeat (refine OpsL.nil ?_; (change Trip _ _ _ _ _))
 exact k.down) : G := f ⟨k⟩
theorem z4Q {G K : Prop} (k : K) (f : PLift K → G := by
 intro k
 repeat (first | (refine z7 (by first | exact omv | exact z0x) ?_) | refine Trip.seq ?_ | refine zd ?_ | (refine OpsL.nil ?_; (change Trip _ _ _ _ _)))
 exact k.down) : G := f ⟨k⟩
theorem z0K {G K : Prop} (k : K) (f : PLift K → G := by
 intro k;refine zZ (by kernel_rfl) (zJ rfl rfl ?_);exact k.down) : G := f ⟨k⟩
theorem z9w {G K : Prop} (k : K) (f : PLift K → G := by
 intro k
 repeat (first | (refine z7 (by first | exact omv | exact z0x) ?_) | refine Trip.seq ?_ | refine zd ?_ | (refine Trip.exit ?_; ((repeat (refine zM ?_)); change Trip _ _ _ _ _)) | (refine Trip.ret ?_; (dsimp only)) | (refine OpsL.nil ?_; (change Trip _ _ _ _ _)))
 exact k.down) : G := f ⟨k⟩
theorem z57 {G K : Prop} (k : K) (f : PLift K → G := by
 intro k;refine OpsK.one rfl (by kernel_rfl) ?_;exact k.down) : G := f ⟨k⟩
theorem zbc {G K : Prop} (k : K) (f : PLift K → G := by
 intro k;refine zU ?_
 repeat (first | (refine z7 (by first | exact omv | exact z6w) ?_) | refine zd ?_ | (refine Trip.skip ?_; ((repeat (refine zK ?_)); change Trip _ _ _ _ _)) | (refine OpsL.nil ?_; (dsimp only)))
 exact k.down) : G := f ⟨k⟩
theorem z6y {G K : Prop} (k : K) (f : PLift K → G := by
 intro k
 repeat (first | refine z7 (by exact z0x) ?_ | refine Trip.seq ?_ | refine zd ?_ | refine Trip.block ?_ | (refine OpsL.nil ?_; (change Trip _ _ _ _ _)))
 exact k.down) : G := f ⟨k⟩
theorem z8d {G K : Prop} (k : K) (f : PLift K → G := by
 intro k
 repeat (first | (refine z7 (by first | exact omv | exact z0x | exact z1s) ?_) | refine Trip.seq ?_ | refine zd ?_ | refine Trip.block ?_ | (refine OpsL.nil ?_; (change Trip _ _ _ _ _)))
 exact k.down) : G := f ⟨k⟩
theorem zbb {G K : Prop} (k : K) (f : PLift K → G := by
 intro k
 repeat (first | refine z7 (by exact z4s) ?_ | (refine OpsL.nil ?_; (dsimp only)))
 exact k.down) : G := f ⟨k⟩
theorem z9v {G K : Prop} (k : K) (f : PLift K → G := by
 intro k
 repeat (first | refine z7 (by exact omv) ?_ | (refine OpsL.nil ?_; (skip)))
 exact k.down) : G := f ⟨k⟩
theorem z7i {G K : Prop} (k : K) (f : PLift K → G := by
 intro k
 repeat (first | refine z7 (by exact omv) ?_ | refine Trip.seq ?_ | refine zd ?_ | (refine OpsL.nil ?_; (change Trip _ _ _ _ _)))
 exact k.down) : G := f ⟨k⟩
theorem z6t {G K : Prop} (k : K) (f : PLift K → G := by
 intro k
 repeat (first | (refine z7 (by first | exact omv | exact z1s) ?_) | refine Trip.seq ?_ | refine zd ?_)
 exact k.down) : G := f ⟨k⟩
theorem zij {G K : Prop} (k : K) (f : PLift K → G := by
 intro k;refine z57 ?_
 repeat (first | refine z7 (by exact omv) ?_ | (refine OpsL.nil ?_; (skip)) | refine zj ?_)
 refine z57 ?_
 repeat (first | refine z7 (by exact omv) ?_ | (refine OpsL.nil ?_; (skip)) | refine zj ?_)
 refine z57 ?_
 repeat (first | refine z7 (by exact z4s) ?_ | (refine OpsL.nil ?_; (dsimp only)) | refine zj ?_)
 exact k.down) : G := f ⟨k⟩
theorem zhF {G K : Prop} (k : K) (f : PLift K → G := by
 intro k
 ((repeat (refine zK ?_)); change Trip _ _ _ _ _)
 repeat (first | (refine z7 (by first | exact omv | exact z0x | exact z6w) ?_) | refine zd ?_ | (refine OpsL.nil ?_; (dsimp only)))
 exact k.down) : G := f ⟨k⟩
theorem zii {G K : Prop} (k : K) (f : PLift K → G := by
 intro k
 repeat (first | refine z7 (by exact ofa) ?_ | (refine OpsL.nil ?_; (dsimp only)) | refine zj ?_)
 refine z57 ?_
 repeat (first | refine z7 (by exact old) ?_ | (refine OpsL.nil ?_; (skip)) | refine zj ?_)
 refine zij ?_;refine z57 ?_
 repeat (first | refine z7 (by exact old) ?_ | (refine OpsL.nil ?_; (skip)) | refine zj ?_)
 exact k.down) : G := f ⟨k⟩
theorem zaA {G K : Prop} (k : K) (f : PLift K → G := by
 intro k;refine z0c ?_;refine z7j ?_;refine z05 ?_
 repeat (first | refine Trip.seq ?_ | refine Trip.block ?_ | (refine Trip.skip ?_; (change Trip _ _ _ _ _)))
 exact k.down) : G := f ⟨k⟩
theorem z9r {G K : Prop} (k : K) (f : PLift K → G := by
 intro k
 repeat (first | refine z7 (by exact z0x) ?_ | refine Trip.seq ?_ | refine zd ?_ | (refine OpsL.nil ?_; (change Trip _ _ _ _ _)))
 exact k.down) : G := f ⟨k⟩
theorem zdD {G K : Prop} (k : K) (f : PLift K → G := by
 intro k;refine z05 ?_
 repeat (first | refine z7 (by exact z0x) ?_ | refine Trip.seq ?_ | refine zd ?_ | (refine Trip.ret ?_; (dsimp only)) | (refine OpsL.nil ?_; (change Trip _ _ _ _ _)))
 exact k.down) : G := f ⟨k⟩
theorem zeD {G K : Prop} (k : K) (f : PLift K → G := by
 intro k;refine zg9 ?_
 repeat (first | (refine z7 (by first | exact omv | exact z0x | exact z4s | exact old) ?_) | refine Trip.seq ?_ | refine zd ?_ | refine Trip.block ?_ | (refine Trip.skip ?_; (change Trip _ _ _ _ _)) | (refine OpsL.nil ?_; (change Trip _ _ _ _ _)))
 exact k.down) : G := f ⟨k⟩
theorem zfi {G K : Prop} (k : K) (f : PLift K → G := by
 intro k
 repeat (first | refine z7 (by exact z0x) ?_ | refine Trip.seq ?_ | refine zd ?_ | refine Trip.block ?_ | (refine Trip.skip ?_; (change Trip _ _ _ _ _)) | (refine OpsL.nil ?_; (change Trip _ _ _ _ _)))
 exact k.down) : G := f ⟨k⟩
theorem zcj {G K : Prop} (k : K) (f : PLift K → G := by
 intro k;refine zg9 ?_
 repeat (first | refine z7 (by exact z4s) ?_ | refine Trip.seq ?_ | refine zd ?_ | refine Trip.block ?_ | (refine Trip.skip ?_; (change Trip _ _ _ _ _)))
 exact k.down) : G := f ⟨k⟩
theorem zdC {G K : Prop} (k : K) (f : PLift K → G := by
 intro k
 repeat (first | (refine z7 (by first | exact omv | exact z0x) ?_) | refine Trip.seq ?_ | refine zd ?_ | (refine Trip.ret ?_; (dsimp only)) | (refine OpsL.nil ?_; (change Trip _ _ _ _ _)))
 exact k.down) : G := f ⟨k⟩
theorem z4f {G K : Prop} (k : K) (f : PLift K → G := by
 intro k
 repeat (refine OpsL.nil ?_; (skip))
 exact k.down) : G := f ⟨k⟩
theorem zdB {G K : Prop} (k : K) (f : PLift K → G := by
 intro k
 repeat (first | (refine z7 (by first | exact omv | exact ofa | exact old | exact z1s) ?_) | refine Trip.seq ?_ | refine zd ?_)
 exact k.down) : G := f ⟨k⟩
theorem zaz {G K : Prop} (k : K) (f : PLift K → G := by
 intro k
 repeat (first | refine z7 (by exact old) ?_ | (refine OpsL.nil ?_; (skip)))
 exact k.down) : G := f ⟨k⟩
theorem zib {G K : Prop} (k : K) (f : PLift K → G := by
 intro k
 repeat (first | refine z7 (by exact omv) ?_ | (refine OpsL.nil ?_; (dsimp only)))
 exact k.down) : G := f ⟨k⟩
theorem z8c {G K : Prop} (k : K) (f : PLift K → G := by
 intro k;refine z17 ?_;refine z7j ?_;refine zU ?_;exact k.down) : G := f ⟨k⟩
theorem zgw {G K : Prop} (k : K) (f : PLift K → G := by
 intro k
 repeat (first | refine z7 (by exact z2q) ?_ | (refine OpsL.nil ?_; (skip)))
 exact k.down) : G := f ⟨k⟩
theorem zeC {G K : Prop} (k : K) (f : PLift K → G := by
 intro k
 repeat (first | (refine z7 (by first | exact omv | exact z6w) ?_) | refine zd ?_ | (refine OpsL.nil ?_; ((repeat (refine zK ?_)); first | (change Trip _ _ _ _ _) | (dsimp only))))
 exact k.down) : G := f ⟨k⟩
theorem zdJ {G K : Prop} (k : K) (f : PLift K → G := by
 intro k
 repeat (first | refine z7 (by exact omv) ?_ | refine Trip.seq ?_ | refine zd ?_ | (refine Trip.exit ?_; ((repeat (refine zM ?_)); change Trip _ _ _ _ _)))
 exact k.down) : G := f ⟨k⟩
theorem zdI {G K : Prop} (k : K) (f : PLift K → G := by
 intro k
 repeat (first | refine z7 (by exact z0x) ?_ | (refine OpsL.nil ?_; (change Trip _ _ _ _ _)))
 exact k.down) : G := f ⟨k⟩
theorem zci {G K : Prop} (k : K) (f : PLift K → G := by
 intro k
 repeat (first | refine z7 (by exact omv) ?_ | refine Trip.seq ?_ | refine zd ?_ | (refine Trip.skip ?_; (change Trip _ _ _ _ _)))
 exact k.down) : G := f ⟨k⟩
theorem zcf {G K : Prop} (k : K) (f : PLift K → G := by
 intro k;refine zg1 ?_
 repeat (first | refine z7 (by exact z0x) ?_ | (refine OpsL.nil ?_; (skip)))
 refine OpsR.nil ?_;exact k.down) : G := f ⟨k⟩
theorem zgg {G K : Prop} (k : K) (f : PLift K → G := by
 intro k;refine zU ?_
 repeat (first | refine z7 (by exact z0x) ?_ | refine Trip.seq ?_ | refine zd ?_ | (refine Trip.skip ?_; (change Trip _ _ _ _ _)) | (refine Trip.ret ?_; (dsimp only)) | (refine OpsL.nil ?_; (change Trip _ _ _ _ _)))
 exact k.down) : G := f ⟨k⟩
theorem zfh {G K : Prop} (k : K) (f : PLift K → G := by
 intro k
 repeat (first | (refine z7 (by first | exact omv | exact z1s | exact ofa | exact old) ?_) | refine Trip.seq ?_ | refine zd ?_ | refine Trip.block ?_ | (refine OpsL.nil ?_; (change Trip _ _ _ _ _)))
 exact k.down) : G := f ⟨k⟩
theorem zgf {G K : Prop} (k : K) (f : PLift K → G := by
 intro k
 repeat (first | refine z7 (by exact z0x) ?_ | refine Trip.seq ?_ | refine zd ?_ | refine Trip.block ?_ | (refine Trip.exit ?_; ((repeat (refine zM ?_)); change Trip _ _ _ _ _)) | (refine OpsL.nil ?_; (change Trip _ _ _ _ _)))
 exact k.down) : G := f ⟨k⟩
theorem zge {G K : Prop} (k : K) (f : PLift K → G := by
 intro k
 repeat (first | (refine OpsL.nil ?_; (skip)) | refine zF ?_)
 refine zg1 ?_
 repeat (first | (refine OpsL.nil ?_; (skip)) | refine zF ?_)
 exact k.down) : G := f ⟨k⟩
theorem zih {G K : Prop} (k : K) (f : PLift K → G := by
 intro k;refine z9v ?_;refine z57 ?_
 repeat (first | refine z7 (by exact zeJ) ?_ | (refine OpsL.nil ?_; (skip)))
 refine z57 ?_;refine zbb ?_;refine z57 ?_;exact k.down) : G := f ⟨k⟩
theorem zgv {G K : Prop} (k : K) (f : PLift K → G := by
 intro k;refine zdB ?_;refine z0c ?_;refine z7j ?_;refine z05 ?_
 repeat (first | (refine z7 (by first | exact omv | exact z4s | exact ofa | exact old) ?_) | refine Trip.seq ?_ | refine zd ?_ | refine Trip.block ?_ | (refine Trip.skip ?_; (change Trip _ _ _ _ _)))
 exact k.down) : G := f ⟨k⟩
theorem zhE {G K : Prop} (k : K) (f : PLift K → G := by
 intro k;refine zg9 ?_
 repeat (first | (refine z7 (by first | exact omv | exact z0x | exact z4s | exact old | exact z1s | exact z6w) ?_) | refine Trip.seq ?_ | refine zd ?_ | refine Trip.block ?_ | (refine Trip.skip ?_; (change Trip _ _ _ _ _)) | (refine OpsL.nil ?_; (change Trip _ _ _ _ _)))
 refine z17 ?_;refine z7j ?_;refine zbc ?_;exact k.down) : G := f ⟨k⟩
theorem zia {G K : Prop} (k : K) (f : PLift K → G := by
 intro k;refine z57 ?_
 repeat (first | refine z7 (by exact ofa) ?_ | (refine OpsL.nil ?_; (dsimp only)))
 refine z57 ?_;refine zaz ?_;refine zg0 ?_;exact k.down) : G := f ⟨k⟩
theorem zdA {G K : Prop} (k : K) (f : PLift K → G := by
 intro k
 repeat (refine Trip.exit ?_; (dsimp only))
 exact k.down) : G := f ⟨k⟩
theorem zgu {G K : Prop} (k : K) (f : PLift K → G := by
 intro k
 repeat (first | refine z7 (by exact ofa) ?_ | (refine OpsL.nil ?_; (dsimp only)) | refine zj ?_)
 refine zg1 ?_
 repeat (first | refine z7 (by exact old) ?_ | (refine OpsL.nil ?_; (skip)) | refine zj ?_)
 refine zg1 ?_;exact k.down) : G := f ⟨k⟩
theorem zgd {G K : Prop} (k : K) (f : PLift K → G := by
 intro k
 repeat (first | refine z7 (by exact omv) ?_ | refine Trip.seq ?_ | refine zd ?_)
 exact k.down) : G := f ⟨k⟩
theorem zgt {G K : Prop} (k : K) (f : PLift K → G := by
 intro k
 ((repeat (first | refine zM ?_ | refine zK ?_)); change Trip _ _ _ _ _)
 repeat (first | (refine z7 (by first | exact omv | exact z0x | exact z6w) ?_) | refine zd ?_ | (refine OpsL.nil ?_; (dsimp only)))
 exact k.down) : G := f ⟨k⟩
theorem zhD {G K : Prop} (k : K) (f : PLift K → G := by
 intro k;refine z05 ?_
 repeat (first | (refine z7 (by first | exact omv | exact z6w | exact zgj | exact z4s | exact ofa | exact old) ?_) | refine Trip.seq ?_ | refine zd ?_ | refine Trip.block ?_ | (refine Trip.skip ?_; (change Trip _ _ _ _ _)) | (refine OpsL.nil ?_; (change Trip _ _ _ _ _)))
 exact k.down) : G := f ⟨k⟩
theorem z6W {G K : Prop} (k : K) (f : PLift K → G := by
 intro k
 ((repeat (refine zM ?_)); change Trip _ _ _ _ _)
 exact k.down) : G := f ⟨k⟩
theorem zdz {G K : Prop} (k : K) (f : PLift K → G := by
 intro k
 repeat (first | refine Trip.seq ?_ | refine zd ?_ | (refine OpsL.nil ?_; (change Trip _ _ _ _ _)))
 exact k.down) : G := f ⟨k⟩
theorem zhC {G K : Prop} (k : K) (f : PLift K → G := by
 intro k;refine z7j ?_;refine zU ?_
 repeat (first | (refine z7 (by first | exact omv | exact z0x) ?_) | refine Trip.seq ?_ | refine zd ?_ | (refine Trip.skip ?_; (change Trip _ _ _ _ _)) | (refine Trip.ret ?_; (dsimp only)) | (refine OpsL.nil ?_; (change Trip _ _ _ _ _)))
 exact k.down) : G := f ⟨k⟩
theorem zhB {G K : Prop} (k : K) (f : PLift K → G := by
 intro k
 repeat (first | refine z7 (by exact z0x) ?_ | refine Trip.seq ?_ | refine zd ?_ | (refine Trip.exit ?_; ((repeat (refine zM ?_)); change Trip _ _ _ _ _)) | (refine Trip.ret ?_; (dsimp only)) | (refine OpsL.nil ?_; (change Trip _ _ _ _ _)))
 exact k.down) : G := f ⟨k⟩
theorem zfg {G K : Prop} (k : K) (f : PLift K → G := by
 intro k
 repeat (first | refine z7 (by exact z0x) ?_ | (refine Trip.ret ?_; (dsimp only)) | (refine OpsL.nil ?_; (change Trip _ _ _ _ _)))
 exact k.down) : G := f ⟨k⟩
theorem zhA {G K : Prop} (k : K) (f : PLift K → G := by
 intro k;refine z05 ?_
 repeat (first | (refine z7 (by first | exact omv | exact z0x | exact z6w) ?_) | refine zd ?_ | (refine Trip.exit ?_; ((repeat (refine zM ?_)); change Trip _ _ _ _ _)) | (refine OpsL.nil ?_; (dsimp only)))
 exact k.down) : G := f ⟨k⟩
theorem zgc {G K : Prop} (k : K) (f : PLift K → G := by
 intro k
 repeat (first | (refine z7 (by first | exact omv | exact z2q | exact z27) ?_) | (refine OpsL.nil ?_; (change Trip _ _ _ _ _)) | refine zF ?_)
 exact k.down) : G := f ⟨k⟩
theorem zgb {G K : Prop} (k : K) (f : PLift K → G := by
 intro k
 repeat (first | (refine z7 (by first | exact omv | exact ofa | exact old) ?_) | refine zd ?_ | (refine OpsL.nil ?_; (change Trip _ _ _ _ _)))
 exact k.down) : G := f ⟨k⟩
theorem zdy {G K : Prop} (k : K) (f : PLift K → G := by
 intro k;refine zg0 ?_;refine z9v ?_;refine z57 ?_;refine zbb ?_;refine z57 ?_;exact k.down) : G := f ⟨k⟩
theorem z5o {G K : Prop} (k : K) (f : PLift K → G := by
 intro k;refine Trip.seq ?_;refine zd ?_;exact k.down) : G := f ⟨k⟩
theorem zff {G K : Prop} (k : K) (f : PLift K → G := by
 intro k;refine z0c ?_;refine z4f ?_;refine zg0 ?_;refine zii ?_;refine z57 ?_;refine zj ?_;exact k.down) : G := f ⟨k⟩
theorem zga {G K : Prop} (k : K) (f : PLift K → G := by
 intro k
 repeat (first | (refine z7 (by first | exact omv | exact z1s | exact old | exact ofa) ?_) | refine Trip.seq ?_ | refine zd ?_)
 exact k.down) : G := f ⟨k⟩
theorem zeB {G K : Prop} (k : K) (f : PLift K → G := by
 intro k
 repeat (first | (refine Trip.ret ?_; (dsimp only)) | (refine OpsL.nil ?_; (change Trip _ _ _ _ _)))
 exact k.down) : G := f ⟨k⟩
theorem zhz {G K : Prop} (k : K) (f : PLift K → G := by
 intro k
 repeat (first | (refine z7 (by first | exact omv | exact z0x | exact z1s) ?_) | refine Trip.seq ?_ | refine zd ?_ | (refine OpsL.nil ?_; (change Trip _ _ _ _ _)))
 refine z8c ?_;refine zfi ?_;exact k.down) : G := f ⟨k⟩
theorem zgs {G K : Prop} (k : K) (f : PLift K → G := by
 intro k
 repeat (first | (refine z7 (by first | exact z0x | exact omv) ?_) | refine Trip.seq ?_ | refine zd ?_ | (refine OpsL.nil ?_; (change Trip _ _ _ _ _)))
 exact k.down) : G := f ⟨k⟩
theorem z6V {G K : Prop} (k : K) (f : PLift K → G := by
 intro k;refine z7j ?_;refine z05 ?_;exact k.down) : G := f ⟨k⟩
theorem zdH {G K : Prop} (k : K) (f : PLift K → G := by
 intro k
 repeat (first | refine z7 (by exact z27) ?_ | (refine OpsL.nil ?_; (skip)))
 exact k.down) : G := f ⟨k⟩
theorem zfZ {G K : Prop} (k : K) (f : PLift K → G := by
 intro k
 repeat (first | refine z7 (by exact z0x) ?_ | refine Trip.seq ?_ | (refine OpsL.nil ?_; (change Trip _ _ _ _ _)))
 exact k.down) : G := f ⟨k⟩
theorem zfe {G K : Prop} (k : K) (f : PLift K → G := by
 intro k
 repeat (first | refine z7 (by exact omv) ?_ | (refine OpsL.nil ?_; (skip)) | refine zj ?_)
 exact k.down) : G := f ⟨k⟩
theorem zhy {G K : Prop} (k : K) (f : PLift K → G := by
 intro k
 repeat (first | (refine z7 (by first | exact omv | exact z1s | exact zeJ | exact z0x) ?_) | refine Trip.seq ?_ | refine zd ?_ | (refine OpsL.nil ?_; (change Trip _ _ _ _ _)))
 exact k.down) : G := f ⟨k⟩
theorem zfd {G K : Prop} (k : K) (f : PLift K → G := by
 intro k
 repeat (first | refine z7 (by exact z27) ?_ | (refine OpsL.nil ?_; (change Trip _ _ _ _ _)))
 exact k.down) : G := f ⟨k⟩
theorem zhx {G K : Prop} (k : K) (f : PLift K → G := by
 intro k
 repeat (first | (refine z7 (by first | exact z0x | exact ofa | exact old) ?_) | refine Trip.seq ?_ | refine zd ?_ | (refine OpsL.nil ?_; (change Trip _ _ _ _ _)))
 exact k.down) : G := f ⟨k⟩
theorem zhw {G K : Prop} (k : K) (f : PLift K → G := by
 intro k
 repeat (first | (refine z7 (by first | exact omv | exact ofa | exact old) ?_) | refine Trip.seq ?_ | refine zd ?_ | (refine OpsL.nil ?_; (change Trip _ _ _ _ _)))
 exact k.down) : G := f ⟨k⟩
theorem zhv {G K : Prop} (k : K) (f : PLift K → G := by
 intro k;refine zg3 ?_;refine zg1 ?_;refine zaz ?_;refine zg1 ?_
 repeat (first | refine z7 (by exact z1s) ?_ | (refine OpsL.nil ?_; (skip)))
 refine zg1 ?_;exact k.down) : G := f ⟨k⟩
theorem zhu {G K : Prop} (k : K) (f : PLift K → G := by
 intro k
 repeat (first | refine z7 (by exact z0x) ?_ | (refine Trip.ret ?_; ((repeat (refine z1i ?_)); dsimp only)) | (refine OpsL.nil ?_; (change Trip _ _ _ _ _)))
 exact k.down) : G := f ⟨k⟩
theorem zht {G K : Prop} (k : K) (f : PLift K → G := by
 intro k;refine z05 ?_
 repeat (first | (refine z7 (by first | exact omv | exact z6w | exact zgj | exact z4s | exact ofa | exact old) ?_) | refine zd ?_)
 exact k.down) : G := f ⟨k⟩
theorem zgr {G K : Prop} (k : K) (f : PLift K → G := by
 intro k;refine z05 ?_
 repeat (first | (refine z7 (by first | exact omv | exact ofa | exact old) ?_) | refine zd ?_)
 exact k.down) : G := f ⟨k⟩
theorem zhs {G K : Prop} (k : K) (f : PLift K → G := by
 intro k
 repeat (first | (refine z7 (by first | exact ofa | exact old) ?_) | refine Trip.seq ?_ | refine zd ?_ | (refine OpsL.nil ?_; (change Trip _ _ _ _ _)))
 exact k.down) : G := f ⟨k⟩
theorem zgq {G K : Prop} (k : K) (f : PLift K → G := by
 intro k;refine zg1 ?_
 repeat (first | refine z7 (by exact z6w) ?_ | (refine OpsL.nil ?_; (skip)))
 refine zg1 ?_;exact k.down) : G := f ⟨k⟩
theorem zhO {G K : Prop} (k : K) (f : PLift K → G := by
 intro k
 repeat (first | (refine z7 (by first | exact omv | exact z0x | exact z1s | exact ofa | exact old) ?_) | refine Trip.seq ?_ | refine zd ?_ | refine Trip.block ?_ | (refine OpsL.nil ?_; (change Trip _ _ _ _ _)))
 exact k.down) : G := f ⟨k⟩
theorem zi9 {G K : Prop} (k : K) (f : PLift K → G := by
 intro k;refine z6t ?_;refine z1G ?_;refine z6V ?_
 repeat (first | (refine z7 (by first | exact omv | exact zeJ | exact z1s | exact z4s | exact za (k := 2) (by simp only [ASt.ev, z9, ↓reduceIte, Nat.reduceEqDiff, *]; rfl) (by exact rfl) rfl (by exact rfl) (by assumption)) ?_) | refine Trip.seq ?_ | refine zd ?_ | refine Trip.block ?_ | (refine Trip.skip ?_; (change Trip _ _ _ _ _)))
 exact k.down) : G := f ⟨k⟩
theorem zdx {G K : Prop} (k : K) (f : PLift K → G := by
 intro k
 repeat (first | refine Trip.seq ?_ | refine zd ?_)
 exact k.down) : G := f ⟨k⟩
theorem z9u {G K : Prop} (k : K) (f : PLift K → G := by
 intro k;refine z4f ?_;refine z57 ?_;exact k.down) : G := f ⟨k⟩
theorem zhr {G K : Prop} (k : K) (f : PLift K → G := by
 intro k
 repeat (first | refine z7 (by exact ofa) ?_ | (refine OpsL.nil ?_; (dsimp only)) | refine zj ?_)
 exact k.down) : G := f ⟨k⟩
theorem zfY {G K : Prop} (k : K) (f : PLift K → G := by
 intro k
 repeat (first | refine Trip.seq ?_ | (refine OpsL.nil ?_; (change Trip _ _ _ _ _)))
 exact k.down) : G := f ⟨k⟩
theorem zeA {G K : Prop} (k : K) (f : PLift K → G := by
 intro k;refine z57 ?_;refine zib ?_;refine zg0 ?_;exact k.down) : G := f ⟨k⟩
theorem zba {G K : Prop} (k : K) (f : PLift K → G := by
 intro k
 repeat (refine z7 (by exact omv) ?_)
 exact k.down) : G := f ⟨k⟩
theorem zfc {G K : Prop} (k : K) (f : PLift K → G := by
 intro k
 repeat (first | (refine OpsL.nil ?_; (skip)) | refine zF ?_)
 exact k.down) : G := f ⟨k⟩
theorem zhq {G K : Prop} (k : K) (f : PLift K → G := by
 intro k
 repeat (first | (refine z7 (by first | exact omv | exact ofa | exact old | exact z2q) ?_) | refine zj ?_)
 exact k.down) : G := f ⟨k⟩
theorem zgp {G K : Prop} (k : K) (f : PLift K → G := by
 intro k;refine z6V ?_
 repeat (first | refine z7 (by exact omv) ?_ | refine zd ?_)
 exact k.down) : G := f ⟨k⟩
theorem zhp {G K : Prop} (k : K) (f : PLift K → G := by
 intro k
 repeat (first | (refine z7 (by first | exact omv | exact z4s) ?_) | refine Trip.seq ?_ | refine zd ?_)
 exact k.down) : G := f ⟨k⟩
theorem zhN {G K : Prop} (k : K) (f : PLift K → G := by
 intro k
 repeat (first | (refine z7 (by first | exact omv | exact zO (by simp only [ASt.ev, z9, ↓reduceIte, Nat.reduceEqDiff, *]; rfl) (by exact rfl)) ?_))
 exact k.down) : G := f ⟨k⟩
theorem z9t {G K : Prop} (k : K) (f : PLift K → G := by
 intro k;refine zg8 ?_;refine zdA ?_;exact k.down) : G := f ⟨k⟩
theorem zez {G K : Prop} (k : K) (f : PLift K → G := by
 intro k;refine z4f ?_;refine zg0 ?_;refine zih ?_;exact k.down) : G := f ⟨k⟩
theorem z5q {G K : Prop} (k : K) (f : PLift K → G := by
 intro k;refine z4f ?_;refine OpsK.nil ?_;exact k.down) : G := f ⟨k⟩
theorem z6E {G K : Prop} (k : K) (f : PLift K → G := by
 intro k
 repeat (refine z7 (by exact z4s) ?_)
 exact k.down) : G := f ⟨k⟩
theorem z5K {G K : Prop} (k : K) (f : PLift K → G := by
 intro k;refine z7j ?_;refine zU ?_;exact k.down) : G := f ⟨k⟩
theorem z9z {G K : Prop} (k : K) (f : PLift K → G := by
 intro k;refine zia ?_;refine zbb ?_;refine z57 ?_;exact k.down) : G := f ⟨k⟩
theorem zfr {G K : Prop} (k : K) (f : PLift K → G := by
 intro k
 repeat (first | (refine z7 (by first | exact omv | exact z3R | exact ofa | exact old | exact z27) ?_) | refine zj ?_)
 exact k.down) : G := f ⟨k⟩
theorem zfq {G K : Prop} (k : K) (f : PLift K → G := by
 intro k
 repeat (first | refine Trip.seq ?_ | refine zd ?_ | refine Trip.block ?_ | (refine Trip.skip ?_; (change Trip _ _ _ _ _)))
 exact k.down) : G := f ⟨k⟩
theorem z9y {G K : Prop} (k : K) (f : PLift K → G := by
 intro k;refine zg4 ?_;refine z9v ?_;refine zg1 ?_;exact k.down) : G := f ⟨k⟩
theorem z6D {G K : Prop} (k : K) (f : PLift K → G := by
 intro k;refine z0K ?_;refine zj ?_;exact k.down) : G := f ⟨k⟩
theorem zbh {G K : Prop} (k : K) (f : PLift K → G := by
 intro k;refine z9u ?_;refine zgw ?_;refine OpsK.nil ?_;exact k.down) : G := f ⟨k⟩
theorem zdL {G K : Prop} (k : K) (f : PLift K → G := by
 intro k
 ((repeat (first | refine zM ?_ | refine zK ?_)); dsimp only)
 exact k.down) : G := f ⟨k⟩
theorem z5p {G K : Prop} (k : K) (f : PLift K → G := by
 intro k;refine zg1 ?_;refine zgw ?_;exact k.down) : G := f ⟨k⟩
theorem zfp {G K : Prop} (k : K) (f : PLift K → G := by
 intro k
 repeat (first | (refine z7 (by first | exact omv | exact old | exact ofa | exact z27) ?_) | refine zj ?_)
 exact k.down) : G := f ⟨k⟩
theorem z5J {G K : Prop} (k : K) (f : PLift K → G := by
 intro k;refine z8c ?_;refine zdA ?_;exact k.down) : G := f ⟨k⟩
theorem zgI {G K : Prop} (k : K) (f : PLift K → G := by
 intro k;refine zU ?_
 repeat (first | (refine z7 (by first | exact ofa | exact old) ?_) | refine Trip.seq ?_ | refine zd ?_ | (refine Trip.exit ?_; ((repeat (refine zM ?_)); change Trip _ _ _ _ _)))
 exact k.down) : G := f ⟨k⟩
theorem z8i {G K : Prop} (k : K) (f : PLift K → G := by
 intro k
 repeat (refine Trip.ret ?_; (dsimp only))
 exact k.down) : G := f ⟨k⟩
theorem zgH {G K : Prop} (k : K) (f : PLift K → G := by
 intro k
 repeat (first | (refine z7 (by first | exact omv | exact z3R | exact z6w | exact zgj | exact z4s | exact ofa | exact old | exact z27) ?_) | (refine OpsL.nil ?_; (change Trip _ _ _ _ _)) | refine zj ?_)
 exact k.down) : G := f ⟨k⟩
theorem zfo {G K : Prop} (k : K) (f : PLift K → G := by
 intro k;refine zeA ?_;refine z17 ?_;refine z4f ?_;refine zg0 ?_;refine zg6 ?_;refine zg6 ?_;exact k.down) : G := f ⟨k⟩
theorem z7l {G K : Prop} (k : K) (f : PLift K → G := by
 intro k;refine OpsR.nil ?_;refine zhF ?_;exact k.down) : G := f ⟨k⟩
theorem z5I {G K : Prop} (k : K) (f : PLift K → G := by
 intro k;refine zg1 ?_;refine zib ?_;exact k.down) : G := f ⟨k⟩
theorem z8h {G K : Prop} (k : K) (f : PLift K → G := by
 intro k
 repeat (refine z7 (by exact ofa) ?_)
 exact k.down) : G := f ⟨k⟩
theorem zcn {G K : Prop} (k : K) (f : PLift K → G := by
 intro k
 repeat (refine z7 (by first | exact ofa | exact old) ?_)
 exact k.down) : G := f ⟨k⟩
theorem zbg {G K : Prop} (k : K) (f : PLift K → G := by
 intro k;refine zg4 ?_;refine zbb ?_;refine zg3 ?_;exact k.down) : G := f ⟨k⟩
theorem zgG {G K : Prop} (k : K) (f : PLift K → G := by
 intro k
 repeat (first | (refine z7 (by first | exact omv | exact z3R | exact z2q | exact z27) ?_) | (refine OpsL.nil ?_; (change Trip _ _ _ _ _)) | refine zj ?_ | refine zF ?_)
 refine zdD ?_;exact k.down) : G := f ⟨k⟩
theorem zfn {G K : Prop} (k : K) (f : PLift K → G := by
 intro k;refine z0K ?_
 repeat (first | refine z7 (by exact z0x) ?_ | (refine OpsL.nil ?_; (dsimp only)))
 exact k.down) : G := f ⟨k⟩
theorem zgF {G K : Prop} (k : K) (f : PLift K → G := by
 intro k;refine zg0 ?_;refine zhr ?_;refine z57 ?_
 repeat (first | refine z7 (by exact old) ?_ | (refine OpsL.nil ?_; (skip)) | refine zj ?_)
 refine z57 ?_;refine zj ?_;exact k.down) : G := f ⟨k⟩
theorem zgE {G K : Prop} (k : K) (f : PLift K → G := by
 intro k
 repeat (first | (refine z7 (by first | exact omv | exact z4s | exact old) ?_) | refine Trip.seq ?_ | refine zd ?_ | refine Trip.block ?_ | (refine Trip.skip ?_; (change Trip _ _ _ _ _)))
 exact k.down) : G := f ⟨k⟩
theorem zgD {G K : Prop} (k : K) (f : PLift K → G := by
 intro k
 repeat (first | (refine z7 (by first | exact omv | exact z0x | exact z2q) ?_) | refine Trip.seq ?_ | refine zd ?_ | (refine OpsL.nil ?_; (change Trip _ _ _ _ _)) | refine zj ?_)
 exact k.down) : G := f ⟨k⟩
theorem z4R {G K : Prop} (k : K) (f : PLift K → G := by
 intro k
 repeat (refine Trip.seq ?_)
 exact k.down) : G := f ⟨k⟩
theorem z8g {G K : Prop} (k : K) (f : PLift K → G := by
 intro k;refine z05 ?_;refine zgd ?_;exact k.down) : G := f ⟨k⟩
theorem z8f {G K : Prop} (k : K) (f : PLift K → G := by
 intro k;refine zdI ?_;refine zU ?_;exact k.down) : G := f ⟨k⟩
theorem zfm {G K : Prop} (k : K) (f : PLift K → G := by
 intro k
 repeat (first | refine z7 (by exact z2q) ?_ | (refine OpsL.nil ?_; (change Trip _ _ _ _ _)))
 exact k.down) : G := f ⟨k⟩
end Go.Am
namespace Go.Am
open Go.RowKit
section
variable {P : Program} {W0 : World} {ops : Array Oper}
def z5V (ops : Array Oper) (k : Nat) (o : Oper) : Bool :=
 z1Z o.op || z4C o.op || z1A (fun j oj => !z1Z oj.op || z9x o j || z9x oj k) 0 ops.toList
variable {nx0 : Nat} {H0 : Heap}
section
variable {k : Nat} {type : TypeId} {pos : String} {after : Array Edge} {l : List Oper} {tm : Nat → Value} {n nx nx' : Nat} {H H' : Heap} {v : Value} {QQ : ASt → Prop} {f : FuncId} {d : Tmp} {ts : Array TypeId}
end
def z2C : List Oper → List (Value × Nat × Heap) → ASt → Nat → ASt
 | o :: l, ve :: vs, st, i + 1 => z2C l vs ⟨z9 st.tm o.dst ve.1, st.n, ve.2.2, ve.2.1⟩ i
 | _, _, st, _ => st
theorem z4H (l : List Oper) (vs : List (Value × Nat × Heap)) (st : ASt) : z2C l vs st 0 = st := by cases l <;> cases vs <;> rfl
def z3a : Value × Nat × Heap := (undef, 0, zgY)
def zbl (ops : Array Oper) : Nat → Oper → Nat → Bool
 | 0, o, i => z9x o i
 | n + 1, o, i => z9x o i || (List.range ops.size).any fun m => z9x o m && (match ops[m]? with | some om => zbl ops n om i | none => false)
theorem z8P {ops : Array Oper} : ∀ (n : Nat) (o : Oper) (i : Nat), zbl ops n o i = true → zgC ops n o i := by
 intro n
 induction n with
 | zero => intro o i h; exact z0E.1 h
 | succ n ih =>
  intro o i h;simp only [zbl, Bool.or_eq_true, List.any_eq_true, Bool.and_eq_true] at h;rcases h with h | ⟨m, _, h1, h2⟩
  ·exact .inl (z0E.1 h)
  ·cases ho : ops[m]? with
   | none => rw [ho] at h2; cases h2
   | some om => rw [ho] at h2; exact .inr ⟨m, om, ho, z0E.1 h1, ih om i h2⟩
def zeY (ops : Array Oper) : Bool :=
 z1A (fun i oi => z1A (fun j oj => !(z1Z oi.op && z1Z oj.op && decide (i < j)) || zbl ops 3 oj i || (List.range ops.size).any fun k => decide (i < k) && decide (k < j) && (match ops[k]? with | some o => z1Z o.op | none => false)) 0 ops.toList) 0 ops.toList
theorem z4Y {o : Op} (h : z4a o = true) : z1Z o = true := by
 cases o <;> simp only [z4a] at h <;> try (cases h; done)
 rename_i c;cases hc : c.callee <;> simp [z4a, hc] at h <;> simp [z1Z, hc]
theorem z3v {st : ASt} {o : Oper} : z3E (evR (z35 o) st.tm) o = z0O st o := by
 unfold z3E z0O;cases ho : o.op <;> simp only;rename_i c;cases hc : c.callee <;> simp only;rename_i x
 have hm : ∀ y, y = x ∨ y ∈ c.args.toList → evR (z35 o) st.tm y = st.ev y := fun y hy =>
  z7p (n := st.n) (nx := st.nx) (H := st.H) (fun t ht => z5A (by
   rw [ho, ← ht];simp only [Op.operands, Call.operands, hc];rcases hy with rfl | hy
   ·simp
   ·simp; right; simpa using hy))
 rw [hm x (.inl rfl), z3o c.args.toList (fun y hy => hm y (.inr hy))];rfl
end
end Go.Am
namespace Go.Am
open Go.RowKit
section
variable {P : Program} {W0 : World} {ops : Array Oper}
def OpsK (P : Program) (W0 : World) (ops : Array Oper) (K : Nat → Heap → Prop) : Nat → List Oper → ASt → (ASt → Prop) → Prop
 | _, [], st, Q => Q st
 | k, o :: l, st, Q => z1c st o = true ∧ ((z10 ops st o = false ∧ OpsK P W0 ops K (k + 1) l (st.put o.dst undef .none) Q) ∨ (z10 ops st o = true ∧
   ((∃ v e, aop P st.H st.nx st.ev o = some (v, e) ∧ z5V ops k o = true ∧ (z1Z o.op = true → K (e.nx st.nx) (e.H st.nx st.H)) ∧ OpsK P W0 ops K (k + 1) l (st.put o.dst v e) Q) ∨
    (∃ v, z1Z o.op = false ∧ (∀ H' nx', K nx' H' → aop P H' nx' st.ev o = some (v, .none)) ∧ OpsK P W0 ops K (k + 1) l (st.put o.dst v .none) Q) ∨
    (∃ f args v nx' H', z0O st o = some (f, args) ∧ z0F P f ∧ ACalls P W0 f args st.nx st.H (fun v1 n1 H1 => v1 = v ∧ n1 = nx' ∧ H1 = H') ∧ K nx' H' ∧ OpsK P W0 ops K (k + 1) l ⟨z9 st.tm o.dst v, st.n, H', nx'⟩ Q))))
variable {K : Nat → Heap → Prop}
theorem OpsK.nil {k : Nat} {st : ASt} {Q : ASt → Prop} (h : Q st) : OpsK P W0 ops K k [] st Q := h
theorem OpsK.one {k : Nat} {o : Oper} {l : List Oper} {st : ASt} {Q : ASt → Prop} (he : z1Z o.op = false) (hk : z5V ops k o = true) (h : OpsL P W0 ops [o] st fun s => OpsK P W0 ops K (k + 1) l s Q) : OpsK P W0 ops K k (o :: l) st Q := by
 obtain ⟨hd, h⟩ := h;refine ⟨hd, ?_⟩;rcases h with ⟨hw, h⟩ | ⟨hw, ⟨v, e, hop, h⟩ | ⟨f, args, R, hc, _⟩⟩
 ·exact .inl ⟨hw, h⟩
 ·exact .inr ⟨hw, .inl ⟨v, e, hop, hk, fun hx => (by rw [he] at hx; cases hx), h⟩⟩
 ·have := z2l hc
  cases ho : o.op <;> simp only [ho, z4a] at this <;> try (cases this; done)
  rename_i c;cases hcc : c.callee <;> simp [hcc] at this <;> simp [z1Z, ho, hcc] at he
section
variable {k : Nat} {type : TypeId} {pos : String} {after : Array Edge} {l : List Oper} {tm : Nat → Value} {n nx nx' : Nat} {H H' : Heap} {v : Value} {QQ : ASt → Prop} {f : FuncId} {d : Tmp} {ts : Array TypeId}
end
def zfb (P : Program) (W0 : World) (ops : Array Oper) (K : Nat → Heap → Prop) (k : Nat) (st : ASt) (o : Oper) (v : Value) (nx' : Nat) (H' : Heap) : Prop :=
 z1c st o = true ∧ ((z10 ops st o = false ∧ v = undef ∧ nx' = st.nx ∧ H' = st.H) ∨ (z10 ops st o = true ∧ ((∃ e, aop P st.H st.nx st.ev o = some (v, e) ∧ z5V ops k o = true ∧ (z1Z o.op = true → K nx' H') ∧ nx' = e.nx st.nx ∧ H' = e.H st.nx st.H) ∨
  (z1Z o.op = false ∧ (∀ H1 n1, K n1 H1 → aop P H1 n1 st.ev o = some (v, .none)) ∧ nx' = st.nx ∧ H' = st.H) ∨
  (z4a o.op = true ∧ K nx' H' ∧ ∃ f args, z0O st o = some (f, args) ∧ z0F P f ∧ ACalls P W0 f args st.nx st.H (fun v1 n1 H1 => v1 = v ∧ n1 = nx' ∧ H1 = H')))))
theorem zdw {Q : ASt → Prop} : ∀ (l : List Oper) (k : Nat) (st : ASt), OpsK P W0 ops K k l st Q → ∃ vs : List (Value × Nat × Heap), vs.length = l.length ∧ Q (z2C l vs st l.length) ∧
  ∀ (i : Nat) (o : Oper), l[i]? = some o → zfb P W0 ops K (k + i) (z2C l vs st i) o (vs.getD i z3a).1 (vs.getD i z3a).2.1 (vs.getD i z3a).2.2 ∧ z2C l vs st (i + 1) = ⟨z9 (z2C l vs st i).tm o.dst (vs.getD i z3a).1, (z2C l vs st i).n, (vs.getD i z3a).2.2, (vs.getD i z3a).2.1⟩ := by
 intro l
 induction l with
 | nil => intro k st h; exact ⟨[], rfl, h, fun i o ho => by simp at ho⟩
 | cons o l ih =>
  intro k st h;obtain ⟨hd, h⟩ := h
  have key : ∃ v nx' H', zfb P W0 ops K k st o v nx' H' ∧ OpsK P W0 ops K (k + 1) l ⟨z9 st.tm o.dst v, st.n, H', nx'⟩ Q := by
   rcases h with ⟨hw, h⟩ | ⟨hw, ⟨v, e, hop, he, hx, h⟩ | ⟨v, he, hop, h⟩ | ⟨f, args, v, nx', H', hc, hf, hcall, hx, h⟩⟩
   ·exact ⟨undef, st.nx, st.H, ⟨hd, .inl ⟨hw, rfl, rfl, rfl⟩⟩, h⟩
   ·exact ⟨v, e.nx st.nx, e.H st.nx st.H, ⟨hd, .inr ⟨hw, .inl ⟨e, hop, he, hx, rfl, rfl⟩⟩⟩, h⟩
   ·exact ⟨v, st.nx, st.H, ⟨hd, .inr ⟨hw, .inr (.inl ⟨he, hop, rfl, rfl⟩)⟩⟩, h⟩
   ·exact ⟨v, nx', H', ⟨hd, .inr ⟨hw, .inr (.inr ⟨z2l hc, hx, f, args, hc, hf, hcall⟩)⟩⟩, h⟩
  obtain ⟨v, nx', H', h1, h2⟩ := key;obtain ⟨vs, e1, e2, e3⟩ := ih _ _ h2;refine ⟨(v, nx', H') :: vs, by simp [e1], e2, ?_⟩;intro i o' ho;cases i with
  | zero =>
   simp only [List.getElem?_cons_zero, Option.some.injEq] at ho;subst ho;refine ⟨by rw [z4H]; exact h1, ?_⟩;show z2C l vs ⟨z9 st.tm o.dst v, st.n, H', nx'⟩ 0 = _;rw [z4H, z4H]; rfl
  | succ i =>
   have := e3 i o' (by simpa using ho);rw [show k + (i + 1) = k + 1 + i by omega];exact this
theorem OpsK.drawn {id : Nat} {st : ASt} {Q : AExit → ASt → Prop} (hm : P.follows .mixedOrders = true) (hs : z6X ops = true) (hq : zeY ops = true) (h0 : K st.nx st.H) (h : OpsK P W0 ops K 0 ops.toList st (Q .normal)) : Trip P W0 (.region id ops true) st Q := by
 have q2 := hq;unfold zeY at q2;obtain ⟨vs, e1, e2, e3⟩ := zdw _ _ _ h;simp only [Nat.zero_add] at e3;obtain ⟨b1, b2, b3⟩ := z3l hs;have toL : ∀ (i : Nat) (o : Oper), ops[i]? = some o → ops.toList[i]? = some o := fun i o ho => by simpa using ho
 have hz := z4H ops.toList vs st
 have hnn : ∀ i, i ≤ ops.size → (z2C ops.toList vs st i).n = st.n := by
  intro i
  induction i with
  | zero => intro _; rw [hz]
  | succ i ih =>
   intro hi;have ho : ops[i]? = some ops[i] := Array.getElem?_eq_getElem (by omega);rw [(e3 i _ (toL i _ ho)).2];exact ih (by omega)
 have hend : ∀ i, ops[i]? = none → z2C ops.toList vs st (i + 1) = z2C ops.toList vs st i := by
  have gen : ∀ (l : List Oper) (us : List (Value × Nat × Heap)) (st : ASt) (i : Nat), us.length = l.length → l.length ≤ i → z2C l us st (i + 1) = z2C l us st i := by
   intro l
   induction l with
   | nil => intro us st i _ _; cases i <;> rfl
   | cons o l ih =>
    intro us st i hu hi;cases us with
    | nil => simp at hu
    | cons u us =>
     cases i with
     | zero => simp at hi
     | succ i => exact ih us _ i (by simpa using hu) (by simpa using hi)
  intro i hi;exact gen _ _ _ _ e1 (by simpa using Array.getElem?_eq_none_iff.1 hi)
 have hstill : ∀ i, z28 ops i = false → (z2C ops.toList vs st (i + 1)).H = (z2C ops.toList vs st i).H ∧ (z2C ops.toList vs st (i + 1)).nx = (z2C ops.toList vs st i).nx := by
  intro i hi;cases ho : ops[i]? with
  | none => rw [hend i ho]; exact ⟨rfl, rfl⟩
  | some o =>
   obtain ⟨⟨_, p2⟩, p3⟩ := e3 i o (toL i o ho);have hE : z1Z o.op = false := by simpa [z28, ho] using hi
   rw [p3];rcases p2 with ⟨_, _, c, d⟩ | ⟨_, ⟨e, c1, _, _, c2, c3⟩ | ⟨_, _, c, d⟩ | ⟨g, _⟩⟩
   ·exact ⟨d, c⟩
   ·have := z32 hE c1
    subst this;exact ⟨c3, c2⟩
   ·exact ⟨d, c⟩
   ·rw [z4Y g] at hE; cases hE
 have hextAll : ∀ i, i ≤ ops.size → K (z2C ops.toList vs st i).nx (z2C ops.toList vs st i).H := by
  intro i
  induction i with
  | zero => intro _; rw [hz]; exact h0
  | succ i ih =>
   intro hi;have ho : ops[i]? = some ops[i] := Array.getElem?_eq_getElem (by omega);by_cases hE : z1Z ops[i].op = true
   ·obtain ⟨⟨_, p2⟩, p3⟩ := e3 i _ (toL i _ ho)
    rw [p3];rcases p2 with ⟨_, _, c, d⟩ | ⟨_, ⟨e, _, _, c, _⟩ | ⟨g, _⟩ | ⟨_, c, _⟩⟩
    ·rw [c, d]; exact ih (by omega)
    ·exact c hE
    ·rw [g] at hE; cases hE
    ·exact c
   ·obtain ⟨a, b⟩ := hstill i (by unfold z28; rw [ho]; simpa using hE)
    rw [a, b]; exact ih (by omega)
 have hrange : ∀ m p, (∀ j, p ≤ j → j < p + m → z28 ops j = false) → (z2C ops.toList vs st (p + m)).H = (z2C ops.toList vs st p).H ∧ (z2C ops.toList vs st (p + m)).nx = (z2C ops.toList vs st p).nx := by
  intro m
  induction m with
  | zero => intro p _; exact ⟨rfl, rfl⟩
  | succ m ih =>
   intro p hp;obtain ⟨a1, a2⟩ := ih p (fun j h1 h2 => hp j h1 (by omega));obtain ⟨c1, c2⟩ := hstill (p + m) (hp _ (by omega) (by omega));exact ⟨by rw [show p + (m + 1) = p + m + 1 by omega, c1, a1], by rw [show p + (m + 1) = p + m + 1 by omega, c2, a2]⟩
 have hev : ∀ (i : Nat) (o : Oper) (H : Heap) (nx : Nat), aop P H nx (evR (z35 o) (z2C ops.toList vs st i).tm) o = aop P H nx (z2C ops.toList vs st i).ev o := fun i o H nx =>
  z65 (fun x hx => z7p (n := (z2C ops.toList vs st i).n) (nx := (z2C ops.toList vs st i).nx) (H := (z2C ops.toList vs st i).H) (fun t ht => z5A (by rw [← ht]; exact hx)))
 refine Trip.drawn (tms := fun i => (z2C ops.toList vs st i).tm) (vs := fun i => (vs.getD i z3a).1) (Hs := fun i => (z2C ops.toList vs st i).H) (ns := fun i => (z2C ops.toList vs st i).nx) (isE := z28 ops) hm
  ⟨by rw [hz], by rw [hz], by rw [hz], ?_, ?_, hstill, b1, b2, b3, ?_, ?_, ?_⟩ ?_
 ·intro i o ho
  rw [(e3 i o (toL i o ho)).2]
 ·intro i o ho
  obtain ⟨⟨p1, p2⟩, p3⟩ := e3 i o (toL i o ho);have hlt : i < ops.size := (Array.getElem?_eq_some_iff.1 ho).1;refine ⟨fun d hd => by have := z0U p1 d hd; rwa [hnn i (by omega)] at this, ?_⟩;simp only [z09];rcases p2 with ⟨a, b, c, d⟩ | ⟨a, ⟨e, c1, _, _, c2, c3⟩ | ⟨_, c1, c2, c3⟩ | ⟨_, _, f, args, g1, g2, g3⟩⟩
  ·exact .inl ⟨a, b, by rw [p3, d], by rw [p3, c]⟩
  ·exact .inr ⟨a, .inl ⟨e, by rw [hev]; exact c1, by rw [p3, c3], by rw [p3, c2]⟩⟩
  ·exact .inr ⟨a, .inl ⟨.none, by rw [hev]; exact c1 _ _ (hextAll i (by omega)), by rw [p3, c3]; rfl, by rw [p3, c2]; rfl⟩⟩
  ·refine .inr ⟨a, .inr (.inl ⟨f, args, by rw [z3v]; exact g1, g2, ?_⟩)⟩
   rw [p3]; exact g3
 ·intro i j oj hi hj hoj hij hbetween
  unfold z28 at hi hj;cases hoi : ops[i]? with
  | none => rw [hoi] at hi; cases hi
  | some oi =>
   rw [hoi] at hi;rw [hoj] at hj;simp only at hi hj;have := zX _ _ (zX _ _ q2 i oi (toL i oi hoi)) j oj (toL j oj hoj);simp only [Nat.zero_add, hi, hj, hij, decide_true, Bool.and_self, Bool.not_true, Bool.false_or, Bool.or_eq_true] at this;rcases this with h1 | h1
   ·exact ⟨3, z8P _ _ _ h1⟩
   ·rw [List.any_eq_true] at h1
    obtain ⟨k, _, hk⟩ := h1;simp only [Bool.and_eq_true, decide_eq_true_eq] at hk;obtain ⟨⟨k1, k2⟩, k3⟩ := hk;have := hbetween k k1 k2;unfold z28 at this;cases hok : ops[k]? with
    | none => rw [hok] at k3; cases k3
    | some o => rw [hok] at this k3; simp only at this k3; rw [this] at k3; cases k3
 ·intro i oi p ho hE hw _ hple hdep hnot
  obtain ⟨⟨p1, p2⟩, p3⟩ := e3 i oi (toL i oi ho);have hlt : i < ops.size := (Array.getElem?_eq_some_iff.1 ho).1;have hEo : z1Z oi.op = false := by simpa [z28, ho] using hE
  simp only [z09] at hw
  have hcases : (aop P (z2C ops.toList vs st i).H (z2C ops.toList vs st i).nx (z2C ops.toList vs st i).ev oi = some ((vs.getD i z3a).1, .none) ∧ z5V ops i oi = true) ∨ (∀ H1 n1, K n1 H1 → aop P H1 n1 (z2C ops.toList vs st i).ev oi = some ((vs.getD i z3a).1, .none)) := by
   rcases p2 with ⟨a, _⟩ | ⟨_, ⟨e, c1, c2, _⟩ | ⟨_, c, _⟩ | ⟨g, _⟩⟩
   ·rw [hw] at a; cases a
   ·rw [z32 hEo c1] at c1; exact .inl ⟨c1, c2⟩
   ·exact .inr c
   ·rw [z4Y g] at hEo; cases hEo
  show aop P _ _ (evR (z35 oi) (z2C ops.toList vs st i).tm) oi = _;rw [hev];rcases hcases with ⟨hop, hq⟩ | hst
  case inr => exact hst _ _ (hextAll p hple)
  unfold z5V at hq;simp only [hEo, Bool.false_or, Bool.or_eq_true] at hq;rcases hq with hf | hf
  ·rw [z2H (H' := (z2C ops.toList vs st i).H) (nx' := (z2C ops.toList vs st i).nx) hf]; exact hop
  ·have hrel : ∀ j, z28 ops j = true → (j < i → j < p) ∧ (i < j → p ≤ j) := by
    intro j hj;have hj' := hj;unfold z28 at hj;cases hoj : ops[j]? with
    | none => rw [hoj] at hj; cases hj
    | some oj =>
     rw [hoj] at hj;simp only at hj;have := zX _ _ hf j oj (toL j oj hoj);simp only [Nat.zero_add, hj, Bool.not_true, Bool.false_or, Bool.or_eq_true] at this;rcases this with h1 | h1
     ·have hd := z0E.1 h1
      have := b1 i oi ho j hd;exact ⟨fun _ => hdep j hj' hd, fun _ => by omega⟩
     ·have hd := z0E.1 h1
      have := b1 j oj hoj i hd;refine ⟨fun _ => by omega, fun _ => ?_⟩;rcases Nat.lt_or_ge j p with c | c
      ·exact absurd hd (hnot j oj hj' c hoj)
      ·exact c
   have hsame : (z2C ops.toList vs st p).H = (z2C ops.toList vs st i).H ∧ (z2C ops.toList vs st p).nx = (z2C ops.toList vs st i).nx := by
    rcases Nat.le_total p i with c | c
    ·obtain ⟨m, rfl⟩ : ∃ m, i = p + m := ⟨i - p, by omega⟩
     obtain ⟨a1, a2⟩ := hrange m p (fun j h1 h2 => by
      cases hj : z28 ops j with
      | false => rfl
      | true => have := (hrel j hj).1 h2; omega)
     exact ⟨a1.symm, a2.symm⟩
    ·obtain ⟨m, rfl⟩ : ∃ m, p = i + m := ⟨p - i, by omega⟩
     exact hrange m i (fun j h1 h2 => by
      cases hj : z28 ops j with
      | false => rfl
      | true =>
       have hne : j ≠ i := fun x => by rw [x, hE] at hj; cases hj
       have := (hrel j hj).2 (by omega); omega)
   simp only [hsame.1, hsame.2];exact hop
 ·intro i hi
  unfold z28 at hi;cases ho : ops[i]? with
  | none => rw [ho] at hi; cases hi
  | some o => exact (Array.getElem?_eq_some_iff.1 ho).1
 ·have hl : ops.toList.length = ops.size := by simp
  rw [hl] at e2;have hn := hnn ops.size (Nat.le_refl _);have : (⟨(z2C ops.toList vs st ops.size).tm, st.n, (z2C ops.toList vs st ops.size).H, (z2C ops.toList vs st ops.size).nx⟩ : ASt) = z2C ops.toList vs st ops.size := by rw [← hn]
  rw [this];exact e2
end
end Go.Am
