import Derived.Test.YteplpegfcpmflaaGreatQOM4
set_option linter.unusedSimpArgs false
set_option linter.unusedVariables false
set_option maxRecDepth 100000
set_option maxHeartbeats 64000000
namespace Go.Am
open Go.RowKit
section
variable {P : Program} {W0 : World} {ev : Operand → Option Value} {H : Heap} {nx n : Nat} {dst : Option Tmp} {type : TypeId} {pos : String} {after : Array Edge} {guard : Option (Nat × Bool)}
theorem zC {t : TypeId} {ps : Array (Nat × Operand)} {l : List (Nat × Value)} {v : Value} (hl : z0i ev ps.toList = some l) (hb : zaS P t l = some v) :
  aop P H nx ev ⟨dst, .build t ps, type, pos, after, guard⟩ = some (v, .none) := by simp [aop, hl, hb]
theorem zq {t : TypeId} {len : Nat} {ps : Array (Nat × Operand)} {l : List (Nat × Value)} {r : Value × Eff} (hl : z0i ev ps.toList = some l) (hb : z2D P nx t len l = some r) :
  aop P H nx ev ⟨dst, .buildSlice t len ps, type, pos, after, guard⟩ = some r := by simp [aop, hl, hb]
theorem z06 {t : TypeId} {x : Operand} {lo hi mx : Option Operand} {v r : Value} {a b c : Option Value} (hx : ev x = some v) (ha : z2d ev lo = some a) (hb : z2d ev hi = some b) (hc : z2d ev mx = some c) (h : z0E P H t v a b c = some r) :
  aop P H nx ev ⟨dst, .slice t x lo hi mx, type, pos, after, guard⟩ = some (r, .none) := by simp [aop, hx, ha, hb, hc, h]
theorem z0l {t : TypeId} {l c : Operand} {a b : Value} {r : Value × Eff} (hl : ev l = some a) (hc : ev c = some b) (h : z1A P nx t a b = some r) :
  aop P H nx ev ⟨dst, .makeSlice t l c, type, pos, after, guard⟩ = some r := by simp [aop, hl, hc, h]
theorem zeU {t u : TypeId} {x y : Operand} {a b : Bool} (hx : ev x = some (.bool a)) (hy : ev y = some (.bool b)) (hu : P.underlying t = some .bool) :
  aop P H nx ev ⟨dst, .binOp .eql t x y u, type, pos, after, guard⟩ = some (.bool (a == b), .none) := by
 have : aEq P H 60 t (.bool a) (.bool b) = some (a == b) := by simp [aEq, hu]
 simp [aop, hx, hy, z6x, zft, this]
theorem zee {a : Addr} {cs : List Value} {e : Nat} {q : Option TypeId} {v : Value} (hH : H a.block = some (.cells cs e a.spot false q)) (h : a.off < cs.length) (h1 : v.oneCell' = true) : z5j H a [v] = some (.cells (cs.set a.off v) e a.spot false q) := by
 unfold z5j;rw [hH];simp only [List.length_cons, List.length_nil, List.all_cons, List.all_nil, h1, Bool.and_self, and_true, true_and];rw [if_pos zom, List.set_eq_take_append_cons_drop, if_pos h];simp
theorem z3e {b off : Nat} {t : Option Nat} {cs : List Value} {e : Nat} {ro : Bool} {q : Option TypeId} (hH : H b = some (.cells cs e t ro q)) (h : off < cs.length) : zh H ⟨b, off, t⟩ cs[off] := by
 unfold zh z0A;simp only [hH];rw [if_pos ⟨trivial, zom⟩, List.take_one, List.head?_drop, List.getElem?_eq_getElem h];rfl
variable {ops : Array Oper} {l : List Oper} {tm : Nat → Value} {QQ : ASt → Prop}
theorem zay {t : TypeId} {x y : Operand} {a : Addr} {v : Value} {cs : List Value} {e : Nat} {q : Option TypeId} (hx : ASt.ev ⟨tm, n, H, nx⟩ x = some (.pointer (some a))) (hy : ASt.ev ⟨tm, n, H, nx⟩ y = some v) (hz : z1w P t = some 1) (hv : v.cells = #[v]) (h1 : v.oneCell' = true)
  (hH : H a.block = some (.cells cs e a.spot false q)) (hlt : a.off < cs.length) (h : OpsL P W0 ops l ⟨tm, n, H.put a.block (.cells (cs.set a.off v) e a.spot false q), nx⟩ QQ) :
  OpsL P W0 ops (⟨none, .store t x y, type, pos, after, none⟩ :: l) ⟨tm, n, H, nx⟩ QQ :=
 OpsL.upd (zw hx hy hz (by rw [hv]; rfl) (by rw [hv]; exact zee hH hlt h1)) h
theorem NumsAt.own {b : Nat} {t : Option Nat} {xs : List Int} {rest : List Value} {e c : Nat} {ro : Bool} {q : Option TypeId} (hH : H b = some (.cells (xs.map (.int .i64 ·) ++ rest) e t ro q)) : IntsAt H (.slice (some ⟨b, 0, t⟩) xs.length c) xs := by
 refine .inr ⟨⟨b, 0, t⟩, c, rfl, fun i hi => ?_⟩;have := z3e (off := 0 + i) hH (by simp; omega);simpa [List.getElem_append_left, hi] using this
theorem OwnInts.at {ob : Option (Nat × Nat)} {el : TypeId} {v : Value} {xs : List Int} (h : OwnInts H ob el v xs) : IntsAt H v xs := by
 cases ob with
 | none =>
  obtain ⟨rfl, h1, _⟩ := h;exact .inl ⟨0, rfl, by simpa using h1⟩
 | some bt =>
  obtain ⟨b, t⟩ := bt;obtain ⟨rfl, _, rest, ho⟩ := h;exact NumsAt.own ho
def Ext (nx : Nat) (H : Heap) (nx' : Nat) (H' : Heap) : Prop := nx ≤ nx' ∧ ∀ i, i < nx → H' i = H i
theorem Ext.refl : Ext nx H nx H := ⟨Nat.le_refl _, fun _ _ => rfl⟩
theorem Ext.trans {nx1 nx2 : Nat} {H1 H2 : Heap} (h : Ext nx H nx1 H1) (k : Ext nx1 H1 nx2 H2) : Ext nx H nx2 H2 := ⟨Nat.le_trans h.1 k.1, fun i hi => by rw [k.2 i (Nat.lt_of_lt_of_le hi h.1), h.2 i hi]⟩
theorem Ext.put {nx1 k : Nat} {H1 : Heap} {o : AObj} (h : Ext nx H nx1 H1) (hk : nx ≤ k) : Ext nx H nx1 (H1.put k o) := ⟨h.1, fun i hi => by rw [za zom, h.2 i hi]⟩
theorem Ext.up {nx1 nx2 : Nat} {H1 : Heap} (h : Ext nx H nx1 H1) (hk : nx1 ≤ nx2) : Ext nx H nx2 H1 := ⟨Nat.le_trans h.1 hk, h.2⟩
theorem z1r {nx' : Nat} {H' : Heap} (h : Ext nx H nx' H') {a : Addr} {m : Nat} {vs : List Value} (hok : ∀ id o, H id = some o → id < nx) (hg : z0A H a m = some vs) : z0A H' a m = some vs := by
 obtain ⟨o, ho⟩ := z1J hg;unfold z0A at *;rw [h.2 _ (hok _ _ ho)];exact hg
theorem IntsAt.ext {nx' : Nat} {H' : Heap} {v : Value} {xs : List Int} (h : Ext nx H nx' H') (hok : ∀ id o, H id = some o → id < nx) (hi : IntsAt H v xs) : IntsAt H' v xs := by
 rcases hi with hi | ⟨a, c, rfl, hi⟩
 ·exact .inl hi
 ·exact .inr ⟨a, c, rfl, fun i q => z1r h hok (hi i q)⟩
theorem z82 {ob : Option (Nat × Nat)} {el : TypeId} {sz k j : Nat} {v : Value} {cs : List Value} {o : AObj} (h : OwnRow H ob el sz v cs k) (hne : ∀ b t, ob = some (b, t) → b ≠ j) : OwnRow (H.put j o) ob el sz v cs k := by
 cases ob with
 | none => exact h
 | some bt =>
  obtain ⟨b, t⟩ := bt;obtain ⟨h1, h2, rest, h3⟩ := h;exact ⟨h1, h2, rest, by rw [za (hne b t rfl)]; exact h3⟩
theorem OwnRow.ext {nx' : Nat} {H' : Heap} {ob : Option (Nat × Nat)} {el : TypeId} {sz k : Nat} {v : Value} {cs : List Value} (hx : Ext nx H nx' H') (hlt : ∀ b t, ob = some (b, t) → b < nx) (h : OwnRow H ob el sz v cs k) : OwnRow H' ob el sz v cs k := by
 cases ob with
 | none => exact h
 | some bt =>
  obtain ⟨b, t⟩ := bt;obtain ⟨h1, h2, rest, h3⟩ := h;exact ⟨h1, h2, rest, by rw [hx.2 _ (hlt b t rfl)]; exact h3⟩
theorem z1C {d1 d2 dy : Tmp} {x : Operand} {st el ty1 ty2 : TypeId} {p1 p2 : String} {af1 af2 : Array Edge} {a : Int} {v : Value} {ob : Option (Nat × Nat)} {xs : List Int}
  (hd1 : d1 < n) (hd2 : d2 < n) (hx : ASt.ev ⟨tm, n, H, nx⟩ x = some (.int .i64 a)) (hne : dy ≠ d1) (hy : tm dy = v) (hv : OwnInts H ob el v xs) (hob : ∀ b t, ob = some (b, t) → b < nx)
  (hst : P.underlying st = some (.slice el)) (hsz : z1w P el = some 1) (hby : z0v P el = some 8) (hz : z0D P el = some [.int .i64 0]) (hle : xs.length ≤ 1000000000)
  (h : ∀ v' ob' H', OwnInts H' ob' el v' (xs ++ [a]) → (∃ b, ob' = some (b, nx + 1) ∧ (b = nx + 1 ∨ ∃ t, ob = some (b, t))) → (∀ k, k < nx → (∀ b t, ob = some (b, t) → k ≠ b) → H' k = H k) →
   OpsL P W0 ops l ⟨zl (zl tm (some d1) (.slice (some ⟨nx, 0, none⟩) 1 1)) (some d2) v', n, H', nx + 1 + 1⟩ QQ) :
  OpsL P W0 ops (⟨some d1, .buildSlice st 1 #[(0, x)], ty1, p1, af1, none⟩ :: ⟨some d2, .call ⟨.builtin .append, #[.tmp dy, .tmp d1], #[st, st]⟩, ty2, p2, af2, none⟩ :: l) ⟨tm, n, H, nx⟩ QQ := by
 refine OpsL.new hd1 (z2E hx hst hsz hz) ?_;have hblk : ∀ b t, ob = some (b, t) → b ≠ nx := fun b t hb => by have := hob b t hb; omega
 refine OpsL.append (sz := 1) (bytes := 8) (k := xs.length) (m := 1) (cs := xs.map (.int .i64 ·)) (xs := [.int .i64 a]) (ob := ob) (u := .slice (some ⟨nx, 0, none⟩) 1 1) (xd := .slice el) (v := v) hd2 (by simp [ASt.ev, zl, hne, hy]) (by simp [ASt.ev, zl])
  (z82 hv hblk) (z6S (by exact zb) rfl zom) rfl zom hst hst rfl hsz hby hz rfl zom zom ?_
 refine h _ (some (z4A (nx + 1) ob, nx + 1)) _ ⟨by simp, by simp, [], ?_⟩ ⟨_, rfl, ?_⟩ ?_
 ·rw [zb]; simp
 ·cases ob with
  | none => exact .inl rfl
  | some bt => exact .inr ⟨bt.2, rfl⟩
 ·intro k hk hkb
  have h1 : k ≠ z4A (nx + 1) ob := by
   cases ob with
   | none => simp only [z4A]; omega
   | some bt => exact hkb bt.1 bt.2 rfl
  rw [za h1, za zom]
def Bd (o : Option Value) (dflt k : Nat) : Prop := (o = none ∧ k = dflt) ∨ ∃ kd, o = some (.int kd k)
theorem Bd.bound {o : Option Value} {dflt k : Nat} (h : Bd o dflt k) : z4Z o dflt = some k := by
 rcases h with ⟨rfl, rfl⟩ | ⟨kd, rfl⟩
 ·rfl
 ·simp [Am.z4Z]
theorem z68 {len cap l h : Nat} {lo hi : Option Value} (hl : Bd lo 0 l) (hh : Bd hi len h) (h1 : l ≤ h) (h2 : h ≤ cap) : z3E len cap lo hi none = some (l, h, cap) := by
 unfold z3E;rw [hl.bound, hh.bound];simp [Am.z4Z, h1, h2]
theorem z5s {t el : TypeId} {sz : Nat} {a : Addr} {len cap l h : Nat} {lo hi : Option Value} {o : AObj} (hu : P.underlying t = some (.slice el)) (hs : z1w P el = some sz) (ho : H a.block = some o) (ht : o.tag = none) (ha : a.spot = none)
  (hl : Bd lo 0 l) (hh : Bd hi len h) (h1 : l ≤ h) (h2 : h ≤ cap) : z0E P H t (.slice (some a) len cap) lo hi none = some (.slice (some (if cap = l then a else ⟨a.block, a.off + l * sz, none⟩)) (h - l) (cap - l)) := by
 unfold z0E;simp only [hu, hs, ho, ht, ha, if_true, z68 hl hh h1 h2, Option.map_some]
theorem z03 {t el : TypeId} {sz : Nat} {a : Addr} {len cap l h tg : Nat} {lo hi : Option Value} {o : AObj} (hu : P.underlying t = some (.slice el)) (hs : z1w P el = some sz) (ho : H a.block = some o) (ht : o.tag = some tg) (ha : a.spot = some tg) (he : o.esz = sz)
  (hl : Bd lo 0 l) (hh : Bd hi len h) (h1 : l ≤ h) (h2 : h ≤ len) : z0E P H t (.slice (some a) len cap) lo hi none = some (.slice (some ⟨a.block, a.off + l * sz, if l = len ∧ 0 < l then none else some tg⟩) (h - l) (h - l)) := by
 unfold z0E;simp only [hu, hs, ho, ht, ha, he, if_true, z68 hl hh h1 h2, Option.map_some, Option.isSome_none, Bool.false_eq_true, ne_eq, not_true_eq_false, or_self, if_false]
theorem z3f {t el : TypeId} {sz : Nat} {lo hi : Option Value} (hu : P.underlying t = some (.slice el)) (hs : z1w P el = some sz)
  (hl : Bd lo 0 0) (hh : Bd hi 0 0) : z0E P H t (.slice none 0 0) lo hi none = some (.slice none 0 0) := by
 unfold z0E;simp only [hu, hs, Option.isSome_some, if_true, z68 hl hh (Nat.le_refl _) (Nat.le_refl _), Option.map_some]
theorem zdA {t u : TypeId} {x y : Operand} {a b : Bool} (hx : ev x = some (.bool a)) (hy : ev y = some (.bool b)) (hu : P.underlying t = some .bool) (h : a = b) :
  aop P H nx ev ⟨dst, .binOp .eql t x y u, type, pos, after, guard⟩ = some (.bool true, .none) := by rw [zeU hx hy hu]; simp [h]
theorem z2W {a : Addr} {u v : Value} (h : z0A H a 2 = some [u, v]) : zh H ⟨a.block, a.off + 1, a.spot⟩ v := by
 unfold zh z0A at *;split at h
 ·rename_i c e t r q ho;simp only [ho];split at h
  ·rename_i hc;rw [if_pos ⟨hc.1, zom⟩];simp only [Option.some.injEq] at h;have h1 : ((c.drop a.off).take 2)[1]? = some v := by rw [h]; rfl
   rw [List.getElem?_take, if_pos zom, List.getElem?_drop] at h1;rw [List.take_one, List.head?_drop, h1];rfl
  ·cases h
 ·cases h
theorem ACalls.ok {f : FuncId} {args : List Value} {R : Value → Nat → Heap → Prop} (h : ACalls P W0 f args nx H R) : ACalls P W0 f args nx H fun v nx' H' => R v nx' H' ∧ ∀ id o, H' id = some o → id < nx' := fun C w args' hR ha => by
 refine (h C w args' hR ha).mono ?_;rintro e w' ⟨v, v', C', nx', H', h1, h2, hR', h4⟩;exact ⟨v, v', C', nx', H', h1, ⟨h2, fun id o ho => (hR'.lt id o ho).1⟩, hR', h4⟩
theorem z6u {t el : TypeId} {m : Nat} (hu : P.underlying t = some (.slice el)) (hs : z1w P el = some 1) (hb : z0v P el = some 8) (hz : z0D P el = some [.int .i64 0]) (hm : m ≤ 1000000000) :
  z1A P nx t (.int .i64 m) (.int .i64 m) = some (.slice (some ⟨nx, 0, none⟩) m m, .new (.cells (rep m [.int .i64 0]) 1 none false (some el))) := by
 unfold z1A;simp only [hu, hs, hb, hz, Int.toNat_natCast];rw [if_pos ⟨zom, zom, zom, zom, rfl⟩]
theorem OpsL.storeAt {t : TypeId} {x y : Operand} {a : Addr} {v : Value} {cs cs' : List Value} {e : Nat} {q : Option TypeId} (j : Nat) (hx : ASt.ev ⟨tm, n, H, nx⟩ x = some (.pointer (some a))) (hy : ASt.ev ⟨tm, n, H, nx⟩ y = some v) (hz : z1w P t = some 1) (hv : v.cells = #[v]) (h1 : v.oneCell' = true)
  (hH : H a.block = some (.cells cs e a.spot false q)) (hj : a.off = j) (hlt : j < cs.length) (hcs : cs.set j v = cs') (h : OpsL P W0 ops l ⟨tm, n, H.put a.block (.cells cs' e a.spot false q), nx⟩ QQ) :
  OpsL P W0 ops (⟨none, .store t x y, type, pos, after, none⟩ :: l) ⟨tm, n, H, nx⟩ QQ := by
 subst hj; subst hcs;exact zay hx hy hz hv h1 hH hlt h
theorem z83 {j : Nat} {want : Bool} {d d' : Tmp} {op : Op} (hj : (ops[j]?).bind (·.dst) = some d') (hb : tm d' = undef) (hd : d < n) (h : OpsL P W0 ops l ⟨zl tm (some d) undef, n, H, nx⟩ QQ) :
  OpsL P W0 ops (⟨some d, op, type, pos, after, some (j, want)⟩ :: l) ⟨tm, n, H, nx⟩ QQ := by
 refine ⟨by simp [z16, hd], .inl ⟨?_, h⟩⟩;simp [z15, hj, hb, undef]
theorem zeM {t u : TypeId} {k : IntKind} {x y : Operand} {a b : Int} (hx : ev x = some (.int k a)) (hy : ev y = some (.int k b)) (h : a < b) :
  aop P H nx ev ⟨dst, .binOp .lss t x y u, type, pos, after, guard⟩ = some (.bool true, .none) := by rw [z9L hx hy]; simp only [h, decide_true, decide_false, not_false_eq_true, not_true_eq_false]
theorem zeN {t u : TypeId} {k : IntKind} {x y : Operand} {a b : Int} (hx : ev x = some (.int k a)) (hy : ev y = some (.int k b)) (h : ¬ (a < b)) :
  aop P H nx ev ⟨dst, .binOp .lss t x y u, type, pos, after, guard⟩ = some (.bool false, .none) := by rw [z9L hx hy]; simp only [h, decide_true, decide_false, not_false_eq_true, not_true_eq_false]
theorem zeP {t u : TypeId} {k : IntKind} {x y : Operand} {a b : Int} (hx : ev x = some (.int k a)) (hy : ev y = some (.int k b)) (h : b < a) :
  aop P H nx ev ⟨dst, .binOp .gtr t x y u, type, pos, after, guard⟩ = some (.bool true, .none) := by rw [z9M hx hy]; simp only [h, decide_true, decide_false, not_false_eq_true, not_true_eq_false]
theorem zeQ {t u : TypeId} {k : IntKind} {x y : Operand} {a b : Int} (hx : ev x = some (.int k a)) (hy : ev y = some (.int k b)) (h : ¬ (b < a)) :
  aop P H nx ev ⟨dst, .binOp .gtr t x y u, type, pos, after, guard⟩ = some (.bool false, .none) := by rw [z9M hx hy]; simp only [h, decide_true, decide_false, not_false_eq_true, not_true_eq_false]
theorem zeR {t u : TypeId} {k : IntKind} {x y : Operand} {a b : Int} (hx : ev x = some (.int k a)) (hy : ev y = some (.int k b)) (h : b ≤ a) :
  aop P H nx ev ⟨dst, .binOp .geq t x y u, type, pos, after, guard⟩ = some (.bool true, .none) := by rw [zcY hx hy]; simp only [h, decide_true, decide_false, not_false_eq_true, not_true_eq_false]
theorem zeS {t u : TypeId} {k : IntKind} {x y : Operand} {a b : Int} (hx : ev x = some (.int k a)) (hy : ev y = some (.int k b)) (h : ¬ (b ≤ a)) :
  aop P H nx ev ⟨dst, .binOp .geq t x y u, type, pos, after, guard⟩ = some (.bool false, .none) := by rw [zcY hx hy]; simp only [h, decide_true, decide_false, not_false_eq_true, not_true_eq_false]
theorem zeT {t u : TypeId} {k : IntKind} {x y : Operand} {a b : Int} (hx : ev x = some (.int k a)) (hy : ev y = some (.int k b)) (h : ¬ (a = b)) :
  aop P H nx ev ⟨dst, .binOp .eql t x y u, type, pos, after, guard⟩ = some (.bool false, .none) := by rw [z9N hx hy]; simp only [h, decide_true, decide_false, not_false_eq_true, not_true_eq_false]
theorem zeJ {t u : TypeId} {k : IntKind} {x y : Operand} {a b : Int} (hx : ev x = some (.int k a)) (hy : ev y = some (.int k b)) (h : a ≠ b) :
  aop P H nx ev ⟨dst, .binOp .neq t x y u, type, pos, after, guard⟩ = some (.bool true, .none) := by rw [z9K hx hy]; simp [h]
theorem zeK {t u : TypeId} {k : IntKind} {x y : Operand} {a b : Int} (hx : ev x = some (.int k a)) (hy : ev y = some (.int k b)) (h : a = b) :
  aop P H nx ev ⟨dst, .binOp .neq t x y u, type, pos, after, guard⟩ = some (.bool false, .none) := by rw [z9K hx hy]; simp [h]
def bs (s : ByteArray) : List Int := s.data.toList.map fun b => (b.toNat : Int)
theorem zbg {t u : TypeId} {x y : Operand} {a b : Array Value} {r : Bool} (hx : ev x = some (.agg a)) (hy : ev y = some (.agg b)) (hg : P.eqGuardType P.depth t = false) (he : aEq P H 60 t (.agg a) (.agg b) = some r) :
  aop P H nx ev ⟨dst, .binOp .eql t x y u, type, pos, after, guard⟩ = some (.bool r, .none) := by simp [aop, hx, hy, z6x, zft, hg, he]
theorem z3Q {t u : TypeId} {x y : Operand} {a b : Array Value} {r : Bool} (hx : ev x = some (.agg a)) (hy : ev y = some (.agg b)) (hg : P.eqGuardType P.depth t = false) (he : aEq P H 60 t (.agg a) (.agg b) = some r) :
  aop P H nx ev ⟨dst, .binOp .neq t x y u, type, pos, after, guard⟩ = some (.bool !r, .none) := by simp [aop, hx, hy, z6x, zft, hg, he]
theorem z0a {t : TypeId} {x : Operand} {v : Value} (hx : ev x = some v) : aop P H nx ev ⟨dst, .box t x, type, pos, after, guard⟩ = some (.pointer (some ⟨nx, 0, none⟩), .new (.cells v.cells.toList 0 none false (some t))) := by simp [aop, hx]
end
end Go.Am
namespace Go.Am
open Go.RowKit
section
variable {P : Program} {W0 : World} {ops : Array Oper} {dst : Option Tmp} {op : Op} {guard : Option (Nat × Bool)} {ev : Operand → Option Value} {type : TypeId} {pos : String} {after : Array Edge} {l : List Oper} {tm : Nat → Value} {n nx : Nat} {H : Heap} {v w : Value} {QQ : ASt → Prop} {d : Tmp} {t u s e : TypeId} {x y z : Operand} {k k' : IntKind} {a b : Int}
theorem zd (hop : aop P H nx (ASt.ev ⟨tm, n, H, nx⟩) ⟨some d, op, type, pos, after, none⟩ = some (v, .none)) (h : OpsL P W0 ops l ⟨zl tm (some d) v, n, H, nx⟩ QQ) (hd : d < n := by first | decide | (refine Nat.lt_of_lt_of_eq ?_ (Eq.symm ‹_›); decide)) : OpsL P W0 ops (⟨some d, op, type, pos, after, none⟩ :: l) ⟨tm, n, H, nx⟩ QQ := z1R hd hop h
theorem omv (hx : ev x = some v := by simp only [ASt.ev, zl, ↓reduceIte, Nat.reduceEqDiff, zL, *]; first | done | rfl) : aop P H nx ev ⟨dst, .move x, type, pos, after, guard⟩ = some (v, .none) := zeL hx
theorem z0y (hx : ev x = some v := by simp only [ASt.ev, zl, ↓reduceIte, Nat.reduceEqDiff, zL, *]; first | done | rfl) : aop P H nx ev ⟨dst, .assign x, type, pos, after, guard⟩ = some (v, .none) := zc7 hx
theorem zaH (hx : ev x = some (.int k a) := by simp only [ASt.ev, zl, ↓reduceIte, Nat.reduceEqDiff, zL, *]; first | done | rfl) (hy : ev y = some (.int k b) := by simp only [ASt.ev, zl, ↓reduceIte, Nat.reduceEqDiff, zL, *]; first | done | rfl) : aop P H nx ev ⟨dst, .binOp .lss t x y u, type, pos, after, guard⟩ = some ((.bool (decide (a < b))), .none) := z9L hx hy
theorem z0z (h : OpsL P W0 ops l ⟨zl tm (some d) (.bool true), n, H, nx⟩ QQ) (hd : d < n := by first | decide | (refine Nat.lt_of_lt_of_eq ?_ (Eq.symm ‹_›); decide)) (hx : ASt.ev ⟨tm, n, H, nx⟩ x = some (.int k a) := by simp only [ASt.ev, zl, ↓reduceIte, Nat.reduceEqDiff, zL, *]; first | done | rfl) (hy : ASt.ev ⟨tm, n, H, nx⟩ y = some (.int k b) := by simp only [ASt.ev, zl, ↓reduceIte, Nat.reduceEqDiff, zL, *]; first | done | rfl) (c : a < b := by omega) : OpsL P W0 ops (⟨some d, .binOp .lss t x y u, type, pos, after, none⟩ :: l) ⟨tm, n, H, nx⟩ QQ := z1R hd (zeM hx hy c) h
theorem z0H (h : OpsL P W0 ops l ⟨zl tm (some d) (.bool false), n, H, nx⟩ QQ) (hd : d < n := by first | decide | (refine Nat.lt_of_lt_of_eq ?_ (Eq.symm ‹_›); decide)) (hx : ASt.ev ⟨tm, n, H, nx⟩ x = some (.int k a) := by simp only [ASt.ev, zl, ↓reduceIte, Nat.reduceEqDiff, zL, *]; first | done | rfl) (hy : ASt.ev ⟨tm, n, H, nx⟩ y = some (.int k b) := by simp only [ASt.ev, zl, ↓reduceIte, Nat.reduceEqDiff, zL, *]; first | done | rfl) (c : ¬ (a < b) := by omega) : OpsL P W0 ops (⟨some d, .binOp .lss t x y u, type, pos, after, none⟩ :: l) ⟨tm, n, H, nx⟩ QQ := z1R hd (zeN hx hy c) h
theorem zgr (hx : ev x = some (.int k a) := by simp only [ASt.ev, zl, ↓reduceIte, Nat.reduceEqDiff, zL, *]; first | done | rfl) (hy : ev y = some (.int k b) := by simp only [ASt.ev, zl, ↓reduceIte, Nat.reduceEqDiff, zL, *]; first | done | rfl) : aop P H nx ev ⟨dst, .binOp .leq t x y u, type, pos, after, guard⟩ = some ((.bool (decide (a ≤ b))), .none) := zgf hx hy
theorem zj4 (hx : ev x = some (.int k a) := by simp only [ASt.ev, zl, ↓reduceIte, Nat.reduceEqDiff, zL, *]; first | done | rfl) (hy : ev y = some (.int k b) := by simp only [ASt.ev, zl, ↓reduceIte, Nat.reduceEqDiff, zL, *]; first | done | rfl) : aop P H nx ev ⟨dst, .binOp .gtr t x y u, type, pos, after, guard⟩ = some ((.bool (decide (b < a))), .none) := z9M hx hy
theorem z2y (h : OpsL P W0 ops l ⟨zl tm (some d) (.bool true), n, H, nx⟩ QQ) (hd : d < n := by first | decide | (refine Nat.lt_of_lt_of_eq ?_ (Eq.symm ‹_›); decide)) (hx : ASt.ev ⟨tm, n, H, nx⟩ x = some (.int k a) := by simp only [ASt.ev, zl, ↓reduceIte, Nat.reduceEqDiff, zL, *]; first | done | rfl) (hy : ASt.ev ⟨tm, n, H, nx⟩ y = some (.int k b) := by simp only [ASt.ev, zl, ↓reduceIte, Nat.reduceEqDiff, zL, *]; first | done | rfl) (c : b < a := by omega) : OpsL P W0 ops (⟨some d, .binOp .gtr t x y u, type, pos, after, none⟩ :: l) ⟨tm, n, H, nx⟩ QQ := z1R hd (zeP hx hy c) h
theorem z1L (h : OpsL P W0 ops l ⟨zl tm (some d) (.bool false), n, H, nx⟩ QQ) (hd : d < n := by first | decide | (refine Nat.lt_of_lt_of_eq ?_ (Eq.symm ‹_›); decide)) (hx : ASt.ev ⟨tm, n, H, nx⟩ x = some (.int k a) := by simp only [ASt.ev, zl, ↓reduceIte, Nat.reduceEqDiff, zL, *]; first | done | rfl) (hy : ASt.ev ⟨tm, n, H, nx⟩ y = some (.int k b) := by simp only [ASt.ev, zl, ↓reduceIte, Nat.reduceEqDiff, zL, *]; first | done | rfl) (c : ¬ (b < a) := by omega) : OpsL P W0 ops (⟨some d, .binOp .gtr t x y u, type, pos, after, none⟩ :: l) ⟨tm, n, H, nx⟩ QQ := z1R hd (zeQ hx hy c) h
theorem z4M (h : OpsL P W0 ops l ⟨zl tm (some d) (.bool true), n, H, nx⟩ QQ) (hd : d < n := by first | decide | (refine Nat.lt_of_lt_of_eq ?_ (Eq.symm ‹_›); decide)) (hx : ASt.ev ⟨tm, n, H, nx⟩ x = some (.int k a) := by simp only [ASt.ev, zl, ↓reduceIte, Nat.reduceEqDiff, zL, *]; first | done | rfl) (hy : ASt.ev ⟨tm, n, H, nx⟩ y = some (.int k b) := by simp only [ASt.ev, zl, ↓reduceIte, Nat.reduceEqDiff, zL, *]; first | done | rfl) (c : b ≤ a := by omega) : OpsL P W0 ops (⟨some d, .binOp .geq t x y u, type, pos, after, none⟩ :: l) ⟨tm, n, H, nx⟩ QQ := z1R hd (zeR hx hy c) h
theorem z3K (h : OpsL P W0 ops l ⟨zl tm (some d) (.bool false), n, H, nx⟩ QQ) (hd : d < n := by first | decide | (refine Nat.lt_of_lt_of_eq ?_ (Eq.symm ‹_›); decide)) (hx : ASt.ev ⟨tm, n, H, nx⟩ x = some (.int k a) := by simp only [ASt.ev, zl, ↓reduceIte, Nat.reduceEqDiff, zL, *]; first | done | rfl) (hy : ASt.ev ⟨tm, n, H, nx⟩ y = some (.int k b) := by simp only [ASt.ev, zl, ↓reduceIte, Nat.reduceEqDiff, zL, *]; first | done | rfl) (c : ¬ (b ≤ a) := by omega) : OpsL P W0 ops (⟨some d, .binOp .geq t x y u, type, pos, after, none⟩ :: l) ⟨tm, n, H, nx⟩ QQ := z1R hd (zeS hx hy c) h
theorem zfr (hx : ev x = some (.int k a) := by simp only [ASt.ev, zl, ↓reduceIte, Nat.reduceEqDiff, zL, *]; first | done | rfl) (hy : ev y = some (.int k b) := by simp only [ASt.ev, zl, ↓reduceIte, Nat.reduceEqDiff, zL, *]; first | done | rfl) : aop P H nx ev ⟨dst, .binOp .eql t x y u, type, pos, after, guard⟩ = some ((.bool (decide (a = b))), .none) := z9N hx hy
theorem z0d (h : OpsL P W0 ops l ⟨zl tm (some d) (.bool true), n, H, nx⟩ QQ) (hd : d < n := by first | decide | (refine Nat.lt_of_lt_of_eq ?_ (Eq.symm ‹_›); decide)) (hx : ASt.ev ⟨tm, n, H, nx⟩ x = some (.int k a) := by simp only [ASt.ev, zl, ↓reduceIte, Nat.reduceEqDiff, zL, *]; first | done | rfl) (hy : ASt.ev ⟨tm, n, H, nx⟩ y = some (.int k b) := by simp only [ASt.ev, zl, ↓reduceIte, Nat.reduceEqDiff, zL, *]; first | done | rfl) (c : a = b := by omega) : OpsL P W0 ops (⟨some d, .binOp .eql t x y u, type, pos, after, none⟩ :: l) ⟨tm, n, H, nx⟩ QQ := z1R hd (z3R hx hy c) h
theorem z0e (h : OpsL P W0 ops l ⟨zl tm (some d) (.bool false), n, H, nx⟩ QQ) (hd : d < n := by first | decide | (refine Nat.lt_of_lt_of_eq ?_ (Eq.symm ‹_›); decide)) (hx : ASt.ev ⟨tm, n, H, nx⟩ x = some (.int k a) := by simp only [ASt.ev, zl, ↓reduceIte, Nat.reduceEqDiff, zL, *]; first | done | rfl) (hy : ASt.ev ⟨tm, n, H, nx⟩ y = some (.int k b) := by simp only [ASt.ev, zl, ↓reduceIte, Nat.reduceEqDiff, zL, *]; first | done | rfl) (c : ¬ (a = b) := by omega) : OpsL P W0 ops (⟨some d, .binOp .eql t x y u, type, pos, after, none⟩ :: l) ⟨tm, n, H, nx⟩ QQ := z1R hd (zeT hx hy c) h
theorem zhT (hx : ev x = some (.int k a) := by simp only [ASt.ev, zl, ↓reduceIte, Nat.reduceEqDiff, zL, *]; first | done | rfl) (hy : ev y = some (.int k b) := by simp only [ASt.ev, zl, ↓reduceIte, Nat.reduceEqDiff, zL, *]; first | done | rfl) : aop P H nx ev ⟨dst, .binOp .neq t x y u, type, pos, after, guard⟩ = some ((.bool (decide (a ≠ b))), .none) := z9K hx hy
theorem z1o (h : OpsL P W0 ops l ⟨zl tm (some d) (.bool true), n, H, nx⟩ QQ) (hd : d < n := by first | decide | (refine Nat.lt_of_lt_of_eq ?_ (Eq.symm ‹_›); decide)) (hx : ASt.ev ⟨tm, n, H, nx⟩ x = some (.int k a) := by simp only [ASt.ev, zl, ↓reduceIte, Nat.reduceEqDiff, zL, *]; first | done | rfl) (hy : ASt.ev ⟨tm, n, H, nx⟩ y = some (.int k b) := by simp only [ASt.ev, zl, ↓reduceIte, Nat.reduceEqDiff, zL, *]; first | done | rfl) (c : a ≠ b := by omega) : OpsL P W0 ops (⟨some d, .binOp .neq t x y u, type, pos, after, none⟩ :: l) ⟨tm, n, H, nx⟩ QQ := z1R hd (zeJ hx hy c) h
theorem z1p (h : OpsL P W0 ops l ⟨zl tm (some d) (.bool false), n, H, nx⟩ QQ) (hd : d < n := by first | decide | (refine Nat.lt_of_lt_of_eq ?_ (Eq.symm ‹_›); decide)) (hx : ASt.ev ⟨tm, n, H, nx⟩ x = some (.int k a) := by simp only [ASt.ev, zl, ↓reduceIte, Nat.reduceEqDiff, zL, *]; first | done | rfl) (hy : ASt.ev ⟨tm, n, H, nx⟩ y = some (.int k b) := by simp only [ASt.ev, zl, ↓reduceIte, Nat.reduceEqDiff, zL, *]; first | done | rfl) (c : a = b := by omega) : OpsL P W0 ops (⟨some d, .binOp .neq t x y u, type, pos, after, none⟩ :: l) ⟨tm, n, H, nx⟩ QQ := z1R hd (zeK hx hy c) h
theorem z7e {q : Bool} (hx : ev x = some (.bool q) := by simp only [ASt.ev, zl, ↓reduceIte, Nat.reduceEqDiff, zL, *]; first | done | rfl) : aop P H nx ev ⟨dst, .unOp .not t x, type, pos, after, guard⟩ = some ((.bool (!q)), .none) := zge hx
theorem z5G (hx : ev x = some (.int .i64 a) := by simp only [ASt.ev, zl, ↓reduceIte, Nat.reduceEqDiff, zL, *]; first | done | rfl) (hy : ev y = some (.int .i64 b) := by simp only [ASt.ev, zl, ↓reduceIte, Nat.reduceEqDiff, zL, *]; first | done | rfl) (c : -9223372036854775808 ≤ a + b ∧ a + b ≤ 9223372036854775807 := by omega) : aop P H nx ev ⟨dst, .binOp .add t x y u, type, pos, after, guard⟩ = some ((.int .i64 (a + b)), .none) := zgh hx hy c
theorem zct (hx : ev x = some (.int .i64 a) := by simp only [ASt.ev, zl, ↓reduceIte, Nat.reduceEqDiff, zL, *]; first | done | rfl) (hy : ev y = some (.int .i64 b) := by simp only [ASt.ev, zl, ↓reduceIte, Nat.reduceEqDiff, zL, *]; first | done | rfl) (c : -9223372036854775808 ≤ a - b ∧ a - b ≤ 9223372036854775807 := by omega) : aop P H nx ev ⟨dst, .binOp .sub t x y u, type, pos, after, guard⟩ = some ((.int .i64 (a - b)), .none) := zgd hx hy c
theorem zgq (hx : ev x = some (.int .i64 a) := by simp only [ASt.ev, zl, ↓reduceIte, Nat.reduceEqDiff, zL, *]; first | done | rfl) (hy : ev y = some (.int .i64 b) := by simp only [ASt.ev, zl, ↓reduceIte, Nat.reduceEqDiff, zL, *]; first | done | rfl) (c : -9223372036854775808 ≤ a * b ∧ a * b ≤ 9223372036854775807 := by omega) : aop P H nx ev ⟨dst, .binOp .mul t x y u, type, pos, after, guard⟩ = some ((.int .i64 (a * b)), .none) := z7m hx hy c
theorem z1D {m c : Nat} {p : Option Addr} (hx : ev x = some (.slice p m c) := by simp only [ASt.ev, zl, ↓reduceIte, Nat.reduceEqDiff, zL, *]; first | done | rfl) (hu : P.underlying t = some (.slice e) := by exact rfl) : aop P H nx ev ⟨dst, .call ⟨.builtin .len, #[x], #[t]⟩, type, pos, after, guard⟩ = some ((.int .i64 (m : Int)), .none) := zgg hx hu
theorem z2Z {m c sz : Nat} {p : Addr} (hx : ev x = some (.slice (some p) m c) := by simp only [ASt.ev, zl, ↓reduceIte, Nat.reduceEqDiff, zL, *]; first | done | rfl) (hy : ev y = some (.int k a) := by simp only [ASt.ev, zl, ↓reduceIte, Nat.reduceEqDiff, zL, *]; first | done | rfl) (hu : P.underlying t = some (.slice e) := by exact rfl) (hs : z1w P e = some sz := by exact rfl) (h0 : 0 ≤ a := by omega) (h1 : a < m := by omega) : aop P H nx ev ⟨dst, .indexAddr t x y, type, pos, after, guard⟩ = some ((.pointer (some ⟨p.block, p.off + a.toNat * sz, p.spot⟩)), .none) := z7T hx hy hu hs h0 h1
theorem ofa {f : Nat} {p : Addr} (hx : ev x = some (.pointer (some p)) := by simp only [ASt.ev, zl, ↓reduceIte, Nat.reduceEqDiff, zL, *]; first | done | rfl) (hv : z3h P s (.pointer (some p)) f = some v := by exact rfl) : aop P H nx ev ⟨dst, .fieldAddr s x f, type, pos, after, guard⟩ = some (v, .none) := z7U hx hv
theorem old {p : Addr} {dd : TypeDesc} (hx : ev x = some (.pointer (some p)) := by simp only [ASt.ev, zl, ↓reduceIte, Nat.reduceEqDiff, zL, *]; first | done | rfl) (hu : P.underlying t = some dd := by exact rfl) (hg : z2t dd = false := by rfl) (hc : zh H p v := by assumption) : aop P H nx ev ⟨dst, .load t x, type, pos, after, guard⟩ = some (v, .none) := zp hx hu hg hc
theorem z3i (hx : ev x = some (.bool true) := by simp only [ASt.ev, zl, ↓reduceIte, reduceIte, Nat.reduceEqDiff, decide_true, decide_false, not_true_eq_false, not_false_eq_true, Bool.not_true, Bool.not_false, *]; first | done | rfl) (hy : ev y = some v := by simp only [ASt.ev, zl, ↓reduceIte, Nat.reduceEqDiff, zL, *]; first | done | rfl) : aop P H nx ev ⟨dst, .pick x y z, type, pos, after, guard⟩ = some (v, .none) := zdx hx hy
theorem z2Y (hx : ev x = some (.bool false) := by simp only [ASt.ev, zl, ↓reduceIte, reduceIte, Nat.reduceEqDiff, decide_true, decide_false, not_true_eq_false, not_false_eq_true, Bool.not_true, Bool.not_false, *]; first | done | rfl) (hy : ev z = some v := by simp only [ASt.ev, zl, ↓reduceIte, Nat.reduceEqDiff, zL, *]; first | done | rfl) : aop P H nx ev ⟨dst, .pick x y z, type, pos, after, guard⟩ = some (v, .none) := zdy hx hy
theorem zA {j : Nat} {want : Bool} {d' : Tmp} (h : OpsL P W0 ops (⟨dst, op, type, pos, after, none⟩ :: l) ⟨tm, n, H, nx⟩ QQ) (hj : (ops[j]?).bind (·.dst) = some d' := by exact rfl) (hb : tm d' = .bool want := by simp only [ASt.ev, zl, ↓reduceIte, reduceIte, Nat.reduceEqDiff, decide_true, decide_false, not_true_eq_false, not_false_eq_true, Bool.not_true, Bool.not_false, *]; first | done | rfl) : OpsL P W0 ops (⟨dst, op, type, pos, after, some (j, want)⟩ :: l) ⟨tm, n, H, nx⟩ QQ := z5t hj hb h
theorem zW {j : Nat} {want : Bool} {d' : Tmp} (h : OpsL P W0 ops l ⟨zl tm (some d) undef, n, H, nx⟩ QQ) (hj : (ops[j]?).bind (·.dst) = some d' := by exact rfl) (hb : tm d' = .bool (!want) := by simp only [ASt.ev, zl, ↓reduceIte, reduceIte, Nat.reduceEqDiff, decide_true, decide_false, not_true_eq_false, not_false_eq_true, Bool.not_true, Bool.not_false, *]; first | done | rfl) (hd : d < n := by first | decide | (refine Nat.lt_of_lt_of_eq ?_ (Eq.symm ‹_›); decide)) : OpsL P W0 ops (⟨some d, op, type, pos, after, some (j, want)⟩ :: l) ⟨tm, n, H, nx⟩ QQ := z5u hj hb hd h
theorem z3o {j : Nat} {want : Bool} {d' : Tmp} (h : OpsL P W0 ops l ⟨zl tm (some d) undef, n, H, nx⟩ QQ) (hj : (ops[j]?).bind (·.dst) = some d' := by exact rfl) (hb : tm d' = undef := by simp only [ASt.ev, zl, ↓reduceIte, reduceIte, Nat.reduceEqDiff, decide_true, decide_false, not_true_eq_false, not_false_eq_true, Bool.not_true, Bool.not_false, *]; first | done | rfl) (hd : d < n := by first | decide | (refine Nat.lt_of_lt_of_eq ?_ (Eq.symm ‹_›); decide)) : OpsL P W0 ops (⟨some d, op, type, pos, after, some (j, want)⟩ :: l) ⟨tm, n, H, nx⟩ QQ := z83 hj hb hd h
theorem z54 {j : Nat} {d' : Tmp} {p : Prop} [Decidable p] (h1 : p → OpsL P W0 ops (⟨some d, op, type, pos, after, none⟩ :: l) ⟨tm, n, H, nx⟩ QQ) (h2 : ¬p → OpsL P W0 ops l ⟨zl tm (some d) undef, n, H, nx⟩ QQ) (hj : (ops[j]?).bind (·.dst) = some d' := by exact rfl) (hb : tm d' = .bool (decide p) := by simp only [ASt.ev, zl, ↓reduceIte, Nat.reduceEqDiff, zL, *]; first | done | rfl) (hd : d < n := by first | decide | (refine Nat.lt_of_lt_of_eq ?_ (Eq.symm ‹_›); decide)) : OpsL P W0 ops (⟨some d, op, type, pos, after, some (j, true)⟩ :: l) ⟨tm, n, H, nx⟩ QQ := zaz hj hb hd h1 h2
variable {f : FuncId} {R : Value → Nat → Heap → Prop} {ts : Array TypeId} {va vb vc ve : Value}
theorem zgj (hd : d < n := by first | decide | (refine Nat.lt_of_lt_of_eq ?_ (Eq.symm ‹_›); decide))  (hf : z0O P f) (hc : ACalls P W0 f [] nx H R) (h : ∀ v nx' H', R v nx' H' → OpsL P W0 ops l ⟨zl tm (some d) v, n, H', nx'⟩ QQ) : OpsL P W0 ops (⟨some d, .call ⟨.value (.func f), #[], ts⟩, type, pos, after, none⟩ :: l) ⟨tm, n, H, nx⟩ QQ := zcg hd  hf hc h
theorem z0c (hd : d < n := by first | decide | (refine Nat.lt_of_lt_of_eq ?_ (Eq.symm ‹_›); decide)) (hx : ASt.ev ⟨tm, n, H, nx⟩ x = some va := by simp only [ASt.ev, zl, ↓reduceIte, Nat.reduceEqDiff, zL, *]; first | done | rfl) (hf : z0O P f) (hc : ACalls P W0 f [va] nx H R) (h : ∀ v nx' H', R v nx' H' → OpsL P W0 ops l ⟨zl tm (some d) v, n, H', nx'⟩ QQ) : OpsL P W0 ops (⟨some d, .call ⟨.value (.func f), #[x], ts⟩, type, pos, after, none⟩ :: l) ⟨tm, n, H, nx⟩ QQ := zcf hd hx hf hc h
theorem OpsL.c2 (hd : d < n := by first | decide | (refine Nat.lt_of_lt_of_eq ?_ (Eq.symm ‹_›); decide)) (hx : ASt.ev ⟨tm, n, H, nx⟩ x = some va := by simp only [ASt.ev, zl, ↓reduceIte, Nat.reduceEqDiff, zL, *]; first | done | rfl) (hy : ASt.ev ⟨tm, n, H, nx⟩ y = some vb := by simp only [ASt.ev, zl, ↓reduceIte, Nat.reduceEqDiff, zL, *]; first | done | rfl) (hf : z0O P f) (hc : ACalls P W0 f [va, vb] nx H R) (h : ∀ v nx' H', R v nx' H' → OpsL P W0 ops l ⟨zl tm (some d) v, n, H', nx'⟩ QQ) : OpsL P W0 ops (⟨some d, .call ⟨.value (.func f), #[x, y], ts⟩, type, pos, after, none⟩ :: l) ⟨tm, n, H, nx⟩ QQ := zce hd hx hy hf hc h
theorem z2T (hd : d < n := by first | decide | (refine Nat.lt_of_lt_of_eq ?_ (Eq.symm ‹_›); decide)) (hx : ASt.ev ⟨tm, n, H, nx⟩ x = some va := by simp only [ASt.ev, zl, ↓reduceIte, Nat.reduceEqDiff, zL, *]; first | done | rfl) (hy : ASt.ev ⟨tm, n, H, nx⟩ y = some vb := by simp only [ASt.ev, zl, ↓reduceIte, Nat.reduceEqDiff, zL, *]; first | done | rfl) (hz : ASt.ev ⟨tm, n, H, nx⟩ z = some vc := by simp only [ASt.ev, zl, ↓reduceIte, Nat.reduceEqDiff, zL, *]; first | done | rfl) (hf : z0O P f) (hc : ACalls P W0 f [va, vb, vc] nx H R) (h : ∀ v nx' H', R v nx' H' → OpsL P W0 ops l ⟨zl tm (some d) v, n, H', nx'⟩ QQ) : OpsL P W0 ops (⟨some d, .call ⟨.value (.func f), #[x, y, z], ts⟩, type, pos, after, none⟩ :: l) ⟨tm, n, H, nx⟩ QQ := zcd hd hx hy hz hf hc h
theorem zcc {x y z w : Operand} (hd : d < n) (hx : ASt.ev ⟨tm, n, H, nx⟩ x = some va) (hy : ASt.ev ⟨tm, n, H, nx⟩ y = some vb) (hz : ASt.ev ⟨tm, n, H, nx⟩ z = some vc) (hw : ASt.ev ⟨tm, n, H, nx⟩ w = some ve) (hf : z0O P f) (hcall : ACalls P W0 f [va, vb, vc, ve] nx H R) (h : ∀ v nx' H', R v nx' H' → OpsL P W0 ops l ⟨zl tm (some d) v, n, H', nx'⟩ QQ) :
    OpsL P W0 ops (⟨some d, .call ⟨.value (.func f), #[x, y, z, w], ts⟩, type, pos, after, none⟩ :: l) ⟨tm, n, H, nx⟩ QQ := by
  refine OpsL.call R (by simp [z16, hd]) rfl ?_ hf hcall h;have hf' : ASt.ev ⟨tm, n, H, nx⟩ (.func f) = some (.func (.func f) #[] #[]) := rfl;simp [z0R, hf', z0B, hx, hy, hz, hw]
theorem z9P {x y z w : Operand} (hd : d < n := by first | decide | (refine Nat.lt_of_lt_of_eq ?_ (Eq.symm ‹_›); decide)) (hx : ASt.ev ⟨tm, n, H, nx⟩ x = some va := by simp only [ASt.ev, zl, ↓reduceIte, Nat.reduceEqDiff, zL, *]; first | done | rfl) (hy : ASt.ev ⟨tm, n, H, nx⟩ y = some vb := by simp only [ASt.ev, zl, ↓reduceIte, Nat.reduceEqDiff, zL, *]; first | done | rfl) (hz : ASt.ev ⟨tm, n, H, nx⟩ z = some vc := by simp only [ASt.ev, zl, ↓reduceIte, Nat.reduceEqDiff, zL, *]; first | done | rfl) (hw : ASt.ev ⟨tm, n, H, nx⟩ w = some ve := by simp only [ASt.ev, zl, ↓reduceIte, Nat.reduceEqDiff, zL, *]; first | done | rfl) (hf : z0O P f) (hc : ACalls P W0 f [va, vb, vc, ve] nx H R) (h : ∀ v nx' H', R v nx' H' → OpsL P W0 ops l ⟨zl tm (some d) v, n, H', nx'⟩ QQ) : OpsL P W0 ops (⟨some d, .call ⟨.value (.func f), #[x, y, z, w], ts⟩, type, pos, after, none⟩ :: l) ⟨tm, n, H, nx⟩ QQ := zcc hd hx hy hz hw hf hc h
end
section
variable {P : Program} {W0 : World} {st : ASt} {Q : AExit → ASt → Prop} {c : Operand} {x y : Code}
theorem z1u {p : Prop} [Decidable p] (h1 : p → Trip P W0 x st Q) (h2 : ¬p → Trip P W0 y st Q) (hc : st.ev c = some (.bool (decide p)) := by simp only [ASt.ev, zl, ↓reduceIte, Nat.reduceEqDiff, zL, *]; first | done | rfl) : Trip P W0 (.cond c x y) st Q := zeV hc h1 h2
theorem z21 (h : Trip P W0 x st Q) (hc : st.ev c = some (.bool true) := by simp only [ASt.ev, zl, ↓reduceIte, reduceIte, Nat.reduceEqDiff, decide_true, decide_false, not_true_eq_false, not_false_eq_true, Bool.not_true, Bool.not_false, *]; first | done | rfl) : Trip P W0 (.cond c x y) st Q := z8Q hc (fun _ => h) (fun h => absurd h (by decide))
theorem z0h (h : Trip P W0 y st Q) (hc : st.ev c = some (.bool false) := by simp only [ASt.ev, zl, ↓reduceIte, reduceIte, Nat.reduceEqDiff, decide_true, decide_false, not_true_eq_false, not_false_eq_true, Bool.not_true, Bool.not_false, *]; first | done | rfl) : Trip P W0 (.cond c x y) st Q := z8Q hc (fun h => absurd h (by decide)) (fun _ => h)
end
theorem zep {A : Prop} (h : A := by simp only [z0i, ASt.ev, zl, ↓reduceIte, reduceIte, Option.some.injEq, Nat.reduceEqDiff, z8p, zL, *]) : A := h
theorem zeq {A : Prop} (h : A := by simp only [z0i, ASt.ev, zl, ↓reduceIte, reduceIte, Option.some.injEq, Nat.reduceEqDiff, *]) : A := h
theorem zer {A : Prop} (h : A := by simp only [z2d, ASt.ev, zl, ↓reduceIte, reduceIte, Option.some.injEq, Nat.reduceEqDiff, Option.map_some, *]) : A := h
theorem evd {A : Prop} (h : A := by simp only [ASt.ev, zl, ↓reduceIte, Nat.reduceEqDiff, *]; done) : A := h
theorem evr {A : Prop} (h : A := by simp only [ASt.ev, zl, ↓reduceIte, Nat.reduceEqDiff, *]; rfl) : A := h
theorem stp {A : Prop} (h : A := by simp [zl, *]) : A := h
theorem krf {A : Prop} (h : A := by kernel_rfl) : A := h
section
variable {G K : Prop} (k : K)
include k
theorem zg0 (f : PLift K → G := by
 intro k;refine OpsR.one rfl rfl rfl (by kernel_rfl) ?_
 repeat (first | refine zd (by exact omv) ?_ | (refine OpsL.nil ?_; (skip)))
 refine OpsR.one rfl rfl rfl (by kernel_rfl) ?_;exact k.down) : G := f ⟨k⟩
theorem zg1 (f : PLift K → G := by
 intro k;refine OpsR.one rfl rfl rfl (by kernel_rfl) ?_
 repeat (first | refine zd (by exact ofa) ?_ | (refine OpsL.nil ?_; (dsimp only)))
 exact k.down) : G := f ⟨k⟩
theorem zg2 (f : PLift K → G := by
 intro k;refine OpsK.one rfl (by kernel_rfl) ?_
 repeat (first | refine zd (by exact omv) ?_ | (refine OpsL.nil ?_; (skip)))
 refine OpsK.one rfl (by kernel_rfl) ?_;exact k.down) : G := f ⟨k⟩
theorem zg3 (f : PLift K → G := by
 intro k
 repeat (first | (refine OpsL.nil ?_; (skip)) | refine zW ?_)
 refine OpsK.one rfl (by kernel_rfl) ?_
 repeat (first | (refine OpsL.nil ?_; (skip)) | refine zW ?_)
 refine OpsK.one rfl (by kernel_rfl) ?_
 repeat (first | (refine OpsL.nil ?_; (skip)) | refine zW ?_)
 refine OpsK.one rfl (by kernel_rfl) ?_;exact k.down) : G := f ⟨k⟩
theorem zg4 (f : PLift K → G := by
 intro k;refine z0h ?_
 repeat (first | (refine zd (by first | exact omv | exact z0y | exact z5G) ?_) | refine zk ?_ | (refine Trip.skip ?_; ((repeat (refine zQ ?_)); change Trip _ _ _ _ _)) | (refine OpsL.nil ?_; (dsimp only)))
 exact k.down) : G := f ⟨k⟩
theorem zg5 (f : PLift K → G := by
 intro k;refine OpsR.one rfl rfl rfl (by kernel_rfl) ?_;exact k.down) : G := f ⟨k⟩
theorem zg6 (f : PLift K → G := by
 intro k;refine z05 (by kernel_rfl) (zt rfl rfl ?_);exact k.down) : G := f ⟨k⟩
theorem zg7 (f : PLift K → G := by
 intro k
 repeat (first | (refine zd (by first | exact omv | exact z0y | exact z5G) ?_) | refine zk ?_ | (refine OpsL.nil ?_; ((repeat (refine zQ ?_)); first | (change Trip _ _ _ _ _) | (dsimp only))))
 exact k.down) : G := f ⟨k⟩
theorem zg8 (f : PLift K → G := by
 intro k
 repeat (first | (refine zd (by first | exact omv | exact ofa | exact old | exact z1D) ?_) | refine Trip.seq ?_ | refine zk ?_)
 refine z0z ?_
 repeat (refine OpsL.nil ?_; (change Trip _ _ _ _ _))
 refine z21 ?_
 repeat (first | (refine zd (by first | exact omv | exact z2Z | exact ofa | exact old) ?_) | refine Trip.seq ?_ | refine zk ?_ | refine Trip.block ?_ | (refine Trip.skip ?_; (change Trip _ _ _ _ _)))
 exact k.down) : G := f ⟨k⟩
theorem zg9 (f : PLift K → G := by
 intro k
 repeat (first | refine zd (by exact z0y) ?_ | refine Trip.seq ?_ | refine zk ?_ | refine Trip.block ?_ | (refine OpsL.nil ?_; (change Trip _ _ _ _ _)))
 exact k.down) : G := f ⟨k⟩
theorem zfq (f : PLift K → G := by
 intro k
 ((repeat (refine zQ ?_)); change Trip _ _ _ _ _)
 repeat (first | (refine zd (by first | exact omv | exact z0y | exact z5G) ?_) | refine zk ?_ | (refine OpsL.nil ?_; (dsimp only)))
 exact k.down) : G := f ⟨k⟩
theorem z9s (f : PLift K → G := by
 intro k
 repeat (refine OpsL.nil ?_; (change Trip _ _ _ _ _))
 exact k.down) : G := f ⟨k⟩
theorem zcm (f : PLift K → G := by
 intro k
 repeat (first | refine zd (by exact z2Z) ?_ | (refine OpsL.nil ?_; (dsimp only)))
 exact k.down) : G := f ⟨k⟩
theorem zcl (f : PLift K → G := by
 intro k
 repeat (first | refine Trip.seq ?_ | refine zk ?_)
 refine z0H ?_
 repeat (first | refine Trip.seq ?_ | (refine OpsL.nil ?_; (change Trip _ _ _ _ _)))
 refine z0h ?_;exact k.down) : G := f ⟨k⟩
theorem z2P (f : PLift K → G := by
 intro k;refine OpsK.one rfl (by kernel_rfl) ?_;exact k.down) : G := f ⟨k⟩
theorem z9w (f : PLift K → G := by
 intro k
 repeat (first | (refine zd (by first | exact omv | exact z0y) ?_) | refine Trip.seq ?_ | refine zk ?_ | (refine Trip.exit ?_; ((repeat (refine zY ?_)); change Trip _ _ _ _ _)) | (refine Trip.ret ?_; (dsimp only)) | (refine OpsL.nil ?_; (change Trip _ _ _ _ _)))
 exact k.down) : G := f ⟨k⟩
theorem zgA (f : PLift K → G := by
 intro k
 repeat (first | refine Trip.seq ?_ | refine zk ?_)
 refine z0z ?_
 repeat (first | refine Trip.seq ?_ | (refine OpsL.nil ?_; (change Trip _ _ _ _ _)))
 refine z21 ?_;exact k.down) : G := f ⟨k⟩
theorem z7b (f : PLift K → G := by
 intro k
 repeat (first | (refine zd (by first | exact omv | exact ofa | exact old | exact z1D) ?_) | refine Trip.seq ?_ | refine zk ?_)
 refine z0H ?_;refine z9s ?_;refine z0h ?_
 repeat (refine Trip.exit ?_; (dsimp only))
 exact k.down) : G := f ⟨k⟩
theorem z6v (f : PLift K → G := by
 intro k
 repeat (first | (refine zd (by first | exact omv | exact z0y) ?_) | refine Trip.seq ?_ | refine zk ?_ | (refine OpsL.nil ?_; (change Trip _ _ _ _ _)))
 exact k.down) : G := f ⟨k⟩
theorem z89 (f : PLift K → G := by
 intro k
 repeat (first | refine zd (by exact omv) ?_ | (refine OpsL.nil ?_; (skip)) | refine zA ?_)
 exact k.down) : G := f ⟨k⟩
theorem zck (f : PLift K → G := by
 intro k;refine z0h ?_
 repeat (first | (refine zd (by first | exact omv | exact z5G) ?_) | refine zk ?_ | (refine Trip.skip ?_; ((repeat (refine zQ ?_)); change Trip _ _ _ _ _)) | (refine OpsL.nil ?_; (dsimp only)))
 exact k.down) : G := f ⟨k⟩
theorem zdO (f : PLift K → G := by
 intro k
 repeat (first | refine zd (by exact omv) ?_ | (refine OpsL.nil ?_; (skip)))
 exact k.down) : G := f ⟨k⟩
theorem z4s (f : PLift K → G := by
 intro k
 repeat (first | (refine zd (by first | exact omv | exact z1D) ?_) | refine Trip.seq ?_ | refine zk ?_)
 exact k.down) : G := f ⟨k⟩
theorem zgz (f : PLift K → G := by
 intro k
 repeat (first | (refine OpsL.nil ?_; (skip)) | refine zW ?_)
 refine zg5 ?_
 repeat (first | (refine OpsL.nil ?_; (skip)) | refine zW ?_)
 refine zg5 ?_
 repeat (first | (refine OpsL.nil ?_; (skip)) | refine zW ?_)
 exact k.down) : G := f ⟨k⟩
theorem zaF (f : PLift K → G := by
 intro k
 repeat (first | (refine zd (by first | exact omv | exact z0y | exact z1D) ?_) | refine Trip.seq ?_ | refine zk ?_ | refine Trip.block ?_ | (refine OpsL.nil ?_; (change Trip _ _ _ _ _)))
 exact k.down) : G := f ⟨k⟩
theorem z9r (f : PLift K → G := by
 intro k;refine z0z ?_;refine z9s ?_;refine z21 ?_
 repeat (first | refine Trip.seq ?_ | refine Trip.block ?_ | (refine Trip.skip ?_; (change Trip _ _ _ _ _)))
 exact k.down) : G := f ⟨k⟩
theorem zgy (f : PLift K → G := by
 intro k;refine z2P ?_
 repeat (first | refine zd (by exact z2Z) ?_ | (refine OpsL.nil ?_; (dsimp only)) | refine zA ?_)
 refine z2P ?_
 repeat (first | refine zd (by exact old) ?_ | (refine OpsL.nil ?_; (skip)) | refine zA ?_)
 refine z2P ?_;exact k.down) : G := f ⟨k⟩
theorem zaE (f : PLift K → G := by
 intro k
 repeat (first | refine zd (by exact omv) ?_ | refine Trip.seq ?_ | refine zk ?_ | (refine OpsL.nil ?_; (change Trip _ _ _ _ _)))
 exact k.down) : G := f ⟨k⟩
theorem zcr (f : PLift K → G := by
 intro k
 repeat (first | (refine zd (by first | exact omv | exact z0y) ?_) | refine Trip.seq ?_ | refine zk ?_ | (refine Trip.ret ?_; (dsimp only)) | (refine OpsL.nil ?_; (change Trip _ _ _ _ _)))
 exact k.down) : G := f ⟨k⟩
theorem zdN (f : PLift K → G := by
 intro k;refine z21 ?_
 repeat (first | refine zd (by exact z0y) ?_ | refine Trip.seq ?_ | refine zk ?_ | (refine Trip.ret ?_; ((repeat (refine z0W ?_)); dsimp only)) | (refine OpsL.nil ?_; (change Trip _ _ _ _ _)))
 exact k.down) : G := f ⟨k⟩
theorem z3B (f : PLift K → G := by
 intro k
 repeat (refine OpsL.nil ?_; (skip))
 exact k.down) : G := f ⟨k⟩
theorem zib (f : PLift K → G := by
 intro k;refine zg2 ?_
 repeat (first | refine zd (by exact ofa) ?_ | (refine OpsL.nil ?_; (dsimp only)) | refine zA ?_)
 refine z2P ?_
 repeat (first | refine zd (by exact old) ?_ | (refine OpsL.nil ?_; (skip)) | refine zA ?_)
 refine z2P ?_;exact k.down) : G := f ⟨k⟩
theorem zdM (f : PLift K → G := by
 intro k
 repeat (first | refine zd (by exact z0y) ?_ | refine Trip.seq ?_ | refine zk ?_ | refine Trip.block ?_ | (refine Trip.skip ?_; (change Trip _ _ _ _ _)) | (refine OpsL.nil ?_; (change Trip _ _ _ _ _)))
 exact k.down) : G := f ⟨k⟩
theorem z9q (f : PLift K → G := by
 intro k
 repeat (first | refine zd (by exact z0y) ?_ | refine Trip.seq ?_ | refine zk ?_ | (refine OpsL.nil ?_; (change Trip _ _ _ _ _)))
 exact k.down) : G := f ⟨k⟩
theorem zfp (f : PLift K → G := by
 intro k;refine zgA ?_
 repeat (first | (refine zd (by first | exact omv | exact z0y | exact z2Z | exact old) ?_) | refine Trip.seq ?_ | refine zk ?_ | refine Trip.block ?_ | (refine Trip.skip ?_; (change Trip _ _ _ _ _)) | (refine OpsL.nil ?_; (change Trip _ _ _ _ _)))
 exact k.down) : G := f ⟨k⟩
theorem z4r (f : PLift K → G := by
 intro k
 ((repeat (refine zY ?_)); change Trip _ _ _ _ _)
 exact k.down) : G := f ⟨k⟩
theorem z9v (f : PLift K → G := by
 intro k
 repeat (first | refine zd (by exact old) ?_ | (refine OpsL.nil ?_; (skip)))
 exact k.down) : G := f ⟨k⟩
theorem zcq (f : PLift K → G := by
 intro k;refine zgA ?_
 repeat (first | refine zd (by exact z2Z) ?_ | refine Trip.seq ?_ | refine zk ?_ | refine Trip.block ?_ | (refine Trip.skip ?_; (change Trip _ _ _ _ _)))
 exact k.down) : G := f ⟨k⟩
theorem z9p (f : PLift K → G := by
 intro k
 repeat (first | refine zd (by exact z3i) ?_ | (refine OpsL.nil ?_; (skip)))
 exact k.down) : G := f ⟨k⟩
theorem zdX (f : PLift K → G := by
 intro k;refine z21 ?_
 repeat (first | refine zd (by exact z0y) ?_ | refine Trip.seq ?_ | refine zk ?_ | (refine Trip.ret ?_; (dsimp only)) | (refine OpsL.nil ?_; (change Trip _ _ _ _ _)))
 exact k.down) : G := f ⟨k⟩
theorem z7a (f : PLift K → G := by
 intro k;refine z0H ?_;refine z9s ?_;refine z0h ?_;exact k.down) : G := f ⟨k⟩
theorem zia (f : PLift K → G := by
 intro k
 repeat (first | refine zd (by exact omv) ?_ | (refine OpsL.nil ?_; (dsimp only)))
 exact k.down) : G := f ⟨k⟩
theorem zi9 (f : PLift K → G := by
 intro k
 repeat (first | refine zd (by exact ofa) ?_ | (refine OpsL.nil ?_; (dsimp only)))
 exact k.down) : G := f ⟨k⟩
theorem zbo (f : PLift K → G := by
 intro k;refine zg5 ?_
 repeat (first | refine zd (by exact z0y) ?_ | (refine OpsL.nil ?_; (skip)))
 refine OpsR.nil ?_;exact k.down) : G := f ⟨k⟩
theorem zdL (f : PLift K → G := by
 intro k
 repeat (first | (refine zd (by first | exact omv | exact z1D | exact old | exact ofa) ?_) | refine Trip.seq ?_ | refine zk ?_)
 exact k.down) : G := f ⟨k⟩
theorem zgo (f : PLift K → G := by
 intro k
 repeat (first | (refine zd (by first | exact omv | exact z5G) ?_) | refine zk ?_ | (refine OpsL.nil ?_; ((repeat (refine zQ ?_)); first | (change Trip _ _ _ _ _) | (dsimp only))))
 exact k.down) : G := f ⟨k⟩
theorem zfo (f : PLift K → G := by
 intro k
 repeat (first | refine zd (by exact omv) ?_ | refine Trip.seq ?_ | refine zk ?_ | (refine Trip.exit ?_; ((repeat (refine zY ?_)); change Trip _ _ _ _ _)))
 exact k.down) : G := f ⟨k⟩
theorem zdW (f : PLift K → G := by
 intro k
 repeat (first | refine zd (by exact z0y) ?_ | (refine OpsL.nil ?_; (change Trip _ _ _ _ _)))
 exact k.down) : G := f ⟨k⟩
theorem ziR (f : PLift K → G := by
 intro k;refine zg5 ?_
 repeat (first | (refine OpsL.nil ?_; (skip)) | refine z3o ?_)
 refine zg5 ?_
 repeat (first | (refine OpsL.nil ?_; (skip)) | refine z3o ?_)
 refine zg5 ?_
 repeat (first | (refine OpsL.nil ?_; (skip)) | refine z3o ?_)
 exact k.down) : G := f ⟨k⟩
theorem zaD (f : PLift K → G := by
 intro k
 repeat (first | refine zd (by exact omv) ?_ | refine Trip.seq ?_ | refine zk ?_)
 exact k.down) : G := f ⟨k⟩
theorem zgn (f : PLift K → G := by
 intro k;refine z0h ?_
 repeat (first | refine zd (by exact z0y) ?_ | refine Trip.seq ?_ | refine zk ?_ | (refine Trip.skip ?_; (change Trip _ _ _ _ _)) | (refine Trip.ret ?_; (dsimp only)) | (refine OpsL.nil ?_; (change Trip _ _ _ _ _)))
 exact k.down) : G := f ⟨k⟩
theorem zfn (f : PLift K → G := by
 intro k
 repeat (first | (refine zd (by first | exact omv | exact z1D | exact ofa | exact old) ?_) | refine Trip.seq ?_ | refine zk ?_ | refine Trip.block ?_ | (refine OpsL.nil ?_; (change Trip _ _ _ _ _)))
 exact k.down) : G := f ⟨k⟩
theorem zdV (f : PLift K → G := by
 intro k
 repeat (first | refine zd (by exact omv) ?_ | refine Trip.seq ?_ | refine zk ?_ | (refine Trip.skip ?_; (change Trip _ _ _ _ _)))
 exact k.down) : G := f ⟨k⟩
theorem zgm (f : PLift K → G := by
 intro k;refine zdO ?_;refine z2P ?_
 repeat (first | refine zd (by exact zct) ?_ | (refine OpsL.nil ?_; (skip)))
 refine z2P ?_;refine zcm ?_;refine z2P ?_;exact k.down) : G := f ⟨k⟩
theorem zdK (f : PLift K → G := by
 intro k
 repeat (first | (refine OpsL.nil ?_; (skip)) | refine zW ?_)
 exact k.down) : G := f ⟨k⟩
theorem zeZ (f : PLift K → G := by
 intro k
 repeat (first | (refine zd (by first | exact omv | exact ofa | exact old) ?_) | refine zk ?_ | (refine OpsL.nil ?_; (change Trip _ _ _ _ _)))
 exact k.down) : G := f ⟨k⟩
theorem zi8 (f : PLift K → G := by
 intro k
 repeat (refine Trip.exit ?_; (dsimp only))
 exact k.down) : G := f ⟨k⟩
theorem zi7 (f : PLift K → G := by
 intro k;refine zgA ?_
 repeat (first | (refine zd (by first | exact omv | exact z0y | exact z2Z | exact old | exact z1D | exact z5G) ?_) | refine Trip.seq ?_ | refine zk ?_ | refine Trip.block ?_ | (refine Trip.skip ?_; (change Trip _ _ _ _ _)) | (refine OpsL.nil ?_; (change Trip _ _ _ _ _)))
 refine z0H ?_;refine z9s ?_;refine zck ?_;exact k.down) : G := f ⟨k⟩
theorem zgl (f : PLift K → G := by
 intro k
 repeat (first | (refine zd (by first | exact omv | exact z0y | exact z1D) ?_) | refine Trip.seq ?_ | refine zk ?_ | (refine OpsL.nil ?_; (change Trip _ _ _ _ _)))
 exact k.down) : G := f ⟨k⟩
theorem zgx (f : PLift K → G := by
 intro k
 ((repeat (first | refine zY ?_ | refine zQ ?_)); change Trip _ _ _ _ _)
 repeat (first | (refine zd (by first | exact omv | exact z0y | exact z5G) ?_) | refine zk ?_ | (refine OpsL.nil ?_; (dsimp only)))
 exact k.down) : G := f ⟨k⟩
theorem zbn (f : PLift K → G := by
 intro k;refine zg0 ?_;refine zdO ?_;refine zg5 ?_;refine zcm ?_;refine zg5 ?_;exact k.down) : G := f ⟨k⟩
theorem zaC (f : PLift K → G := by
 intro k
 repeat (first | refine zd (by exact z2Y) ?_ | (refine OpsL.nil ?_; (skip)))
 exact k.down) : G := f ⟨k⟩
theorem zhR (f : PLift K → G := by
 intro k;refine z21 ?_
 repeat (first | (refine zd (by first | exact omv | exact z5G | exact zgq | exact z2Z | exact ofa | exact old) ?_) | refine Trip.seq ?_ | refine zk ?_ | refine Trip.block ?_ | (refine Trip.skip ?_; (change Trip _ _ _ _ _)) | (refine OpsL.nil ?_; (change Trip _ _ _ _ _)))
 exact k.down) : G := f ⟨k⟩
theorem zi6 (f : PLift K → G := by
 intro k;refine z9s ?_;refine z0h ?_
 repeat (first | (refine zd (by first | exact omv | exact z0y) ?_) | refine Trip.seq ?_ | refine zk ?_ | (refine Trip.skip ?_; (change Trip _ _ _ _ _)) | (refine Trip.ret ?_; (dsimp only)) | (refine OpsL.nil ?_; (change Trip _ _ _ _ _)))
 exact k.down) : G := f ⟨k⟩
theorem zeY (f : PLift K → G := by
 intro k
 repeat (first | (refine Trip.ret ?_; (dsimp only)) | (refine OpsL.nil ?_; (change Trip _ _ _ _ _)))
 exact k.down) : G := f ⟨k⟩
theorem z9o (f : PLift K → G := by
 intro k;refine z9s ?_;refine z21 ?_;exact k.down) : G := f ⟨k⟩
theorem zfm (f : PLift K → G := by
 intro k
 repeat (first | refine zd (by exact z0y) ?_ | refine Trip.seq ?_ | (refine OpsL.nil ?_; (change Trip _ _ _ _ _)))
 exact k.down) : G := f ⟨k⟩
theorem zhQ (f : PLift K → G := by
 intro k
 repeat (first | refine zd (by exact z0y) ?_ | refine Trip.seq ?_ | refine zk ?_ | (refine Trip.exit ?_; ((repeat (refine zY ?_)); change Trip _ _ _ _ _)) | (refine Trip.ret ?_; (dsimp only)) | (refine OpsL.nil ?_; (change Trip _ _ _ _ _)))
 exact k.down) : G := f ⟨k⟩
theorem z5h (f : PLift K → G := by
 intro k;refine Trip.seq ?_;refine zk ?_;exact k.down) : G := f ⟨k⟩
theorem zhP (f : PLift K → G := by
 intro k
 repeat (first | refine zd (by exact z0y) ?_ | (refine Trip.ret ?_; (dsimp only)) | (refine OpsL.nil ?_; (change Trip _ _ _ _ _)))
 exact k.down) : G := f ⟨k⟩
theorem zeX (f : PLift K → G := by
 intro k;refine zg5 ?_
 repeat (first | refine zd (by exact z1D) ?_ | (refine OpsL.nil ?_; (skip)))
 refine zg5 ?_;exact k.down) : G := f ⟨k⟩
theorem zfl (f : PLift K → G := by
 intro k
 repeat (first | (refine zd (by first | exact omv | exact z2Z) ?_) | refine Trip.seq ?_ | refine zk ?_)
 exact k.down) : G := f ⟨k⟩
theorem zeW (f : PLift K → G := by
 intro k;refine zg2 ?_;refine zdO ?_;refine z2P ?_;refine zcm ?_;refine z2P ?_;exact k.down) : G := f ⟨k⟩
theorem zhO (f : PLift K → G := by
 intro k
 repeat (first | (refine zd (by first | exact omv | exact z7e | exact z2Z | exact ofa | exact old | exact z3i) ?_) | refine Trip.seq ?_ | refine zk ?_ | (refine OpsL.nil ?_; (change Trip _ _ _ _ _)) | refine zA ?_)
 exact k.down) : G := f ⟨k⟩
theorem zfk (f : PLift K → G := by
 intro k
 repeat (first | refine Trip.seq ?_ | refine zk ?_ | (refine OpsL.nil ?_; (change Trip _ _ _ _ _)))
 exact k.down) : G := f ⟨k⟩
theorem zhN (f : PLift K → G := by
 intro k
 repeat (first | (refine zd (by first | exact omv | exact z0y | exact z5G) ?_) | refine zk ?_ | (refine Trip.exit ?_; ((repeat (refine zY ?_)); change Trip _ _ _ _ _)) | (refine OpsL.nil ?_; (dsimp only)))
 exact k.down) : G := f ⟨k⟩
theorem ziY (f : PLift K → G := by
 intro k;refine z0z ?_;refine z3B ?_;refine zib ?_;refine z89 ?_;refine z2P ?_;refine z89 ?_;exact k.down) : G := f ⟨k⟩
theorem zfj (f : PLift K → G := by
 intro k;refine z2P ?_;refine zia ?_;refine zg2 ?_;refine ziY ?_;refine zgy ?_;refine zA ?_;exact k.down) : G := f ⟨k⟩
theorem zi5 (f : PLift K → G := by
 intro k
 repeat (first | (refine zd (by first | exact z0y | exact omv) ?_) | refine Trip.seq ?_ | refine zk ?_ | (refine OpsL.nil ?_; (change Trip _ _ _ _ _)))
 exact k.down) : G := f ⟨k⟩
theorem zbm (f : PLift K → G := by
 intro k;refine OpsR.nil ?_;refine zfq ?_;exact k.down) : G := f ⟨k⟩
theorem zfi (f : PLift K → G := by
 intro k;refine z2P ?_;refine zi9 ?_;refine z2P ?_;refine z9v ?_;refine zg2 ?_;refine zcm ?_;exact k.down) : G := f ⟨k⟩
theorem zdU (f : PLift K → G := by
 intro k
 repeat (first | refine Trip.seq ?_ | (refine OpsL.nil ?_; (change Trip _ _ _ _ _)))
 exact k.down) : G := f ⟨k⟩
theorem zi4 (f : PLift K → G := by
 intro k
 repeat (first | (refine zd (by first | exact omv | exact z1D | exact zct | exact z0y) ?_) | refine Trip.seq ?_ | refine zk ?_ | (refine OpsL.nil ?_; (change Trip _ _ _ _ _)))
 exact k.down) : G := f ⟨k⟩
theorem zhM (f : PLift K → G := by
 intro k
 repeat (first | (refine zd (by first | exact omv | exact z2Z | exact ofa | exact old) ?_) | refine Trip.seq ?_ | refine zk ?_ | (refine OpsL.nil ?_; (change Trip _ _ _ _ _)))
 exact k.down) : G := f ⟨k⟩
theorem zi3 (f : PLift K → G := by
 intro k;refine zdL ?_;refine z0z ?_;refine z9o ?_
 repeat (first | (refine zd (by first | exact omv | exact z2Z | exact ofa | exact old) ?_) | refine Trip.seq ?_ | refine zk ?_ | refine Trip.block ?_ | (refine Trip.skip ?_; (change Trip _ _ _ _ _)))
 exact k.down) : G := f ⟨k⟩
theorem z88 (f : PLift K → G := by
 intro k;refine z3B ?_;refine z2P ?_;exact k.down) : G := f ⟨k⟩
theorem zgw (f : PLift K → G := by
 intro k
 repeat (first | (refine zd (by first | exact omv | exact ofa | exact old | exact z1D) ?_) | refine Trip.seq ?_ | refine zk ?_)
 exact k.down) : G := f ⟨k⟩
theorem z87 (f : PLift K → G := by
 intro k
 repeat (refine zd (by exact omv) ?_)
 exact k.down) : G := f ⟨k⟩
theorem zhL (f : PLift K → G := by
 intro k
 repeat (first | (refine zd (by first | exact z0y | exact ofa | exact old) ?_) | refine Trip.seq ?_ | refine zk ?_ | (refine OpsL.nil ?_; (change Trip _ _ _ _ _)))
 exact k.down) : G := f ⟨k⟩
theorem zcj (f : PLift K → G := by
 intro k
 repeat (first | refine Trip.seq ?_ | refine zk ?_)
 exact k.down) : G := f ⟨k⟩
theorem zhK (f : PLift K → G := by
 intro k
 repeat (first | (refine zd (by first | exact omv | exact ofa | exact old) ?_) | refine Trip.seq ?_ | refine zk ?_ | (refine OpsL.nil ?_; (change Trip _ _ _ _ _)))
 exact k.down) : G := f ⟨k⟩
theorem zi2 (f : PLift K → G := by
 intro k
 repeat (first | refine zd (by exact z0y) ?_ | (refine Trip.ret ?_; ((repeat (refine z0W ?_)); dsimp only)) | (refine OpsL.nil ?_; (change Trip _ _ _ _ _)))
 exact k.down) : G := f ⟨k⟩
theorem zi1 (f : PLift K → G := by
 intro k
 repeat (first | refine zd (by exact z0y) ?_ | refine Trip.seq ?_ | refine zk ?_ | refine Trip.block ?_ | (refine Trip.exit ?_; ((repeat (refine zY ?_)); change Trip _ _ _ _ _)) | (refine OpsL.nil ?_; (change Trip _ _ _ _ _)))
 exact k.down) : G := f ⟨k⟩
theorem ziQ (f : PLift K → G := by
 intro k;refine zg6 ?_
 repeat (first | refine zd (by exact z0y) ?_ | (refine OpsL.nil ?_; (dsimp only)))
 exact k.down) : G := f ⟨k⟩
theorem zhJ (f : PLift K → G := by
 intro k;refine z21 ?_
 repeat (first | (refine zd (by first | exact omv | exact z5G | exact zgq | exact z2Z | exact ofa | exact old) ?_) | refine zk ?_)
 exact k.down) : G := f ⟨k⟩
theorem zgv (f : PLift K → G := by
 intro k;refine z21 ?_
 repeat (first | (refine zd (by first | exact omv | exact ofa | exact old) ?_) | refine zk ?_)
 exact k.down) : G := f ⟨k⟩
theorem zi0 (f : PLift K → G := by
 intro k
 repeat (first | (refine zd (by first | exact omv | exact z2Z | exact ofa | exact old | exact z2Y) ?_) | refine Trip.seq ?_ | refine zk ?_ | (refine OpsL.nil ?_; (change Trip _ _ _ _ _)) | refine zW ?_)
 refine zg4 ?_;exact k.down) : G := f ⟨k⟩
theorem zhI (f : PLift K → G := by
 intro k
 repeat (first | (refine zd (by first | exact ofa | exact old) ?_) | refine Trip.seq ?_ | refine zk ?_ | (refine OpsL.nil ?_; (change Trip _ _ _ _ _)))
 exact k.down) : G := f ⟨k⟩
theorem zbl (f : PLift K → G := by
 intro k;refine zg1 ?_;refine zg6 ?_;exact k.down) : G := f ⟨k⟩
theorem zhH (f : PLift K → G := by
 intro k
 repeat (first | (refine zd (by first | exact omv | exact z3i | exact z2Y) ?_) | (refine OpsL.nil ?_; (change Trip _ _ _ _ _)) | refine zW ?_)
 exact k.down) : G := f ⟨k⟩
theorem zfC (f : PLift K → G := by
 intro k;refine zg5 ?_
 repeat (first | refine zd (by exact z5G) ?_ | (refine OpsL.nil ?_; (skip)))
 refine zg5 ?_;exact k.down) : G := f ⟨k⟩
theorem zfB (f : PLift K → G := by
 intro k
 repeat (first | (refine zd (by first | exact omv | exact z0y | exact z1D | exact ofa | exact old) ?_) | refine Trip.seq ?_ | refine zk ?_ | refine Trip.block ?_ | (refine OpsL.nil ?_; (change Trip _ _ _ _ _)))
 exact k.down) : G := f ⟨k⟩
theorem z4f (f : PLift K → G := by
 intro k
 repeat (refine OpsL.nil ?_; (dsimp only))
 exact k.down) : G := f ⟨k⟩
theorem z3z (f : PLift K → G := by
 intro k;refine zg6 ?_;refine zA ?_;exact k.down) : G := f ⟨k⟩
theorem zgK (f : PLift K → G := by
 intro k;refine z4s ?_;refine z2y ?_;refine z9o ?_
 repeat (first | (refine zd (by first | exact omv | exact zct | exact z1D | exact z2Z | exact zg (k := 2) (by simp only [ASt.ev, zl, ↓reduceIte, Nat.reduceEqDiff, *]; rfl) zxr rfl zxr (by assumption)) ?_) | refine Trip.seq ?_ | refine zk ?_ | refine Trip.block ?_ | (refine Trip.skip ?_; (change Trip _ _ _ _ _)))
 exact k.down) : G := f ⟨k⟩
theorem z8g (f : PLift K → G := by
 intro k;refine zg5 ?_;refine z89 ?_;refine zg5 ?_;exact k.down) : G := f ⟨k⟩
theorem zbs (f : PLift K → G := by
 intro k
 repeat (first | refine zd (by exact omv) ?_ | refine zk ?_)
 exact k.down) : G := f ⟨k⟩
theorem zcx (f : PLift K → G := by
 intro k
 repeat (first | refine zd (by exact z2Y) ?_ | (refine OpsL.nil ?_; (change Trip _ _ _ _ _)))
 exact k.down) : G := f ⟨k⟩
theorem zfA (f : PLift K → G := by
 intro k;refine z89 ?_;refine z2P ?_;refine z89 ?_;refine z2P ?_
 repeat (first | refine zd (by exact zct) ?_ | (refine OpsL.nil ?_; (skip)) | refine zA ?_)
 exact k.down) : G := f ⟨k⟩
theorem ze3 (f : PLift K → G := by
 intro k
 repeat (first | (refine zd (by first | exact omv | exact ofa | exact old | exact z3i) ?_) | refine zA ?_)
 exact k.down) : G := f ⟨k⟩
theorem z4X (f : PLift K → G := by
 intro k;refine z3B ?_;refine zg2 ?_;exact k.down) : G := f ⟨k⟩
theorem z3C (f : PLift K → G := by
 intro k;refine zg5 ?_;refine zcm ?_;exact k.down) : G := f ⟨k⟩
theorem zfz (f : PLift K → G := by
 intro k
 repeat (first | (refine zd (by first | exact omv | exact zR (by simp only [ASt.ev, zl, ↓reduceIte, Nat.reduceEqDiff, *]; rfl) zxr) ?_))
 exact k.down) : G := f ⟨k⟩
theorem z8f (f : PLift K → G := by
 intro k;refine zg5 ?_;refine zdK ?_;refine zg5 ?_;exact k.down) : G := f ⟨k⟩
theorem z5S (f : PLift K → G := by
 intro k;refine z3B ?_;refine OpsK.nil ?_;exact k.down) : G := f ⟨k⟩
theorem zcw (f : PLift K → G := by
 intro k
 ((repeat (first | refine zY ?_ | refine zQ ?_)); dsimp only)
 exact k.down) : G := f ⟨k⟩
theorem z4e (f : PLift K → G := by
 intro k;refine zcl ?_;refine zi8 ?_;exact k.down) : G := f ⟨k⟩
theorem ze2 (f : PLift K → G := by
 intro k
 repeat (first | refine zd (by exact z2Z) ?_ | (refine OpsL.nil ?_; (dsimp only)) | refine zA ?_)
 exact k.down) : G := f ⟨k⟩
theorem ze1 (f : PLift K → G := by
 intro k;refine zg3 ?_;refine zg3 ?_;refine zdK ?_;refine z2P ?_;exact k.down) : G := f ⟨k⟩
theorem ze0 (f : PLift K → G := by
 intro k
 repeat (first | refine zd (by exact ofa) ?_ | (refine OpsL.nil ?_; (dsimp only)) | refine zA ?_)
 exact k.down) : G := f ⟨k⟩
theorem z5z (f : PLift K → G := by
 intro k;refine zg0 ?_;refine zdO ?_;exact k.down) : G := f ⟨k⟩
theorem z9B (f : PLift K → G := by
 intro k;refine z88 ?_;refine z9p ?_;refine OpsK.nil ?_;exact k.down) : G := f ⟨k⟩
theorem z42 (f : PLift K → G := by
 intro k;refine zt rfl rfl ?_;exact k.down) : G := f ⟨k⟩
theorem z6z (f : PLift K → G := by
 intro k;refine z0z ?_;refine z9o ?_;exact k.down) : G := f ⟨k⟩
theorem zfy (f : PLift K → G := by
 intro k
 repeat (first | (refine zd (by first | exact omv | exact z3i) ?_) | (refine OpsL.nil ?_; (change Trip _ _ _ _ _)) | refine zW ?_)
 exact k.down) : G := f ⟨k⟩
theorem z0M (f : PLift K → G := by
 intro k;refine OpsR.nil ?_;exact k.down) : G := f ⟨k⟩
theorem z4W (f : PLift K → G := by
 intro k;refine zg0 ?_;refine zi9 ?_;exact k.down) : G := f ⟨k⟩
theorem zfx (f : PLift K → G := by
 intro k
 repeat (first | refine Trip.seq ?_ | refine zk ?_ | refine Trip.block ?_ | (refine Trip.skip ?_; (change Trip _ _ _ _ _)))
 exact k.down) : G := f ⟨k⟩
theorem zcv (f : PLift K → G := by
 intro k;refine zg5 ?_;refine z9p ?_;refine zg0 ?_;refine z89 ?_;exact k.down) : G := f ⟨k⟩
theorem z9A (f : PLift K → G := by
 intro k;refine zg1 ?_;refine zg5 ?_;refine z9v ?_;exact k.down) : G := f ⟨k⟩
theorem zgJ (f : PLift K → G := by
 intro k
 repeat (first | (refine zd (by first | exact omv | exact z7e | exact z2Z | exact ofa | exact old | exact z3i | exact z2Y) ?_) | refine Trip.seq ?_ | refine zk ?_ | (refine OpsL.nil ?_; (change Trip _ _ _ _ _)) | refine zA ?_)
 exact k.down) : G := f ⟨k⟩
theorem z5y (f : PLift K → G := by
 intro k;refine z7a ?_;refine zi8 ?_;exact k.down) : G := f ⟨k⟩
theorem z6y (f : PLift K → G := by
 intro k;refine z0h ?_;refine zi8 ?_;exact k.down) : G := f ⟨k⟩
theorem z41 (f : PLift K → G := by
 intro k
 repeat (refine Trip.seq ?_)
 exact k.down) : G := f ⟨k⟩
theorem z5x (f : PLift K → G := by
 intro k;refine z4r ?_;refine zg9 ?_;exact k.down) : G := f ⟨k⟩
theorem z5w (f : PLift K → G := by
 intro k;refine zg5 ?_;refine zia ?_;exact k.down) : G := f ⟨k⟩
theorem z11 (f : PLift K → G := by
 intro k;refine z21 ?_;exact k.down) : G := f ⟨k⟩
theorem zfw (f : PLift K → G := by
 intro k;refine z2P ?_;refine zia ?_;refine zg2 ?_;refine z0H ?_;refine z4X ?_;refine ze1 ?_;exact k.down) : G := f ⟨k⟩
theorem zih (f : PLift K → G := by
 intro k;refine z0h ?_
 repeat (first | (refine zd (by first | exact ofa | exact old) ?_) | refine Trip.seq ?_ | refine zk ?_ | (refine Trip.exit ?_; ((repeat (refine zY ?_)); change Trip _ _ _ _ _)))
 exact k.down) : G := f ⟨k⟩
theorem zgI (f : PLift K → G := by
 intro k
 repeat (first | (refine zd (by first | exact omv | exact z2Z | exact ofa | exact old | exact z3i) ?_) | refine Trip.seq ?_ | refine zk ?_ | (refine OpsL.nil ?_; (change Trip _ _ _ _ _)) | refine zA ?_)
 exact k.down) : G := f ⟨k⟩
theorem z9z (f : PLift K → G := by
 intro k
 repeat (refine Trip.ret ?_; (dsimp only))
 exact k.down) : G := f ⟨k⟩
theorem zgH (f : PLift K → G := by
 intro k
 repeat (first | (refine zd (by first | exact omv | exact z7e | exact z5G | exact zgq | exact z2Z | exact ofa | exact old | exact z2Y) ?_) | (refine OpsL.nil ?_; (change Trip _ _ _ _ _)) | refine zA ?_)
 exact k.down) : G := f ⟨k⟩
theorem z8e (f : PLift K → G := by
 intro k;refine z9s ?_;refine z0h ?_;exact k.down) : G := f ⟨k⟩
theorem z9y (f : PLift K → G := by
 intro k
 repeat (refine zd (by exact ofa) ?_)
 exact k.down) : G := f ⟨k⟩
theorem zgG (f : PLift K → G := by
 intro k;refine zg0 ?_;refine z89 ?_;refine z8g ?_
 repeat (first | refine zd (by exact z1D) ?_ | (refine OpsL.nil ?_; (skip)) | refine zA ?_)
 refine zg5 ?_
 repeat (refine zA ?_)
 exact k.down) : G := f ⟨k⟩
theorem zbr (f : PLift K → G := by
 intro k;refine zg0 ?_;refine zcm ?_;refine zg1 ?_;exact k.down) : G := f ⟨k⟩
theorem zgF (f : PLift K → G := by
 intro k
 repeat (first | (refine zd (by first | exact omv | exact z7e | exact z3i | exact z2Y) ?_) | (refine OpsL.nil ?_; (change Trip _ _ _ _ _)) | refine zA ?_ | refine zW ?_)
 refine zdX ?_;exact k.down) : G := f ⟨k⟩
theorem zgE (f : PLift K → G := by
 intro k
 repeat (first | (refine zd (by first | exact omv | exact z2Z | exact old) ?_) | refine Trip.seq ?_ | refine zk ?_ | refine Trip.block ?_ | (refine Trip.skip ?_; (change Trip _ _ _ _ _)))
 exact k.down) : G := f ⟨k⟩
theorem zgD (f : PLift K → G := by
 intro k
 repeat (first | (refine zd (by first | exact omv | exact z0y | exact z3i) ?_) | refine Trip.seq ?_ | refine zk ?_ | (refine OpsL.nil ?_; (change Trip _ _ _ _ _)) | refine zA ?_)
 exact k.down) : G := f ⟨k⟩
theorem z8d (f : PLift K → G := by
 intro k;refine zdW ?_;refine z0h ?_;exact k.down) : G := f ⟨k⟩
theorem zcu (f : PLift K → G := by
 intro k
 repeat (refine zd (by exact z2Z) ?_)
 exact k.down) : G := f ⟨k⟩
theorem zfv (f : PLift K → G := by
 intro k
 repeat (first | refine zd (by exact z3i) ?_ | (refine OpsL.nil ?_; (change Trip _ _ _ _ _)))
 exact k.down) : G := f ⟨k⟩
end
end Go.Am
namespace Go.Am
open Go.RowKit
section
variable {P : Program} {W0 : World} {ops : Array Oper}
def z61 (ops : Array Oper) (k : Nat) (o : Oper) : Bool :=
 z24 o.op || z4C o.op || z26 (fun j oj => !z24 oj.op || zaI o j || zaI oj k) 0 ops.toList
variable {nx0 : Nat} {H0 : Heap}
section
variable {k : Nat} {type : TypeId} {pos : String} {after : Array Edge} {l : List Oper} {tm : Nat → Value} {n nx nx' : Nat} {H H' : Heap} {v : Value} {QQ : ASt → Prop} {f : FuncId} {d : Tmp} {ts : Array TypeId}
end
def z2G : List Oper → List (Value × Nat × Heap) → ASt → Nat → ASt
 | o :: l, ve :: vs, st, i + 1 => z2G l vs ⟨zl st.tm o.dst ve.1, st.n, ve.2.2, ve.2.1⟩ i
 | _, _, st, _ => st
theorem z4K (l : List Oper) (vs : List (Value × Nat × Heap)) (st : ASt) : z2G l vs st 0 = st := by cases l <;> cases vs <;> rfl
def z3j : Value × Nat × Heap := (undef, 0, zhe)
def zbw (ops : Array Oper) : Nat → Oper → Nat → Bool
 | 0, o, i => zaI o i
 | n + 1, o, i => zaI o i || (List.range ops.size).any fun m => zaI o m && (match ops[m]? with | some om => zbw ops n om i | none => false)
theorem z8L {ops : Array Oper} : ∀ (n : Nat) (o : Oper) (i : Nat), zbw ops n o i = true → zgC ops n o i := by
 intro n
 induction n with
 | zero => intro o i h; exact z1G.1 h
 | succ n ih =>
  intro o i h;simp only [zbw, Bool.or_eq_true, List.any_eq_true, Bool.and_eq_true] at h;rcases h with h | ⟨m, _, h1, h2⟩
  ·exact .inl (z1G.1 h)
  ·cases ho : ops[m]? with
   | none => rw [ho] at h2; cases h2
   | some om => rw [ho] at h2; exact .inr ⟨m, om, ho, z1G.1 h1, ih om i h2⟩
def zf6 (ops : Array Oper) : Bool :=
 z26 (fun i oi => z26 (fun j oj => !(z24 oi.op && z24 oj.op && decide (i < j)) || zbw ops 3 oj i || (List.range ops.size).any fun k => decide (i < k) && decide (k < j) && (match ops[k]? with | some o => z24 o.op | none => false)) 0 ops.toList) 0 ops.toList
theorem z59 {o : Op} (h : z47 o = true) : z24 o = true := by
 cases o <;> simp only [z47] at h <;> try (cases h; done)
 rename_i c;cases hc : c.callee <;> simp [z47, hc] at h <;> simp [z24, hc]
theorem z4U {st : ASt} {o : Oper} : z3F (evR (z4d o) st.tm) o = z0R st o := by
 unfold z3F z0R;cases ho : o.op <;> simp only;rename_i c;cases hc : c.callee <;> simp only;rename_i x
 have hm : ∀ y, y = x ∨ y ∈ c.args.toList → evR (z4d o) st.tm y = st.ev y := fun y hy =>
  z7h (n := st.n) (nx := st.nx) (H := st.H) (fun t ht => z5I (by
   rw [ho, ← ht];simp only [Op.operands, Call.operands, hc];rcases hy with rfl | hy
   ·simp
   ·simp; right; simpa using hy))
 rw [hm x (.inl rfl), z3s c.args.toList (fun y hy => hm y (.inr hy))];rfl
end
end Go.Am
namespace Go.Am
open Go.RowKit
section
variable {P : Program} {W0 : World} {ops : Array Oper}
def OpsK (P : Program) (W0 : World) (ops : Array Oper) (K : Nat → Heap → Prop) : Nat → List Oper → ASt → (ASt → Prop) → Prop
 | _, [], st, Q => Q st
 | k, o :: l, st, Q => z16 st o = true ∧ ((z15 ops st o = false ∧ OpsK P W0 ops K (k + 1) l (st.put o.dst undef .none) Q) ∨ (z15 ops st o = true ∧
   ((∃ v e, aop P st.H st.nx st.ev o = some (v, e) ∧ z61 ops k o = true ∧ (z24 o.op = true → K (e.nx st.nx) (e.H st.nx st.H)) ∧ OpsK P W0 ops K (k + 1) l (st.put o.dst v e) Q) ∨
    (∃ v, z24 o.op = false ∧ (∀ H' nx', K nx' H' → aop P H' nx' st.ev o = some (v, .none)) ∧ OpsK P W0 ops K (k + 1) l (st.put o.dst v .none) Q) ∨
    (∃ f args v nx' H', z0R st o = some (f, args) ∧ z0O P f ∧ ACalls P W0 f args st.nx st.H (fun v1 n1 H1 => v1 = v ∧ n1 = nx' ∧ H1 = H') ∧ K nx' H' ∧ OpsK P W0 ops K (k + 1) l ⟨zl st.tm o.dst v, st.n, H', nx'⟩ Q))))
variable {K : Nat → Heap → Prop}
theorem OpsK.nil {k : Nat} {st : ASt} {Q : ASt → Prop} (h : Q st) : OpsK P W0 ops K k [] st Q := h
theorem OpsK.one {k : Nat} {o : Oper} {l : List Oper} {st : ASt} {Q : ASt → Prop} (he : z24 o.op = false) (hk : z61 ops k o = true) (h : OpsL P W0 ops [o] st fun s => OpsK P W0 ops K (k + 1) l s Q) : OpsK P W0 ops K k (o :: l) st Q := by
 obtain ⟨hd, h⟩ := h;refine ⟨hd, ?_⟩;rcases h with ⟨hw, h⟩ | ⟨hw, ⟨v, e, hop, h⟩ | ⟨f, args, R, hc, _⟩⟩
 ·exact .inl ⟨hw, h⟩
 ·exact .inr ⟨hw, .inl ⟨v, e, hop, hk, fun hx => (by rw [he] at hx; cases hx), h⟩⟩
 ·have := z2q hc;cases ho : o.op <;> simp only [ho, z47] at this <;> try (cases this; done)
  rename_i c;cases hcc : c.callee <;> simp [hcc] at this <;> simp [z24, ho, hcc] at he
section
variable {k : Nat} {type : TypeId} {pos : String} {after : Array Edge} {l : List Oper} {tm : Nat → Value} {n nx nx' : Nat} {H H' : Heap} {v : Value} {QQ : ASt → Prop} {f : FuncId} {d : Tmp} {ts : Array TypeId}
end
def zfg (P : Program) (W0 : World) (ops : Array Oper) (K : Nat → Heap → Prop) (k : Nat) (st : ASt) (o : Oper) (v : Value) (nx' : Nat) (H' : Heap) : Prop :=
 z16 st o = true ∧ ((z15 ops st o = false ∧ v = undef ∧ nx' = st.nx ∧ H' = st.H) ∨ (z15 ops st o = true ∧ ((∃ e, aop P st.H st.nx st.ev o = some (v, e) ∧ z61 ops k o = true ∧ (z24 o.op = true → K nx' H') ∧ nx' = e.nx st.nx ∧ H' = e.H st.nx st.H) ∨
  (z24 o.op = false ∧ (∀ H1 n1, K n1 H1 → aop P H1 n1 st.ev o = some (v, .none)) ∧ nx' = st.nx ∧ H' = st.H) ∨
  (z47 o.op = true ∧ K nx' H' ∧ ∃ f args, z0R st o = some (f, args) ∧ z0O P f ∧ ACalls P W0 f args st.nx st.H (fun v1 n1 H1 => v1 = v ∧ n1 = nx' ∧ H1 = H')))))
theorem zdJ {Q : ASt → Prop} : ∀ (l : List Oper) (k : Nat) (st : ASt), OpsK P W0 ops K k l st Q → ∃ vs : List (Value × Nat × Heap), vs.length = l.length ∧ Q (z2G l vs st l.length) ∧
  ∀ (i : Nat) (o : Oper), l[i]? = some o → zfg P W0 ops K (k + i) (z2G l vs st i) o (vs.getD i z3j).1 (vs.getD i z3j).2.1 (vs.getD i z3j).2.2 ∧ z2G l vs st (i + 1) = ⟨zl (z2G l vs st i).tm o.dst (vs.getD i z3j).1, (z2G l vs st i).n, (vs.getD i z3j).2.2, (vs.getD i z3j).2.1⟩ := by
 intro l
 induction l with
 | nil => intro k st h; exact ⟨[], rfl, h, fun i o ho => by simp at ho⟩
 | cons o l ih =>
  intro k st h;obtain ⟨hd, h⟩ := h
  have key : ∃ v nx' H', zfg P W0 ops K k st o v nx' H' ∧ OpsK P W0 ops K (k + 1) l ⟨zl st.tm o.dst v, st.n, H', nx'⟩ Q := by
   rcases h with ⟨hw, h⟩ | ⟨hw, ⟨v, e, hop, he, hx, h⟩ | ⟨v, he, hop, h⟩ | ⟨f, args, v, nx', H', hc, hf, hcall, hx, h⟩⟩
   ·exact ⟨undef, st.nx, st.H, ⟨hd, .inl ⟨hw, rfl, rfl, rfl⟩⟩, h⟩
   ·exact ⟨v, e.nx st.nx, e.H st.nx st.H, ⟨hd, .inr ⟨hw, .inl ⟨e, hop, he, hx, rfl, rfl⟩⟩⟩, h⟩
   ·exact ⟨v, st.nx, st.H, ⟨hd, .inr ⟨hw, .inr (.inl ⟨he, hop, rfl, rfl⟩)⟩⟩, h⟩
   ·exact ⟨v, nx', H', ⟨hd, .inr ⟨hw, .inr (.inr ⟨z2q hc, hx, f, args, hc, hf, hcall⟩)⟩⟩, h⟩
  obtain ⟨v, nx', H', h1, h2⟩ := key;obtain ⟨vs, e1, e2, e3⟩ := ih _ _ h2;refine ⟨(v, nx', H') :: vs, by simp [e1], e2, ?_⟩;intro i o' ho;cases i with
  | zero =>
   simp only [List.getElem?_cons_zero, Option.some.injEq] at ho;subst ho;refine ⟨by rw [z4K]; exact h1, ?_⟩;show z2G l vs ⟨zl st.tm o.dst v, st.n, H', nx'⟩ 0 = _;rw [z4K, z4K]; rfl
  | succ i =>
   have := e3 i o' (by simpa using ho);rw [show k + (i + 1) = k + 1 + i by omega];exact this
theorem OpsK.drawn {id : Nat} {st : ASt} {Q : AExit → ASt → Prop} (hm : P.follows .mixedOrders = true) (hs : z8l ops = true) (hq : zf6 ops = true) (h0 : K st.nx st.H) (h : OpsK P W0 ops K 0 ops.toList st (Q .normal)) : Trip P W0 (.region id ops true) st Q := by
 have q2 := hq;unfold zf6 at q2;obtain ⟨vs, e1, e2, e3⟩ := zdJ _ _ _ h;simp only [Nat.zero_add] at e3;obtain ⟨b1, b2, b3⟩ := z4j hs;have toL : ∀ (i : Nat) (o : Oper), ops[i]? = some o → ops.toList[i]? = some o := fun i o ho => by simpa using ho
 have hz := z4K ops.toList vs st
 have hnn : ∀ i, i ≤ ops.size → (z2G ops.toList vs st i).n = st.n := by
  intro i
  induction i with
  | zero => intro _; rw [hz]
  | succ i ih =>
   intro hi;have ho : ops[i]? = some ops[i] := Array.getElem?_eq_getElem zom;rw [(e3 i _ (toL i _ ho)).2];exact ih zom
 have hend : ∀ i, ops[i]? = none → z2G ops.toList vs st (i + 1) = z2G ops.toList vs st i := by
  have gen : ∀ (l : List Oper) (us : List (Value × Nat × Heap)) (st : ASt) (i : Nat), us.length = l.length → l.length ≤ i → z2G l us st (i + 1) = z2G l us st i := by
   intro l
   induction l with
   | nil => intro us st i _ _; cases i <;> rfl
   | cons o l ih =>
    intro us st i hu hi;cases us with
    | nil => simp at hu
    | cons u us =>
     cases i with
     | zero => simp at hi
     | succ i => exact ih us _ i (by simpa using hu) (by simpa using hi)
  intro i hi;exact gen _ _ _ _ e1 (by simpa using Array.getElem?_eq_none_iff.1 hi)
 have hstill : ∀ i, z2H ops i = false → (z2G ops.toList vs st (i + 1)).H = (z2G ops.toList vs st i).H ∧ (z2G ops.toList vs st (i + 1)).nx = (z2G ops.toList vs st i).nx := by
  intro i hi;cases ho : ops[i]? with
  | none => rw [hend i ho]; exact ⟨rfl, rfl⟩
  | some o =>
   obtain ⟨⟨_, p2⟩, p3⟩ := e3 i o (toL i o ho);have hE : z24 o.op = false := by simpa [z2H, ho] using hi
   rw [p3];rcases p2 with ⟨_, _, c, d⟩ | ⟨_, ⟨e, c1, _, _, c2, c3⟩ | ⟨_, _, c, d⟩ | ⟨g, _⟩⟩
   ·exact ⟨d, c⟩
   ·have := z3d hE c1;subst this;exact ⟨c3, c2⟩
   ·exact ⟨d, c⟩
   ·rw [z59 g] at hE; cases hE
 have hextAll : ∀ i, i ≤ ops.size → K (z2G ops.toList vs st i).nx (z2G ops.toList vs st i).H := by
  intro i
  induction i with
  | zero => intro _; rw [hz]; exact h0
  | succ i ih =>
   intro hi;have ho : ops[i]? = some ops[i] := Array.getElem?_eq_getElem zom;by_cases hE : z24 ops[i].op = true
   ·obtain ⟨⟨_, p2⟩, p3⟩ := e3 i _ (toL i _ ho);rw [p3];rcases p2 with ⟨_, _, c, d⟩ | ⟨_, ⟨e, _, _, c, _⟩ | ⟨g, _⟩ | ⟨_, c, _⟩⟩
    ·rw [c, d]; exact ih zom
    ·exact c hE
    ·rw [g] at hE; cases hE
    ·exact c
   ·obtain ⟨a, b⟩ := hstill i (by unfold z2H; rw [ho]; simpa using hE);rw [a, b]; exact ih zom
 have hrange : ∀ m p, (∀ j, p ≤ j → j < p + m → z2H ops j = false) → (z2G ops.toList vs st (p + m)).H = (z2G ops.toList vs st p).H ∧ (z2G ops.toList vs st (p + m)).nx = (z2G ops.toList vs st p).nx := by
  intro m
  induction m with
  | zero => intro p _; exact ⟨rfl, rfl⟩
  | succ m ih =>
   intro p hp;obtain ⟨a1, a2⟩ := ih p (fun j h1 h2 => hp j h1 zom);obtain ⟨c1, c2⟩ := hstill (p + m) (hp _ zom zom);exact ⟨by rw [show p + (m + 1) = p + m + 1 by omega, c1, a1], by rw [show p + (m + 1) = p + m + 1 by omega, c2, a2]⟩
 have hev : ∀ (i : Nat) (o : Oper) (H : Heap) (nx : Nat), aop P H nx (evR (z4d o) (z2G ops.toList vs st i).tm) o = aop P H nx (z2G ops.toList vs st i).ev o := fun i o H nx =>
  z69 (fun x hx => z7h (n := (z2G ops.toList vs st i).n) (nx := (z2G ops.toList vs st i).nx) (H := (z2G ops.toList vs st i).H) (fun t ht => z5I (by rw [← ht]; exact hx)))
 refine Trip.drawn (tms := fun i => (z2G ops.toList vs st i).tm) (vs := fun i => (vs.getD i z3j).1) (Hs := fun i => (z2G ops.toList vs st i).H) (ns := fun i => (z2G ops.toList vs st i).nx) (isE := z2H ops) hm
  ⟨by rw [hz], by rw [hz], by rw [hz], ?_, ?_, hstill, b1, b2, b3, ?_, ?_, ?_⟩ ?_
 ·intro i o ho;rw [(e3 i o (toL i o ho)).2]
 ·intro i o ho;obtain ⟨⟨p1, p2⟩, p3⟩ := e3 i o (toL i o ho);have hlt : i < ops.size := (Array.getElem?_eq_some_iff.1 ho).1;refine ⟨fun d hd => by have := z1z p1 d hd; rwa [hnn i zom] at this, ?_⟩;simp only [z0I];rcases p2 with ⟨a, b, c, d⟩ | ⟨a, ⟨e, c1, _, _, c2, c3⟩ | ⟨_, c1, c2, c3⟩ | ⟨_, _, f, args, g1, g2, g3⟩⟩
  ·exact .inl ⟨a, b, by rw [p3, d], by rw [p3, c]⟩
  ·exact .inr ⟨a, .inl ⟨e, by rw [hev]; exact c1, by rw [p3, c3], by rw [p3, c2]⟩⟩
  ·exact .inr ⟨a, .inl ⟨.none, by rw [hev]; exact c1 _ _ (hextAll i zom), by rw [p3, c3]; rfl, by rw [p3, c2]; rfl⟩⟩
  ·refine .inr ⟨a, .inr (.inl ⟨f, args, by rw [z4U]; exact g1, g2, ?_⟩)⟩;rw [p3]; exact g3
 ·intro i j oj hi hj hoj hij hbetween;unfold z2H at hi hj;cases hoi : ops[i]? with
  | none => rw [hoi] at hi; cases hi
  | some oi =>
   rw [hoi] at hi;rw [hoj] at hj;simp only at hi hj;have := z0n _ _ (z0n _ _ q2 i oi (toL i oi hoi)) j oj (toL j oj hoj);simp only [Nat.zero_add, hi, hj, hij, decide_true, Bool.and_self, Bool.not_true, Bool.false_or, Bool.or_eq_true] at this;rcases this with h1 | h1
   ·exact ⟨3, z8L _ _ _ h1⟩
   ·rw [List.any_eq_true] at h1;obtain ⟨k, _, hk⟩ := h1;simp only [Bool.and_eq_true, decide_eq_true_eq] at hk;obtain ⟨⟨k1, k2⟩, k3⟩ := hk;have := hbetween k k1 k2;unfold z2H at this;cases hok : ops[k]? with
    | none => rw [hok] at k3; cases k3
    | some o => rw [hok] at this k3; simp only at this k3; rw [this] at k3; cases k3
 ·intro i oi p ho hE hw _ hple hdep hnot;obtain ⟨⟨p1, p2⟩, p3⟩ := e3 i oi (toL i oi ho);have hlt : i < ops.size := (Array.getElem?_eq_some_iff.1 ho).1;have hEo : z24 oi.op = false := by simpa [z2H, ho] using hE
  simp only [z0I] at hw
  have hcases : (aop P (z2G ops.toList vs st i).H (z2G ops.toList vs st i).nx (z2G ops.toList vs st i).ev oi = some ((vs.getD i z3j).1, .none) ∧ z61 ops i oi = true) ∨ (∀ H1 n1, K n1 H1 → aop P H1 n1 (z2G ops.toList vs st i).ev oi = some ((vs.getD i z3j).1, .none)) := by
   rcases p2 with ⟨a, _⟩ | ⟨_, ⟨e, c1, c2, _⟩ | ⟨_, c, _⟩ | ⟨g, _⟩⟩
   ·rw [hw] at a; cases a
   ·rw [z3d hEo c1] at c1; exact .inl ⟨c1, c2⟩
   ·exact .inr c
   ·rw [z59 g] at hEo; cases hEo
  show aop P _ _ (evR (z4d oi) (z2G ops.toList vs st i).tm) oi = _;rw [hev];rcases hcases with ⟨hop, hq⟩ | hst
  case inr => exact hst _ _ (hextAll p hple)
  unfold z61 at hq;simp only [hEo, Bool.false_or, Bool.or_eq_true] at hq;rcases hq with hf | hf
  ·rw [z3L (H' := (z2G ops.toList vs st i).H) (nx' := (z2G ops.toList vs st i).nx) hf]; exact hop
  ·have hrel : ∀ j, z2H ops j = true → (j < i → j < p) ∧ (i < j → p ≤ j) := by
    exact ziI
   have hsame : (z2G ops.toList vs st p).H = (z2G ops.toList vs st i).H ∧ (z2G ops.toList vs st p).nx = (z2G ops.toList vs st i).nx := by
    exact ziH
   simp only [hsame.1, hsame.2];exact hop
 ·intro i hi;unfold z2H at hi;cases ho : ops[i]? with
  | none => rw [ho] at hi; cases hi
  | some o => exact (Array.getElem?_eq_some_iff.1 ho).1
 ·have hl : ops.toList.length = ops.size := by simp
  rw [hl] at e2;have hn := hnn ops.size (Nat.le_refl _);have : (⟨(z2G ops.toList vs st ops.size).tm, st.n, (z2G ops.toList vs st ops.size).H, (z2G ops.toList vs st ops.size).nx⟩ : ASt) = z2G ops.toList vs st ops.size := by rw [← hn]
  rw [this];exact e2
end
end Go.Am
