import Derived.Test.YteplpegfcpmflaaGreatQKM4
set_option linter.unusedSimpArgs false
set_option linter.unusedVariables false
set_option maxRecDepth 100000
set_option maxHeartbeats 32000000
namespace Go.Am
open Go.RowKit
section
variable {P : Program} {W0 : World} {ev : Operand → Option Value} {H : Heap} {nx n : Nat} {dst : Option Tmp} {type : TypeId} {pos : String} {after : Array Edge} {guard : Option (Nat × Bool)}
theorem zE {t : TypeId} {ps : Array (Nat × Operand)} {l : List (Nat × Value)} {v : Value} (hl : z0h ev ps.toList = some l) (hb : zb8 P t l = some v) :
  aop P H nx ev ⟨dst, .build t ps, type, pos, after, guard⟩ = some (v, .none) := by simp [aop, hl, hb]
theorem zq {t : TypeId} {len : Nat} {ps : Array (Nat × Operand)} {l : List (Nat × Value)} {r : Value × Eff} (hl : z0h ev ps.toList = some l) (hb : z2M P nx t len l = some r) :
  aop P H nx ev ⟨dst, .buildSlice t len ps, type, pos, after, guard⟩ = some r := by simp [aop, hl, hb]
theorem z07 {t : TypeId} {x : Operand} {lo hi mx : Option Operand} {v r : Value} {a b c : Option Value} (hx : ev x = some v) (ha : z2l ev lo = some a) (hb : z2l ev hi = some b) (hc : z2l ev mx = some c) (h : z0Q P H t v a b c = some r) :
  aop P H nx ev ⟨dst, .slice t x lo hi mx, type, pos, after, guard⟩ = some (r, .none) := by simp [aop, hx, ha, hb, hc, h]
theorem z1v {t : TypeId} {l c : Operand} {a b : Value} {r : Value × Eff} (hl : ev l = some a) (hc : ev c = some b) (h : z1H P nx t a b = some r) :
  aop P H nx ev ⟨dst, .makeSlice t l c, type, pos, after, guard⟩ = some r := by simp [aop, hl, hc, h]
theorem zfk {t u : TypeId} {x y : Operand} {a b : Bool} (hx : ev x = some (.bool a)) (hy : ev y = some (.bool b)) (hu : P.underlying t = some .bool) :
  aop P H nx ev ⟨dst, .binOp .eql t x y u, type, pos, after, guard⟩ = some (.bool (a == b), .none) := by
 have : aEq P H 60 t (.bool a) (.bool b) = some (a == b) := by simp [aEq, hu]
 simp [aop, hx, hy, z6S, zfR, this]
theorem zeI {a : Addr} {cs : List Value} {e : Nat} {q : Option TypeId} {v : Value} (hH : H a.block = some (.cells cs e a.spot false q)) (h : a.off < cs.length) (h1 : v.oneCell' = true) : z5d H a [v] = some (.cells (cs.set a.off v) e a.spot false q) := by
 unfold z5d;rw [hH];simp only [List.length_cons, List.length_nil, List.all_cons, List.all_nil, h1, Bool.and_self, and_true, true_and];rw [if_pos zom, List.set_eq_take_append_cons_drop, if_pos h];simp
theorem z2v {b off : Nat} {t : Option Nat} {cs : List Value} {e : Nat} {ro : Bool} {q : Option TypeId} (hH : H b = some (.cells cs e t ro q)) (h : off < cs.length) : zj H ⟨b, off, t⟩ cs[off] := by
 unfold zj z0M;simp only [hH];rw [if_pos ⟨trivial, zom⟩, List.take_one, List.head?_drop, List.getElem?_eq_getElem h];rfl
variable {ops : Array Oper} {l : List Oper} {tm : Nat → Value} {QQ : ASt → Prop}
theorem zaP {t : TypeId} {x y : Operand} {a : Addr} {v : Value} {cs : List Value} {e : Nat} {q : Option TypeId} (hx : ASt.ev ⟨tm, n, H, nx⟩ x = some (.pointer (some a))) (hy : ASt.ev ⟨tm, n, H, nx⟩ y = some v) (hz : z1F P t = some 1) (hv : v.cells = #[v]) (h1 : v.oneCell' = true)
  (hH : H a.block = some (.cells cs e a.spot false q)) (hlt : a.off < cs.length) (h : OpsL P W0 ops l ⟨tm, n, H.put a.block (.cells (cs.set a.off v) e a.spot false q), nx⟩ QQ) :
  OpsL P W0 ops (⟨none, .store t x y, type, pos, after, none⟩ :: l) ⟨tm, n, H, nx⟩ QQ :=
 OpsL.upd (zw hx hy hz (by rw [hv]; rfl) (by rw [hv]; exact zeI hH hlt h1)) h
theorem NumsAt.own {b : Nat} {t : Option Nat} {xs : List Int} {rest : List Value} {e c : Nat} {ro : Bool} {q : Option TypeId} (hH : H b = some (.cells (xs.map (.int .i64 ·) ++ rest) e t ro q)) : IntsAt H (.slice (some ⟨b, 0, t⟩) xs.length c) xs := by
 refine .inr ⟨⟨b, 0, t⟩, c, rfl, fun i hi => ?_⟩;have := z2v (off := 0 + i) hH (by simp; omega);simpa [List.getElem_append_left, hi] using this
theorem OwnInts.at {ob : Option (Nat × Nat)} {el : TypeId} {v : Value} {xs : List Int} (h : OwnInts H ob el v xs) : IntsAt H v xs := by
 cases ob with
 | none =>
  obtain ⟨rfl, h1, _⟩ := h;exact .inl ⟨0, rfl, by simpa using h1⟩
 | some bt =>
  obtain ⟨b, t⟩ := bt;obtain ⟨rfl, _, rest, ho⟩ := h;exact NumsAt.own ho
def Ext (nx : Nat) (H : Heap) (nx' : Nat) (H' : Heap) : Prop := nx ≤ nx' ∧ ∀ i, i < nx → H' i = H i
theorem Ext.refl : Ext nx H nx H := ⟨Nat.le_refl _, fun _ _ => rfl⟩
theorem Ext.trans {nx1 nx2 : Nat} {H1 H2 : Heap} (h : Ext nx H nx1 H1) (k : Ext nx1 H1 nx2 H2) : Ext nx H nx2 H2 := ⟨Nat.le_trans h.1 k.1, fun i hi => by rw [k.2 i (Nat.lt_of_lt_of_le hi h.1), h.2 i hi]⟩
theorem Ext.put {nx1 k : Nat} {H1 : Heap} {o : AObj} (h : Ext nx H nx1 H1) (hk : nx ≤ k) : Ext nx H nx1 (H1.put k o) := ⟨h.1, fun i hi => by rw [za zom, h.2 i hi]⟩
theorem Ext.up {nx1 nx2 : Nat} {H1 : Heap} (h : Ext nx H nx1 H1) (hk : nx1 ≤ nx2) : Ext nx H nx2 H1 := ⟨Nat.le_trans h.1 hk, h.2⟩
theorem z1O {nx' : Nat} {H' : Heap} (h : Ext nx H nx' H') {a : Addr} {m : Nat} {vs : List Value} (hok : ∀ id o, H id = some o → id < nx) (hg : z0M H a m = some vs) : z0M H' a m = some vs := by
 obtain ⟨o, ho⟩ := z1T hg;unfold z0M at *;rw [h.2 _ (hok _ _ ho)];exact hg
theorem IntsAt.ext {nx' : Nat} {H' : Heap} {v : Value} {xs : List Int} (h : Ext nx H nx' H') (hok : ∀ id o, H id = some o → id < nx) (hi : IntsAt H v xs) : IntsAt H' v xs := by
 rcases hi with hi | ⟨a, c, rfl, hi⟩
 ·exact .inl hi
 ·exact .inr ⟨a, c, rfl, fun i q => z1O h hok (hi i q)⟩
theorem z8p {ob : Option (Nat × Nat)} {el : TypeId} {sz k j : Nat} {v : Value} {cs : List Value} {o : AObj} (h : OwnRow H ob el sz v cs k) (hne : ∀ b t, ob = some (b, t) → b ≠ j) : OwnRow (H.put j o) ob el sz v cs k := by
 cases ob with
 | none => exact h
 | some bt =>
  obtain ⟨b, t⟩ := bt;obtain ⟨h1, h2, rest, h3⟩ := h;exact ⟨h1, h2, rest, by rw [za (hne b t rfl)]; exact h3⟩
theorem OwnRow.ext {nx' : Nat} {H' : Heap} {ob : Option (Nat × Nat)} {el : TypeId} {sz k : Nat} {v : Value} {cs : List Value} (hx : Ext nx H nx' H') (hlt : ∀ b t, ob = some (b, t) → b < nx) (h : OwnRow H ob el sz v cs k) : OwnRow H' ob el sz v cs k := by
 cases ob with
 | none => exact h
 | some bt =>
  obtain ⟨b, t⟩ := bt;obtain ⟨h1, h2, rest, h3⟩ := h;exact ⟨h1, h2, rest, by rw [hx.2 _ (hlt b t rfl)]; exact h3⟩
theorem z2h {d1 d2 dy : Tmp} {x : Operand} {st el ty1 ty2 : TypeId} {p1 p2 : String} {af1 af2 : Array Edge} {a : Int} {v : Value} {ob : Option (Nat × Nat)} {xs : List Int}
  (hd1 : d1 < n) (hd2 : d2 < n) (hx : ASt.ev ⟨tm, n, H, nx⟩ x = some (.int .i64 a)) (hne : dy ≠ d1) (hy : tm dy = v) (hv : OwnInts H ob el v xs) (hob : ∀ b t, ob = some (b, t) → b < nx)
  (hst : P.underlying st = some (.slice el)) (hsz : z1F P el = some 1) (hby : z0q P el = some 8) (hz : z0B P el = some [.int .i64 0]) (hle : xs.length ≤ 1000000000)
  (h : ∀ v' ob' H', OwnInts H' ob' el v' (xs ++ [a]) → (∃ b, ob' = some (b, nx + 1) ∧ (b = nx + 1 ∨ ∃ t, ob = some (b, t))) → (∀ k, k < nx → (∀ b t, ob = some (b, t) → k ≠ b) → H' k = H k) →
   OpsL P W0 ops l ⟨zk (zk tm (some d1) (.slice (some ⟨nx, 0, none⟩) 1 1)) (some d2) v', n, H', nx + 1 + 1⟩ QQ) :
  OpsL P W0 ops (⟨some d1, .buildSlice st 1 #[(0, x)], ty1, p1, af1, none⟩ :: ⟨some d2, .call ⟨.builtin .append, #[.tmp dy, .tmp d1], #[st, st]⟩, ty2, p2, af2, none⟩ :: l) ⟨tm, n, H, nx⟩ QQ := by
 refine OpsL.new hd1 (z2N hx hst hsz hz) ?_;have hblk : ∀ b t, ob = some (b, t) → b ≠ nx := fun b t hb => by have := hob b t hb; omega
 refine OpsL.append (sz := 1) (bytes := 8) (k := xs.length) (m := 1) (cs := xs.map (.int .i64 ·)) (xs := [.int .i64 a]) (ob := ob) (u := .slice (some ⟨nx, 0, none⟩) 1 1) (xd := .slice el) (v := v) hd2 (by simp [ASt.ev, zk, hne, hy]) (by simp [ASt.ev, zk])
  (z8p hv hblk) (z7h (by exact zb) rfl zom) rfl zom hst hst rfl hsz hby hz rfl zom zom ?_
 refine h _ (some (z4O (nx + 1) ob, nx + 1)) _ ⟨by simp, by simp, [], ?_⟩ ⟨_, rfl, ?_⟩ ?_
 ·rw [zb]; simp
 ·cases ob with
  | none => exact .inl rfl
  | some bt => exact .inr ⟨bt.2, rfl⟩
 ·intro k hk hkb
  have h1 : k ≠ z4O (nx + 1) ob := by
   cases ob with
   | none => simp only [z4O]; omega
   | some bt => exact hkb bt.1 bt.2 rfl
  rw [za h1, za zom]
def Bd (o : Option Value) (dflt k : Nat) : Prop := (o = none ∧ k = dflt) ∨ ∃ kd, o = some (.int kd k)
theorem Bd.bound {o : Option Value} {dflt k : Nat} (h : Bd o dflt k) : z5i o dflt = some k := by
 rcases h with ⟨rfl, rfl⟩ | ⟨kd, rfl⟩
 ·rfl
 ·simp [Am.z5i]
theorem z6q {len cap l h : Nat} {lo hi : Option Value} (hl : Bd lo 0 l) (hh : Bd hi len h) (h1 : l ≤ h) (h2 : h ≤ cap) : z3Q len cap lo hi none = some (l, h, cap) := by
 unfold z3Q;rw [hl.bound, hh.bound];simp [Am.z5i, h1, h2]
theorem z5J {t el : TypeId} {sz : Nat} {a : Addr} {len cap l h : Nat} {lo hi : Option Value} {o : AObj} (hu : P.underlying t = some (.slice el)) (hs : z1F P el = some sz) (ho : H a.block = some o) (ht : o.tag = none) (ha : a.spot = none)
  (hl : Bd lo 0 l) (hh : Bd hi len h) (h1 : l ≤ h) (h2 : h ≤ cap) : z0Q P H t (.slice (some a) len cap) lo hi none = some (.slice (some (if cap = l then a else ⟨a.block, a.off + l * sz, none⟩)) (h - l) (cap - l)) := by
 unfold z0Q;simp only [hu, hs, ho, ht, ha, if_true, z6q hl hh h1 h2, Option.map_some]
theorem z06 {t el : TypeId} {sz : Nat} {a : Addr} {len cap l h tg : Nat} {lo hi : Option Value} {o : AObj} (hu : P.underlying t = some (.slice el)) (hs : z1F P el = some sz) (ho : H a.block = some o) (ht : o.tag = some tg) (ha : a.spot = some tg) (he : o.esz = sz)
  (hl : Bd lo 0 l) (hh : Bd hi len h) (h1 : l ≤ h) (h2 : h ≤ len) : z0Q P H t (.slice (some a) len cap) lo hi none = some (.slice (some ⟨a.block, a.off + l * sz, if l = len ∧ 0 < l then none else some tg⟩) (h - l) (h - l)) := by
 unfold z0Q;simp only [hu, hs, ho, ht, ha, he, if_true, z6q hl hh h1 h2, Option.map_some, Option.isSome_none, Bool.false_eq_true, ne_eq, not_true_eq_false, or_self, if_false]
theorem z3e {t el : TypeId} {sz : Nat} {lo hi : Option Value} (hu : P.underlying t = some (.slice el)) (hs : z1F P el = some sz)
  (hl : Bd lo 0 0) (hh : Bd hi 0 0) : z0Q P H t (.slice none 0 0) lo hi none = some (.slice none 0 0) := by
 unfold z0Q;simp only [hu, hs, Option.isSome_some, if_true, z6q hl hh (Nat.le_refl _) (Nat.le_refl _), Option.map_some]
theorem z4Z {t u : TypeId} {x y : Operand} {a b : Bool} (hx : ev x = some (.bool a)) (hy : ev y = some (.bool b)) (hu : P.underlying t = some .bool) (h : a = b) :
  aop P H nx ev ⟨dst, .binOp .eql t x y u, type, pos, after, guard⟩ = some (.bool true, .none) := by rw [zfk hx hy hu]; simp [h]
theorem z4t {a : Addr} {u v : Value} (h : z0M H a 2 = some [u, v]) : zj H ⟨a.block, a.off + 1, a.spot⟩ v := by
 unfold zj z0M at *;split at h
 ·rename_i c e t r q ho;simp only [ho];split at h
  ·rename_i hc;rw [if_pos ⟨hc.1, zom⟩];simp only [Option.some.injEq] at h;have h1 : ((c.drop a.off).take 2)[1]? = some v := by rw [h]; rfl
   rw [List.getElem?_take, if_pos zom, List.getElem?_drop] at h1;rw [List.take_one, List.head?_drop, h1];rfl
  ·cases h
 ·cases h
theorem ACalls.ok {f : FuncId} {args : List Value} {R : Value → Nat → Heap → Prop} (h : ACalls P W0 f args nx H R) : ACalls P W0 f args nx H fun v nx' H' => R v nx' H' ∧ ∀ id o, H' id = some o → id < nx' := fun C w args' hR ha => by
 refine (h C w args' hR ha).mono ?_;rintro e w' ⟨v, v', C', nx', H', h1, h2, hR', h4⟩;exact ⟨v, v', C', nx', H', h1, ⟨h2, fun id o ho => (hR'.lt id o ho).1⟩, hR', h4⟩
theorem z6O {t el : TypeId} {m : Nat} (hu : P.underlying t = some (.slice el)) (hs : z1F P el = some 1) (hb : z0q P el = some 8) (hz : z0B P el = some [.int .i64 0]) (hm : m ≤ 1000000000) :
  z1H P nx t (.int .i64 m) (.int .i64 m) = some (.slice (some ⟨nx, 0, none⟩) m m, .new (.cells (rep m [.int .i64 0]) 1 none false (some el))) := by
 unfold z1H;simp only [hu, hs, hb, hz, Int.toNat_natCast];rw [if_pos ⟨zom, zom, zom, zom, rfl⟩]
theorem OpsL.storeAt {t : TypeId} {x y : Operand} {a : Addr} {v : Value} {cs cs' : List Value} {e : Nat} {q : Option TypeId} (j : Nat) (hx : ASt.ev ⟨tm, n, H, nx⟩ x = some (.pointer (some a))) (hy : ASt.ev ⟨tm, n, H, nx⟩ y = some v) (hz : z1F P t = some 1) (hv : v.cells = #[v]) (h1 : v.oneCell' = true)
  (hH : H a.block = some (.cells cs e a.spot false q)) (hj : a.off = j) (hlt : j < cs.length) (hcs : cs.set j v = cs') (h : OpsL P W0 ops l ⟨tm, n, H.put a.block (.cells cs' e a.spot false q), nx⟩ QQ) :
  OpsL P W0 ops (⟨none, .store t x y, type, pos, after, none⟩ :: l) ⟨tm, n, H, nx⟩ QQ := by
 subst hj; subst hcs;exact zaP hx hy hz hv h1 hH hlt h
theorem z8q {j : Nat} {want : Bool} {d d' : Tmp} {op : Op} (hj : (ops[j]?).bind (·.dst) = some d') (hb : tm d' = undef) (hd : d < n) (h : OpsL P W0 ops l ⟨zk tm (some d) undef, n, H, nx⟩ QQ) :
  OpsL P W0 ops (⟨some d, op, type, pos, after, some (j, want)⟩ :: l) ⟨tm, n, H, nx⟩ QQ := by
 refine ⟨by simp [z1f, hd], .inl ⟨?_, h⟩⟩;simp [z0X, hj, hb, undef]
theorem zfc {t u : TypeId} {k : IntKind} {x y : Operand} {a b : Int} (hx : ev x = some (.int k a)) (hy : ev y = some (.int k b)) (h : a < b) :
  aop P H nx ev ⟨dst, .binOp .lss t x y u, type, pos, after, guard⟩ = some (.bool true, .none) := by rw [za7 hx hy]; simp only [h, decide_true, decide_false, not_false_eq_true, not_true_eq_false]
theorem zfd {t u : TypeId} {k : IntKind} {x y : Operand} {a b : Int} (hx : ev x = some (.int k a)) (hy : ev y = some (.int k b)) (h : ¬ (a < b)) :
  aop P H nx ev ⟨dst, .binOp .lss t x y u, type, pos, after, guard⟩ = some (.bool false, .none) := by rw [za7 hx hy]; simp only [h, decide_true, decide_false, not_false_eq_true, not_true_eq_false]
theorem zff {t u : TypeId} {k : IntKind} {x y : Operand} {a b : Int} (hx : ev x = some (.int k a)) (hy : ev y = some (.int k b)) (h : b < a) :
  aop P H nx ev ⟨dst, .binOp .gtr t x y u, type, pos, after, guard⟩ = some (.bool true, .none) := by rw [za8 hx hy]; simp only [h, decide_true, decide_false, not_false_eq_true, not_true_eq_false]
theorem zfg {t u : TypeId} {k : IntKind} {x y : Operand} {a b : Int} (hx : ev x = some (.int k a)) (hy : ev y = some (.int k b)) (h : ¬ (b < a)) :
  aop P H nx ev ⟨dst, .binOp .gtr t x y u, type, pos, after, guard⟩ = some (.bool false, .none) := by rw [za8 hx hy]; simp only [h, decide_true, decide_false, not_false_eq_true, not_true_eq_false]
theorem zfh {t u : TypeId} {k : IntKind} {x y : Operand} {a b : Int} (hx : ev x = some (.int k a)) (hy : ev y = some (.int k b)) (h : b ≤ a) :
  aop P H nx ev ⟨dst, .binOp .geq t x y u, type, pos, after, guard⟩ = some (.bool true, .none) := by rw [zdz hx hy]; simp only [h, decide_true, decide_false, not_false_eq_true, not_true_eq_false]
theorem zfi {t u : TypeId} {k : IntKind} {x y : Operand} {a b : Int} (hx : ev x = some (.int k a)) (hy : ev y = some (.int k b)) (h : ¬ (b ≤ a)) :
  aop P H nx ev ⟨dst, .binOp .geq t x y u, type, pos, after, guard⟩ = some (.bool false, .none) := by rw [zdz hx hy]; simp only [h, decide_true, decide_false, not_false_eq_true, not_true_eq_false]
theorem zfj {t u : TypeId} {k : IntKind} {x y : Operand} {a b : Int} (hx : ev x = some (.int k a)) (hy : ev y = some (.int k b)) (h : ¬ (a = b)) :
  aop P H nx ev ⟨dst, .binOp .eql t x y u, type, pos, after, guard⟩ = some (.bool false, .none) := by rw [za9 hx hy]; simp only [h, decide_true, decide_false, not_false_eq_true, not_true_eq_false]
theorem zf9 {t u : TypeId} {k : IntKind} {x y : Operand} {a b : Int} (hx : ev x = some (.int k a)) (hy : ev y = some (.int k b)) (h : a ≠ b) :
  aop P H nx ev ⟨dst, .binOp .neq t x y u, type, pos, after, guard⟩ = some (.bool true, .none) := by rw [za6 hx hy]; simp [h]
theorem zfa {t u : TypeId} {k : IntKind} {x y : Operand} {a b : Int} (hx : ev x = some (.int k a)) (hy : ev y = some (.int k b)) (h : a = b) :
  aop P H nx ev ⟨dst, .binOp .neq t x y u, type, pos, after, guard⟩ = some (.bool false, .none) := by rw [za6 hx hy]; simp [h]
def bs (s : ByteArray) : List Int := s.data.toList.map fun b => (b.toNat : Int)
theorem zbE {t u : TypeId} {x y : Operand} {a b : Array Value} {r : Bool} (hx : ev x = some (.agg a)) (hy : ev y = some (.agg b)) (hg : P.eqGuardType P.depth t = false) (he : aEq P H 60 t (.agg a) (.agg b) = some r) :
  aop P H nx ev ⟨dst, .binOp .eql t x y u, type, pos, after, guard⟩ = some (.bool r, .none) := by simp [aop, hx, hy, z6S, zfR, hg, he]
theorem z4a {t u : TypeId} {x y : Operand} {a b : Array Value} {r : Bool} (hx : ev x = some (.agg a)) (hy : ev y = some (.agg b)) (hg : P.eqGuardType P.depth t = false) (he : aEq P H 60 t (.agg a) (.agg b) = some r) :
  aop P H nx ev ⟨dst, .binOp .neq t x y u, type, pos, after, guard⟩ = some (.bool !r, .none) := by simp [aop, hx, hy, z6S, zfR, hg, he]
theorem z0f {t : TypeId} {x : Operand} {v : Value} (hx : ev x = some v) : aop P H nx ev ⟨dst, .box t x, type, pos, after, guard⟩ = some (.pointer (some ⟨nx, 0, none⟩), .new (.cells v.cells.toList 0 none false (some t))) := by simp [aop, hx]
end
end Go.Am
namespace Go.Am
open Go.RowKit
section
variable {P : Program} {W0 : World} {ops : Array Oper} {dst : Option Tmp} {op : Op} {guard : Option (Nat × Bool)} {ev : Operand → Option Value} {type : TypeId} {pos : String} {after : Array Edge} {l : List Oper} {tm : Nat → Value} {n nx : Nat} {H : Heap} {v w : Value} {QQ : ASt → Prop} {d : Tmp} {t u s e : TypeId} {x y z : Operand} {k k' : IntKind} {a b : Int}
theorem zd (hop : aop P H nx (ASt.ev ⟨tm, n, H, nx⟩) ⟨some d, op, type, pos, after, none⟩ = some (v, .none)) (h : OpsL P W0 ops l ⟨zk tm (some d) v, n, H, nx⟩ QQ) (hd : d < n := by first | decide | (refine Nat.lt_of_lt_of_eq ?_ (Eq.symm ‹_›); decide)) : OpsL P W0 ops (⟨some d, op, type, pos, after, none⟩ :: l) ⟨tm, n, H, nx⟩ QQ := z1j hd hop h
theorem omv (hx : ev x = some v := by simp only [ASt.ev, zk, ↓reduceIte, Nat.reduceEqDiff, zL, *]; first | done | rfl) : aop P H nx ev ⟨dst, .move x, type, pos, after, guard⟩ = some (v, .none) := zfb hx
theorem z0E (hx : ev x = some v := by simp only [ASt.ev, zk, ↓reduceIte, Nat.reduceEqDiff, zL, *]; first | done | rfl) : aop P H nx ev ⟨dst, .assign x, type, pos, after, guard⟩ = some (v, .none) := zcw hx
theorem zev (hx : ev x = some (.int k a) := by simp only [ASt.ev, zk, ↓reduceIte, Nat.reduceEqDiff, zL, *]; first | done | rfl) (hy : ev y = some (.int k b) := by simp only [ASt.ev, zk, ↓reduceIte, Nat.reduceEqDiff, zL, *]; first | done | rfl) : aop P H nx ev ⟨dst, .binOp .lss t x y u, type, pos, after, guard⟩ = some ((.bool (decide (a < b))), .none) := za7 hx hy
theorem z1m (h : OpsL P W0 ops l ⟨zk tm (some d) (.bool true), n, H, nx⟩ QQ) (hd : d < n := by first | decide | (refine Nat.lt_of_lt_of_eq ?_ (Eq.symm ‹_›); decide)) (hx : ASt.ev ⟨tm, n, H, nx⟩ x = some (.int k a) := by simp only [ASt.ev, zk, ↓reduceIte, Nat.reduceEqDiff, zL, *]; first | done | rfl) (hy : ASt.ev ⟨tm, n, H, nx⟩ y = some (.int k b) := by simp only [ASt.ev, zk, ↓reduceIte, Nat.reduceEqDiff, zL, *]; first | done | rfl) (c : a < b := by omega) : OpsL P W0 ops (⟨some d, .binOp .lss t x y u, type, pos, after, none⟩ :: l) ⟨tm, n, H, nx⟩ QQ := z1j hd (zfc hx hy c) h
theorem z1y (h : OpsL P W0 ops l ⟨zk tm (some d) (.bool false), n, H, nx⟩ QQ) (hd : d < n := by first | decide | (refine Nat.lt_of_lt_of_eq ?_ (Eq.symm ‹_›); decide)) (hx : ASt.ev ⟨tm, n, H, nx⟩ x = some (.int k a) := by simp only [ASt.ev, zk, ↓reduceIte, Nat.reduceEqDiff, zL, *]; first | done | rfl) (hy : ASt.ev ⟨tm, n, H, nx⟩ y = some (.int k b) := by simp only [ASt.ev, zk, ↓reduceIte, Nat.reduceEqDiff, zL, *]; first | done | rfl) (c : ¬ (a < b) := by omega) : OpsL P W0 ops (⟨some d, .binOp .lss t x y u, type, pos, after, none⟩ :: l) ⟨tm, n, H, nx⟩ QQ := z1j hd (zfd hx hy c) h
theorem zgP (hx : ev x = some (.int k a) := by simp only [ASt.ev, zk, ↓reduceIte, Nat.reduceEqDiff, zL, *]; first | done | rfl) (hy : ev y = some (.int k b) := by simp only [ASt.ev, zk, ↓reduceIte, Nat.reduceEqDiff, zL, *]; first | done | rfl) : aop P H nx ev ⟨dst, .binOp .leq t x y u, type, pos, after, guard⟩ = some ((.bool (decide (a ≤ b))), .none) := zgE hx hy
theorem ziU (hx : ev x = some (.int k a) := by simp only [ASt.ev, zk, ↓reduceIte, Nat.reduceEqDiff, zL, *]; first | done | rfl) (hy : ev y = some (.int k b) := by simp only [ASt.ev, zk, ↓reduceIte, Nat.reduceEqDiff, zL, *]; first | done | rfl) : aop P H nx ev ⟨dst, .binOp .gtr t x y u, type, pos, after, guard⟩ = some ((.bool (decide (b < a))), .none) := za8 hx hy
theorem z2G (h : OpsL P W0 ops l ⟨zk tm (some d) (.bool true), n, H, nx⟩ QQ) (hd : d < n := by first | decide | (refine Nat.lt_of_lt_of_eq ?_ (Eq.symm ‹_›); decide)) (hx : ASt.ev ⟨tm, n, H, nx⟩ x = some (.int k a) := by simp only [ASt.ev, zk, ↓reduceIte, Nat.reduceEqDiff, zL, *]; first | done | rfl) (hy : ASt.ev ⟨tm, n, H, nx⟩ y = some (.int k b) := by simp only [ASt.ev, zk, ↓reduceIte, Nat.reduceEqDiff, zL, *]; first | done | rfl) (c : b < a := by omega) : OpsL P W0 ops (⟨some d, .binOp .gtr t x y u, type, pos, after, none⟩ :: l) ⟨tm, n, H, nx⟩ QQ := z1j hd (zff hx hy c) h
theorem z2e (h : OpsL P W0 ops l ⟨zk tm (some d) (.bool false), n, H, nx⟩ QQ) (hd : d < n := by first | decide | (refine Nat.lt_of_lt_of_eq ?_ (Eq.symm ‹_›); decide)) (hx : ASt.ev ⟨tm, n, H, nx⟩ x = some (.int k a) := by simp only [ASt.ev, zk, ↓reduceIte, Nat.reduceEqDiff, zL, *]; first | done | rfl) (hy : ASt.ev ⟨tm, n, H, nx⟩ y = some (.int k b) := by simp only [ASt.ev, zk, ↓reduceIte, Nat.reduceEqDiff, zL, *]; first | done | rfl) (c : ¬ (b < a) := by omega) : OpsL P W0 ops (⟨some d, .binOp .gtr t x y u, type, pos, after, none⟩ :: l) ⟨tm, n, H, nx⟩ QQ := z1j hd (zfg hx hy c) h
theorem z3X (h : OpsL P W0 ops l ⟨zk tm (some d) (.bool true), n, H, nx⟩ QQ) (hd : d < n := by first | decide | (refine Nat.lt_of_lt_of_eq ?_ (Eq.symm ‹_›); decide)) (hx : ASt.ev ⟨tm, n, H, nx⟩ x = some (.int k a) := by simp only [ASt.ev, zk, ↓reduceIte, Nat.reduceEqDiff, zL, *]; first | done | rfl) (hy : ASt.ev ⟨tm, n, H, nx⟩ y = some (.int k b) := by simp only [ASt.ev, zk, ↓reduceIte, Nat.reduceEqDiff, zL, *]; first | done | rfl) (c : b ≤ a := by omega) : OpsL P W0 ops (⟨some d, .binOp .geq t x y u, type, pos, after, none⟩ :: l) ⟨tm, n, H, nx⟩ QQ := z1j hd (zfh hx hy c) h
theorem z3Y (h : OpsL P W0 ops l ⟨zk tm (some d) (.bool false), n, H, nx⟩ QQ) (hd : d < n := by first | decide | (refine Nat.lt_of_lt_of_eq ?_ (Eq.symm ‹_›); decide)) (hx : ASt.ev ⟨tm, n, H, nx⟩ x = some (.int k a) := by simp only [ASt.ev, zk, ↓reduceIte, Nat.reduceEqDiff, zL, *]; first | done | rfl) (hy : ASt.ev ⟨tm, n, H, nx⟩ y = some (.int k b) := by simp only [ASt.ev, zk, ↓reduceIte, Nat.reduceEqDiff, zL, *]; first | done | rfl) (c : ¬ (b ≤ a) := by omega) : OpsL P W0 ops (⟨some d, .binOp .geq t x y u, type, pos, after, none⟩ :: l) ⟨tm, n, H, nx⟩ QQ := z1j hd (zfi hx hy c) h
theorem zfP (hx : ev x = some (.int k a) := by simp only [ASt.ev, zk, ↓reduceIte, Nat.reduceEqDiff, zL, *]; first | done | rfl) (hy : ev y = some (.int k b) := by simp only [ASt.ev, zk, ↓reduceIte, Nat.reduceEqDiff, zL, *]; first | done | rfl) : aop P H nx ev ⟨dst, .binOp .eql t x y u, type, pos, after, guard⟩ = some ((.bool (decide (a = b))), .none) := za9 hx hy
theorem zZ (h : OpsL P W0 ops l ⟨zk tm (some d) (.bool true), n, H, nx⟩ QQ) (hd : d < n := by first | decide | (refine Nat.lt_of_lt_of_eq ?_ (Eq.symm ‹_›); decide)) (hx : ASt.ev ⟨tm, n, H, nx⟩ x = some (.int k a) := by simp only [ASt.ev, zk, ↓reduceIte, Nat.reduceEqDiff, zL, *]; first | done | rfl) (hy : ASt.ev ⟨tm, n, H, nx⟩ y = some (.int k b) := by simp only [ASt.ev, zk, ↓reduceIte, Nat.reduceEqDiff, zL, *]; first | done | rfl) (c : a = b := by omega) : OpsL P W0 ops (⟨some d, .binOp .eql t x y u, type, pos, after, none⟩ :: l) ⟨tm, n, H, nx⟩ QQ := z1j hd (z3r hx hy c) h
theorem z00 (h : OpsL P W0 ops l ⟨zk tm (some d) (.bool false), n, H, nx⟩ QQ) (hd : d < n := by first | decide | (refine Nat.lt_of_lt_of_eq ?_ (Eq.symm ‹_›); decide)) (hx : ASt.ev ⟨tm, n, H, nx⟩ x = some (.int k a) := by simp only [ASt.ev, zk, ↓reduceIte, Nat.reduceEqDiff, zL, *]; first | done | rfl) (hy : ASt.ev ⟨tm, n, H, nx⟩ y = some (.int k b) := by simp only [ASt.ev, zk, ↓reduceIte, Nat.reduceEqDiff, zL, *]; first | done | rfl) (c : ¬ (a = b) := by omega) : OpsL P W0 ops (⟨some d, .binOp .eql t x y u, type, pos, after, none⟩ :: l) ⟨tm, n, H, nx⟩ QQ := z1j hd (zfj hx hy c) h
theorem zi8 (hx : ev x = some (.int k a) := by simp only [ASt.ev, zk, ↓reduceIte, Nat.reduceEqDiff, zL, *]; first | done | rfl) (hy : ev y = some (.int k b) := by simp only [ASt.ev, zk, ↓reduceIte, Nat.reduceEqDiff, zL, *]; first | done | rfl) : aop P H nx ev ⟨dst, .binOp .neq t x y u, type, pos, after, guard⟩ = some ((.bool (decide (a ≠ b))), .none) := za6 hx hy
theorem z0z (h : OpsL P W0 ops l ⟨zk tm (some d) (.bool true), n, H, nx⟩ QQ) (hd : d < n := by first | decide | (refine Nat.lt_of_lt_of_eq ?_ (Eq.symm ‹_›); decide)) (hx : ASt.ev ⟨tm, n, H, nx⟩ x = some (.int k a) := by simp only [ASt.ev, zk, ↓reduceIte, Nat.reduceEqDiff, zL, *]; first | done | rfl) (hy : ASt.ev ⟨tm, n, H, nx⟩ y = some (.int k b) := by simp only [ASt.ev, zk, ↓reduceIte, Nat.reduceEqDiff, zL, *]; first | done | rfl) (c : a ≠ b := by omega) : OpsL P W0 ops (⟨some d, .binOp .neq t x y u, type, pos, after, none⟩ :: l) ⟨tm, n, H, nx⟩ QQ := z1j hd (zf9 hx hy c) h
theorem z0A (h : OpsL P W0 ops l ⟨zk tm (some d) (.bool false), n, H, nx⟩ QQ) (hd : d < n := by first | decide | (refine Nat.lt_of_lt_of_eq ?_ (Eq.symm ‹_›); decide)) (hx : ASt.ev ⟨tm, n, H, nx⟩ x = some (.int k a) := by simp only [ASt.ev, zk, ↓reduceIte, Nat.reduceEqDiff, zL, *]; first | done | rfl) (hy : ASt.ev ⟨tm, n, H, nx⟩ y = some (.int k b) := by simp only [ASt.ev, zk, ↓reduceIte, Nat.reduceEqDiff, zL, *]; first | done | rfl) (c : a = b := by omega) : OpsL P W0 ops (⟨some d, .binOp .neq t x y u, type, pos, after, none⟩ :: l) ⟨tm, n, H, nx⟩ QQ := z1j hd (zfa hx hy c) h
theorem z8y {q : Bool} (hx : ev x = some (.bool q) := by simp only [ASt.ev, zk, ↓reduceIte, Nat.reduceEqDiff, zL, *]; first | done | rfl) : aop P H nx ev ⟨dst, .unOp .not t x, type, pos, after, guard⟩ = some ((.bool (!q)), .none) := zgC hx
theorem z6P (hx : ev x = some (.int .i64 a) := by simp only [ASt.ev, zk, ↓reduceIte, Nat.reduceEqDiff, zL, *]; first | done | rfl) (hy : ev y = some (.int .i64 b) := by simp only [ASt.ev, zk, ↓reduceIte, Nat.reduceEqDiff, zL, *]; first | done | rfl) (c : -9223372036854775808 ≤ a + b ∧ a + b ≤ 9223372036854775807 := by omega) : aop P H nx ev ⟨dst, .binOp .add t x y u, type, pos, after, guard⟩ = some ((.int .i64 (a + b)), .none) := zgG hx hy c
theorem z7C (hx : ev x = some (.int .i64 a) := by simp only [ASt.ev, zk, ↓reduceIte, Nat.reduceEqDiff, zL, *]; first | done | rfl) (hy : ev y = some (.int .i64 b) := by simp only [ASt.ev, zk, ↓reduceIte, Nat.reduceEqDiff, zL, *]; first | done | rfl) (c : -9223372036854775808 ≤ a - b ∧ a - b ≤ 9223372036854775807 := by omega) : aop P H nx ev ⟨dst, .binOp .sub t x y u, type, pos, after, guard⟩ = some ((.int .i64 (a - b)), .none) := zgB hx hy c
theorem zgY (hx : ev x = some (.int .i64 a) := by simp only [ASt.ev, zk, ↓reduceIte, Nat.reduceEqDiff, zL, *]; first | done | rfl) (hy : ev y = some (.int .i64 b) := by simp only [ASt.ev, zk, ↓reduceIte, Nat.reduceEqDiff, zL, *]; first | done | rfl) (c : -9223372036854775808 ≤ a * b ∧ a * b ≤ 9223372036854775807 := by omega) : aop P H nx ev ⟨dst, .binOp .mul t x y u, type, pos, after, guard⟩ = some ((.int .i64 (a * b)), .none) := zgD hx hy c
theorem z2i {m c : Nat} {p : Option Addr} (hx : ev x = some (.slice p m c) := by simp only [ASt.ev, zk, ↓reduceIte, Nat.reduceEqDiff, zL, *]; first | done | rfl) (hu : P.underlying t = some (.slice e) := by exact rfl) : aop P H nx ev ⟨dst, .call ⟨.builtin .len, #[x], #[t]⟩, type, pos, after, guard⟩ = some ((.int .i64 (m : Int)), .none) := zgF hx hu
theorem z45 {m c sz : Nat} {p : Addr} (hx : ev x = some (.slice (some p) m c) := by simp only [ASt.ev, zk, ↓reduceIte, Nat.reduceEqDiff, zL, *]; first | done | rfl) (hy : ev y = some (.int k a) := by simp only [ASt.ev, zk, ↓reduceIte, Nat.reduceEqDiff, zL, *]; first | done | rfl) (hu : P.underlying t = some (.slice e) := by exact rfl) (hs : z1F P e = some sz := by exact rfl) (h0 : 0 ≤ a := by omega) (h1 : a < m := by omega) : aop P H nx ev ⟨dst, .indexAddr t x y, type, pos, after, guard⟩ = some ((.pointer (some ⟨p.block, p.off + a.toNat * sz, p.spot⟩)), .none) := z8h hx hy hu hs h0 h1
theorem ofa {f : Nat} {p : Addr} (hx : ev x = some (.pointer (some p)) := by simp only [ASt.ev, zk, ↓reduceIte, Nat.reduceEqDiff, zL, *]; first | done | rfl) (hv : z3g P s (.pointer (some p)) f = some v := by exact rfl) : aop P H nx ev ⟨dst, .fieldAddr s x f, type, pos, after, guard⟩ = some (v, .none) := z8i hx hv
theorem old {p : Addr} {dd : TypeDesc} (hx : ev x = some (.pointer (some p)) := by simp only [ASt.ev, zk, ↓reduceIte, Nat.reduceEqDiff, zL, *]; first | done | rfl) (hu : P.underlying t = some dd := by exact rfl) (hg : z2y dd = false := by rfl) (hc : zj H p v := by assumption) : aop P H nx ev ⟨dst, .load t x, type, pos, after, guard⟩ = some (v, .none) := zp hx hu hg hc
theorem z2R (hx : ev x = some (.bool true) := by simp only [ASt.ev, zk, ↓reduceIte, reduceIte, Nat.reduceEqDiff, decide_true, decide_false, not_true_eq_false, not_false_eq_true, Bool.not_true, Bool.not_false, *]; first | done | rfl) (hy : ev y = some v := by simp only [ASt.ev, zk, ↓reduceIte, Nat.reduceEqDiff, zL, *]; first | done | rfl) : aop P H nx ev ⟨dst, .pick x y z, type, pos, after, guard⟩ = some (v, .none) := ze7 hx hy
theorem z3i (hx : ev x = some (.bool false) := by simp only [ASt.ev, zk, ↓reduceIte, reduceIte, Nat.reduceEqDiff, decide_true, decide_false, not_true_eq_false, not_false_eq_true, Bool.not_true, Bool.not_false, *]; first | done | rfl) (hy : ev z = some v := by simp only [ASt.ev, zk, ↓reduceIte, Nat.reduceEqDiff, zL, *]; first | done | rfl) : aop P H nx ev ⟨dst, .pick x y z, type, pos, after, guard⟩ = some (v, .none) := ze8 hx hy
theorem zz {j : Nat} {want : Bool} {d' : Tmp} (h : OpsL P W0 ops (⟨dst, op, type, pos, after, none⟩ :: l) ⟨tm, n, H, nx⟩ QQ) (hj : (ops[j]?).bind (·.dst) = some d' := by exact rfl) (hb : tm d' = .bool want := by simp only [ASt.ev, zk, ↓reduceIte, reduceIte, Nat.reduceEqDiff, decide_true, decide_false, not_true_eq_false, not_false_eq_true, Bool.not_true, Bool.not_false, *]; first | done | rfl) : OpsL P W0 ops (⟨dst, op, type, pos, after, some (j, want)⟩ :: l) ⟨tm, n, H, nx⟩ QQ := z0J hj hb h
theorem zQ {j : Nat} {want : Bool} {d' : Tmp} (h : OpsL P W0 ops l ⟨zk tm (some d) undef, n, H, nx⟩ QQ) (hj : (ops[j]?).bind (·.dst) = some d' := by exact rfl) (hb : tm d' = .bool (!want) := by simp only [ASt.ev, zk, ↓reduceIte, reduceIte, Nat.reduceEqDiff, decide_true, decide_false, not_true_eq_false, not_false_eq_true, Bool.not_true, Bool.not_false, *]; first | done | rfl) (hd : d < n := by first | decide | (refine Nat.lt_of_lt_of_eq ?_ (Eq.symm ‹_›); decide)) : OpsL P W0 ops (⟨some d, op, type, pos, after, some (j, want)⟩ :: l) ⟨tm, n, H, nx⟩ QQ := z5K hj hb hd h
theorem z3u {j : Nat} {want : Bool} {d' : Tmp} (h : OpsL P W0 ops l ⟨zk tm (some d) undef, n, H, nx⟩ QQ) (hj : (ops[j]?).bind (·.dst) = some d' := by exact rfl) (hb : tm d' = undef := by simp only [ASt.ev, zk, ↓reduceIte, reduceIte, Nat.reduceEqDiff, decide_true, decide_false, not_true_eq_false, not_false_eq_true, Bool.not_true, Bool.not_false, *]; first | done | rfl) (hd : d < n := by first | decide | (refine Nat.lt_of_lt_of_eq ?_ (Eq.symm ‹_›); decide)) : OpsL P W0 ops (⟨some d, op, type, pos, after, some (j, want)⟩ :: l) ⟨tm, n, H, nx⟩ QQ := z8q hj hb hd h
theorem z6h {j : Nat} {d' : Tmp} {p : Prop} [Decidable p] (h1 : p → OpsL P W0 ops (⟨some d, op, type, pos, after, none⟩ :: l) ⟨tm, n, H, nx⟩ QQ) (h2 : ¬p → OpsL P W0 ops l ⟨zk tm (some d) undef, n, H, nx⟩ QQ) (hj : (ops[j]?).bind (·.dst) = some d' := by exact rfl) (hb : tm d' = .bool (decide p) := by simp only [ASt.ev, zk, ↓reduceIte, Nat.reduceEqDiff, zL, *]; first | done | rfl) (hd : d < n := by first | decide | (refine Nat.lt_of_lt_of_eq ?_ (Eq.symm ‹_›); decide)) : OpsL P W0 ops (⟨some d, op, type, pos, after, some (j, true)⟩ :: l) ⟨tm, n, H, nx⟩ QQ := zaQ hj hb hd h1 h2
variable {f : FuncId} {R : Value → Nat → Heap → Prop} {ts : Array TypeId} {va vb vc ve : Value}
theorem zgI (hd : d < n := by first | decide | (refine Nat.lt_of_lt_of_eq ?_ (Eq.symm ‹_›); decide))  (hf : z0U P f) (hc : ACalls P W0 f [] nx H R) (h : ∀ v nx' H', R v nx' H' → OpsL P W0 ops l ⟨zk tm (some d) v, n, H', nx'⟩ QQ) : OpsL P W0 ops (⟨some d, .call ⟨.value (.func f), #[], ts⟩, type, pos, after, none⟩ :: l) ⟨tm, n, H, nx⟩ QQ := zcF hd  hf hc h
theorem z0c (hd : d < n := by first | decide | (refine Nat.lt_of_lt_of_eq ?_ (Eq.symm ‹_›); decide)) (hx : ASt.ev ⟨tm, n, H, nx⟩ x = some va := by simp only [ASt.ev, zk, ↓reduceIte, Nat.reduceEqDiff, zL, *]; first | done | rfl) (hf : z0U P f) (hc : ACalls P W0 f [va] nx H R) (h : ∀ v nx' H', R v nx' H' → OpsL P W0 ops l ⟨zk tm (some d) v, n, H', nx'⟩ QQ) : OpsL P W0 ops (⟨some d, .call ⟨.value (.func f), #[x], ts⟩, type, pos, after, none⟩ :: l) ⟨tm, n, H, nx⟩ QQ := zcE hd hx hf hc h
theorem OpsL.c2 (hd : d < n := by first | decide | (refine Nat.lt_of_lt_of_eq ?_ (Eq.symm ‹_›); decide)) (hx : ASt.ev ⟨tm, n, H, nx⟩ x = some va := by simp only [ASt.ev, zk, ↓reduceIte, Nat.reduceEqDiff, zL, *]; first | done | rfl) (hy : ASt.ev ⟨tm, n, H, nx⟩ y = some vb := by simp only [ASt.ev, zk, ↓reduceIte, Nat.reduceEqDiff, zL, *]; first | done | rfl) (hf : z0U P f) (hc : ACalls P W0 f [va, vb] nx H R) (h : ∀ v nx' H', R v nx' H' → OpsL P W0 ops l ⟨zk tm (some d) v, n, H', nx'⟩ QQ) : OpsL P W0 ops (⟨some d, .call ⟨.value (.func f), #[x, y], ts⟩, type, pos, after, none⟩ :: l) ⟨tm, n, H, nx⟩ QQ := zcD hd hx hy hf hc h
theorem z3o (hd : d < n := by first | decide | (refine Nat.lt_of_lt_of_eq ?_ (Eq.symm ‹_›); decide)) (hx : ASt.ev ⟨tm, n, H, nx⟩ x = some va := by simp only [ASt.ev, zk, ↓reduceIte, Nat.reduceEqDiff, zL, *]; first | done | rfl) (hy : ASt.ev ⟨tm, n, H, nx⟩ y = some vb := by simp only [ASt.ev, zk, ↓reduceIte, Nat.reduceEqDiff, zL, *]; first | done | rfl) (hz : ASt.ev ⟨tm, n, H, nx⟩ z = some vc := by simp only [ASt.ev, zk, ↓reduceIte, Nat.reduceEqDiff, zL, *]; first | done | rfl) (hf : z0U P f) (hc : ACalls P W0 f [va, vb, vc] nx H R) (h : ∀ v nx' H', R v nx' H' → OpsL P W0 ops l ⟨zk tm (some d) v, n, H', nx'⟩ QQ) : OpsL P W0 ops (⟨some d, .call ⟨.value (.func f), #[x, y, z], ts⟩, type, pos, after, none⟩ :: l) ⟨tm, n, H, nx⟩ QQ := zcC hd hx hy hz hf hc h
theorem zcB {x y z w : Operand} (hd : d < n) (hx : ASt.ev ⟨tm, n, H, nx⟩ x = some va) (hy : ASt.ev ⟨tm, n, H, nx⟩ y = some vb) (hz : ASt.ev ⟨tm, n, H, nx⟩ z = some vc) (hw : ASt.ev ⟨tm, n, H, nx⟩ w = some ve) (hf : z0U P f) (hcall : ACalls P W0 f [va, vb, vc, ve] nx H R) (h : ∀ v nx' H', R v nx' H' → OpsL P W0 ops l ⟨zk tm (some d) v, n, H', nx'⟩ QQ) :
    OpsL P W0 ops (⟨some d, .call ⟨.value (.func f), #[x, y, z, w], ts⟩, type, pos, after, none⟩ :: l) ⟨tm, n, H, nx⟩ QQ := by
  refine OpsL.call R (by simp [z1f, hd]) rfl ?_ hf hcall h;have hf' : ASt.ev ⟨tm, n, H, nx⟩ (.func f) = some (.func (.func f) #[] #[]) := rfl;simp [z0W, hf', z0C, hx, hy, hz, hw]
theorem zdE {x y z w : Operand} (hd : d < n := by first | decide | (refine Nat.lt_of_lt_of_eq ?_ (Eq.symm ‹_›); decide)) (hx : ASt.ev ⟨tm, n, H, nx⟩ x = some va := by simp only [ASt.ev, zk, ↓reduceIte, Nat.reduceEqDiff, zL, *]; first | done | rfl) (hy : ASt.ev ⟨tm, n, H, nx⟩ y = some vb := by simp only [ASt.ev, zk, ↓reduceIte, Nat.reduceEqDiff, zL, *]; first | done | rfl) (hz : ASt.ev ⟨tm, n, H, nx⟩ z = some vc := by simp only [ASt.ev, zk, ↓reduceIte, Nat.reduceEqDiff, zL, *]; first | done | rfl) (hw : ASt.ev ⟨tm, n, H, nx⟩ w = some ve := by simp only [ASt.ev, zk, ↓reduceIte, Nat.reduceEqDiff, zL, *]; first | done | rfl) (hf : z0U P f) (hc : ACalls P W0 f [va, vb, vc, ve] nx H R) (h : ∀ v nx' H', R v nx' H' → OpsL P W0 ops l ⟨zk tm (some d) v, n, H', nx'⟩ QQ) : OpsL P W0 ops (⟨some d, .call ⟨.value (.func f), #[x, y, z, w], ts⟩, type, pos, after, none⟩ :: l) ⟨tm, n, H, nx⟩ QQ := zcB hd hx hy hz hw hf hc h
end
section
variable {P : Program} {W0 : World} {st : ASt} {Q : AExit → ASt → Prop} {c : Operand} {x y : Code}
theorem z3s {p : Prop} [Decidable p] (h1 : p → Trip P W0 x st Q) (h2 : ¬p → Trip P W0 y st Q) (hc : st.ev c = some (.bool (decide p)) := by simp only [ASt.ev, zk, ↓reduceIte, Nat.reduceEqDiff, zL, *]; first | done | rfl) : Trip P W0 (.cond c x y) st Q := zfl hc h1 h2
theorem z3t (h : Trip P W0 x st Q) (hc : st.ev c = some (.bool true) := by simp only [ASt.ev, zk, ↓reduceIte, reduceIte, Nat.reduceEqDiff, decide_true, decide_false, not_true_eq_false, not_false_eq_true, Bool.not_true, Bool.not_false, *]; first | done | rfl) : Trip P W0 (.cond c x y) st Q := z9d hc (fun _ => h) (fun h => absurd h (by decide))
theorem z0a (h : Trip P W0 y st Q) (hc : st.ev c = some (.bool false) := by simp only [ASt.ev, zk, ↓reduceIte, reduceIte, Nat.reduceEqDiff, decide_true, decide_false, not_true_eq_false, not_false_eq_true, Bool.not_true, Bool.not_false, *]; first | done | rfl) : Trip P W0 (.cond c x y) st Q := z9d hc (fun h => absurd h (by decide)) (fun _ => h)
end
theorem zep {A : Prop} (h : A := by simp only [z0h, ASt.ev, zk, ↓reduceIte, reduceIte, Option.some.injEq, Nat.reduceEqDiff, z8M, zL, *]) : A := h
theorem zeq {A : Prop} (h : A := by simp only [z0h, ASt.ev, zk, ↓reduceIte, reduceIte, Option.some.injEq, Nat.reduceEqDiff, *]) : A := h
theorem zer {A : Prop} (h : A := by simp only [z2l, ASt.ev, zk, ↓reduceIte, reduceIte, Option.some.injEq, Nat.reduceEqDiff, Option.map_some, *]) : A := h
theorem evd {A : Prop} (h : A := by simp only [ASt.ev, zk, ↓reduceIte, Nat.reduceEqDiff, *]; done) : A := h
theorem evr {A : Prop} (h : A := by simp only [ASt.ev, zk, ↓reduceIte, Nat.reduceEqDiff, *]; rfl) : A := h
theorem stp {A : Prop} (h : A := by simp [zk, *]) : A := h
theorem krf {A : Prop} (h : A := by kernel_rfl) : A := h
theorem zg0 {G K : Prop} (k : K) (f : PLift K → G := by
 intro k;refine OpsR.one rfl rfl rfl (by kernel_rfl) ?_
 repeat (first | (refine OpsL.nil ?_; (skip)) | refine zQ ?_)
 refine OpsR.one rfl rfl rfl (by kernel_rfl) ?_
 repeat (first | (refine OpsL.nil ?_; (skip)) | refine zQ ?_)
 refine OpsR.one rfl rfl rfl (by kernel_rfl) ?_
 repeat (first | (refine OpsL.nil ?_; (skip)) | refine zQ ?_)
 exact k.down) : G := f ⟨k⟩
theorem zg1 {G K : Prop} (k : K) (f : PLift K → G := by
 intro k;refine OpsR.one rfl rfl rfl (by kernel_rfl) ?_;exact k.down) : G := f ⟨k⟩
theorem zg2 {G K : Prop} (k : K) (f : PLift K → G := by
 intro k
 repeat (first | refine zd (by exact omv) ?_ | (refine OpsL.nil ?_; (skip)))
 exact k.down) : G := f ⟨k⟩
theorem zg3 {G K : Prop} (k : K) (f : PLift K → G := by
 intro k;refine z0a ?_
 repeat (first | (refine zd (by first | exact omv | exact z0E | exact z6P) ?_) | refine zm ?_ | (refine Trip.skip ?_; ((repeat (refine zN ?_)); change Trip _ _ _ _ _)) | (refine OpsL.nil ?_; (dsimp only)))
 exact k.down) : G := f ⟨k⟩
theorem zg4 {G K : Prop} (k : K) (f : PLift K → G := by
 intro k;refine zg1 ?_
 repeat (first | refine zd (by exact ofa) ?_ | (refine OpsL.nil ?_; (dsimp only)))
 exact k.down) : G := f ⟨k⟩
theorem zg5 {G K : Prop} (k : K) (f : PLift K → G := by
 intro k;refine z05 (by kernel_rfl) (zt rfl rfl ?_);exact k.down) : G := f ⟨k⟩
theorem zg6 {G K : Prop} (k : K) (f : PLift K → G := by
 intro k;refine zg1 ?_
 repeat (first | refine zd (by exact ofa) ?_ | (refine OpsL.nil ?_; (dsimp only)) | refine zz ?_)
 refine zg1 ?_
 repeat (first | refine zd (by exact old) ?_ | (refine OpsL.nil ?_; (skip)) | refine zz ?_)
 refine zg1 ?_;exact k.down) : G := f ⟨k⟩
theorem zg7 {G K : Prop} (k : K) (f : PLift K → G := by
 intro k;refine OpsK.one rfl (by kernel_rfl) ?_
 repeat (first | (refine OpsL.nil ?_; (skip)) | refine zQ ?_)
 refine OpsK.one rfl (by kernel_rfl) ?_
 repeat (first | (refine OpsL.nil ?_; (skip)) | refine zQ ?_)
 refine OpsK.one rfl (by kernel_rfl) ?_
 repeat (first | (refine OpsL.nil ?_; (skip)) | refine zQ ?_)
 exact k.down) : G := f ⟨k⟩
theorem zg8 {G K : Prop} (k : K) (f : PLift K → G := by
 intro k
 repeat (first | (refine zd (by first | exact omv | exact z0E | exact z6P) ?_) | refine zm ?_ | (refine OpsL.nil ?_; ((repeat (refine zN ?_)); first | (change Trip _ _ _ _ _) | (dsimp only))))
 exact k.down) : G := f ⟨k⟩
theorem zg9 {G K : Prop} (k : K) (f : PLift K → G := by
 intro k;refine OpsR.nil ?_
 ((repeat (refine zN ?_)); change Trip _ _ _ _ _)
 repeat (first | (refine zd (by first | exact omv | exact z0E | exact z6P) ?_) | refine zm ?_ | (refine OpsL.nil ?_; (dsimp only)))
 exact k.down) : G := f ⟨k⟩
theorem z9K {G K : Prop} (k : K) (f : PLift K → G := by
 intro k
 repeat (refine OpsL.nil ?_; (change Trip _ _ _ _ _))
 exact k.down) : G := f ⟨k⟩
theorem zaV {G K : Prop} (k : K) (f : PLift K → G := by
 intro k
 repeat (first | refine Trip.seq ?_ | refine zm ?_)
 refine z1y ?_
 repeat (first | refine Trip.seq ?_ | (refine OpsL.nil ?_; (change Trip _ _ _ _ _)))
 refine z0a ?_;exact k.down) : G := f ⟨k⟩
theorem z3E {G K : Prop} (k : K) (f : PLift K → G := by
 intro k;refine OpsK.one rfl (by kernel_rfl) ?_;exact k.down) : G := f ⟨k⟩
theorem z7B {G K : Prop} (k : K) (f : PLift K → G := by
 intro k
 repeat (first | refine zd (by exact z0E) ?_ | refine Trip.seq ?_ | refine zm ?_ | refine Trip.block ?_ | (refine OpsL.nil ?_; (change Trip _ _ _ _ _)))
 exact k.down) : G := f ⟨k⟩
theorem zgX {G K : Prop} (k : K) (f : PLift K → G := by
 intro k
 repeat (first | refine Trip.seq ?_ | refine zm ?_)
 refine z1m ?_
 repeat (first | refine Trip.seq ?_ | (refine OpsL.nil ?_; (change Trip _ _ _ _ _)))
 refine z3t ?_;exact k.down) : G := f ⟨k⟩
theorem zek {G K : Prop} (k : K) (f : PLift K → G := by
 intro k
 repeat (first | refine zd (by exact z45) ?_ | (refine OpsL.nil ?_; (dsimp only)))
 exact k.down) : G := f ⟨k⟩
theorem z5c {G K : Prop} (k : K) (f : PLift K → G := by
 intro k
 repeat (first | (refine zd (by first | exact omv | exact z0E) ?_) | refine Trip.seq ?_ | refine zm ?_ | (refine OpsL.nil ?_; (change Trip _ _ _ _ _)))
 exact k.down) : G := f ⟨k⟩
theorem z9P {G K : Prop} (k : K) (f : PLift K → G := by
 intro k
 repeat (first | (refine zd (by first | exact omv | exact z0E) ?_) | refine Trip.seq ?_ | refine zm ?_ | (refine Trip.exit ?_; ((repeat (refine z0e ?_)); change Trip _ _ _ _ _)) | (refine Trip.ret ?_; (dsimp only)) | (refine OpsL.nil ?_; (change Trip _ _ _ _ _)))
 exact k.down) : G := f ⟨k⟩
theorem z79 {G K : Prop} (k : K) (f : PLift K → G := by
 intro k
 repeat (first | refine zd (by exact omv) ?_ | (refine OpsL.nil ?_; (skip)) | refine zz ?_)
 exact k.down) : G := f ⟨k⟩
theorem z9J {G K : Prop} (k : K) (f : PLift K → G := by
 intro k
 repeat (first | (refine zd (by first | exact omv | exact ofa | exact old | exact z2i) ?_) | refine Trip.seq ?_ | refine zm ?_)
 exact k.down) : G := f ⟨k⟩
theorem zcN {G K : Prop} (k : K) (f : PLift K → G := by
 intro k;refine z0a ?_
 repeat (first | (refine zd (by first | exact omv | exact z6P) ?_) | refine zm ?_ | (refine Trip.skip ?_; ((repeat (refine zN ?_)); change Trip _ _ _ _ _)) | (refine OpsL.nil ?_; (dsimp only)))
 exact k.down) : G := f ⟨k⟩
theorem z78 {G K : Prop} (k : K) (f : PLift K → G := by
 intro k;refine z1m ?_;refine z9K ?_;refine z3t ?_
 repeat (first | refine Trip.seq ?_ | refine Trip.block ?_ | (refine Trip.skip ?_; (change Trip _ _ _ _ _)))
 exact k.down) : G := f ⟨k⟩
theorem z9I {G K : Prop} (k : K) (f : PLift K → G := by
 intro k
 repeat (first | (refine zd (by first | exact omv | exact z0E | exact z2i) ?_) | refine Trip.seq ?_ | refine zm ?_ | refine Trip.block ?_ | (refine OpsL.nil ?_; (change Trip _ _ _ _ _)))
 exact k.down) : G := f ⟨k⟩
theorem zeu {G K : Prop} (k : K) (f : PLift K → G := by
 intro k;refine zg1 ?_
 repeat (first | (refine OpsL.nil ?_; (skip)) | refine zQ ?_)
 refine zg1 ?_;exact k.down) : G := f ⟨k⟩
theorem z5f {G K : Prop} (k : K) (f : PLift K → G := by
 intro k
 repeat (first | (refine zd (by first | exact omv | exact z2i) ?_) | refine Trip.seq ?_ | refine zm ?_)
 exact k.down) : G := f ⟨k⟩
theorem z5U {G K : Prop} (k : K) (f : PLift K → G := by
 intro k;refine zg1 ?_;refine zg2 ?_;refine zg1 ?_;exact k.down) : G := f ⟨k⟩
theorem zcW {G K : Prop} (k : K) (f : PLift K → G := by
 intro k;refine z1m ?_;refine z9K ?_;refine z3t ?_
 repeat (first | (refine zd (by first | exact omv | exact z45 | exact ofa | exact old) ?_) | refine Trip.seq ?_ | refine zm ?_ | refine Trip.block ?_ | (refine Trip.skip ?_; (change Trip _ _ _ _ _)))
 exact k.down) : G := f ⟨k⟩
theorem z7A {G K : Prop} (k : K) (f : PLift K → G := by
 intro k
 repeat (first | refine zd (by exact omv) ?_ | refine Trip.seq ?_ | refine zm ?_ | (refine OpsL.nil ?_; (change Trip _ _ _ _ _)))
 exact k.down) : G := f ⟨k⟩
theorem zcV {G K : Prop} (k : K) (f : PLift K → G := by
 intro k;refine z3t ?_
 repeat (first | refine zd (by exact z0E) ?_ | refine Trip.seq ?_ | refine zm ?_ | (refine Trip.ret ?_; ((repeat (refine z0s ?_)); dsimp only)) | (refine OpsL.nil ?_; (change Trip _ _ _ _ _)))
 exact k.down) : G := f ⟨k⟩
theorem zcM {G K : Prop} (k : K) (f : PLift K → G := by
 intro k;refine z1y ?_;refine z9K ?_;refine z0a ?_
 repeat (refine Trip.exit ?_; (dsimp only))
 exact k.down) : G := f ⟨k⟩
theorem ziN {G K : Prop} (k : K) (f : PLift K → G := by
 intro k;refine zg0 ?_;refine zg0 ?_;refine zeu ?_
 repeat (first | (refine OpsL.nil ?_; (skip)) | refine zQ ?_)
 refine zg1 ?_
 repeat (first | refine zd (by exact z2R) ?_ | (refine OpsL.nil ?_; (skip)))
 exact k.down) : G := f ⟨k⟩
theorem zcU {G K : Prop} (k : K) (f : PLift K → G := by
 intro k
 repeat (first | (refine zd (by first | exact omv | exact z0E) ?_) | refine Trip.seq ?_ | refine zm ?_ | (refine Trip.ret ?_; (dsimp only)) | (refine OpsL.nil ?_; (change Trip _ _ _ _ _)))
 exact k.down) : G := f ⟨k⟩
theorem ziM {G K : Prop} (k : K) (f : PLift K → G := by
 intro k;refine zg1 ?_
 repeat (first | refine zd (by exact z45) ?_ | (refine OpsL.nil ?_; (dsimp only)) | refine zz ?_)
 refine zg6 ?_
 repeat (first | refine zd (by exact ofa) ?_ | (refine OpsL.nil ?_; (dsimp only)) | refine zz ?_)
 refine zg1 ?_
 repeat (first | refine zd (by exact old) ?_ | (refine OpsL.nil ?_; (skip)) | refine zz ?_)
 exact k.down) : G := f ⟨k⟩
theorem z8v {G K : Prop} (k : K) (f : PLift K → G := by
 intro k
 repeat (first | refine zd (by exact z0E) ?_ | refine Trip.seq ?_ | refine zm ?_ | (refine OpsL.nil ?_; (change Trip _ _ _ _ _)))
 exact k.down) : G := f ⟨k⟩
theorem z9H {G K : Prop} (k : K) (f : PLift K → G := by
 intro k;refine z3E ?_;refine zg2 ?_;refine z3E ?_;exact k.down) : G := f ⟨k⟩
theorem zcL {G K : Prop} (k : K) (f : PLift K → G := by
 intro k
 repeat (first | refine zd (by exact z0E) ?_ | refine Trip.seq ?_ | refine zm ?_ | (refine Trip.ret ?_; (dsimp only)) | (refine OpsL.nil ?_; (change Trip _ _ _ _ _)))
 exact k.down) : G := f ⟨k⟩
theorem zft {G K : Prop} (k : K) (f : PLift K → G := by
 intro k;refine zgX ?_
 repeat (first | (refine zd (by first | exact omv | exact z0E | exact z45 | exact old) ?_) | refine Trip.seq ?_ | refine zm ?_ | refine Trip.block ?_ | (refine Trip.skip ?_; (change Trip _ _ _ _ _)) | (refine OpsL.nil ?_; (change Trip _ _ _ _ _)))
 exact k.down) : G := f ⟨k⟩
theorem z5e {G K : Prop} (k : K) (f : PLift K → G := by
 intro k
 ((repeat (refine z0e ?_)); change Trip _ _ _ _ _)
 exact k.down) : G := f ⟨k⟩
theorem z3h {G K : Prop} (k : K) (f : PLift K → G := by
 intro k
 repeat (refine OpsL.nil ?_; (skip))
 exact k.down) : G := f ⟨k⟩
theorem zcT {G K : Prop} (k : K) (f : PLift K → G := by
 intro k;refine zgX ?_
 repeat (first | refine zd (by exact z45) ?_ | refine Trip.seq ?_ | refine zm ?_ | refine Trip.block ?_ | (refine Trip.skip ?_; (change Trip _ _ _ _ _)))
 exact k.down) : G := f ⟨k⟩
theorem zaU {G K : Prop} (k : K) (f : PLift K → G := by
 intro k;refine OpsL.nil ?_;refine zg1 ?_
 repeat (first | refine zd (by exact z3i) ?_ | (refine OpsL.nil ?_; (skip)))
 exact k.down) : G := f ⟨k⟩
theorem zfO {G K : Prop} (k : K) (f : PLift K → G := by
 intro k
 repeat (first | refine zd (by exact z0E) ?_ | refine Trip.seq ?_ | refine zm ?_ | refine Trip.block ?_ | (refine Trip.skip ?_; (change Trip _ _ _ _ _)) | (refine OpsL.nil ?_; (change Trip _ _ _ _ _)))
 exact k.down) : G := f ⟨k⟩
theorem zcK {G K : Prop} (k : K) (f : PLift K → G := by
 intro k
 repeat (first | (refine zd (by first | exact omv | exact z2i | exact old | exact ofa) ?_) | refine Trip.seq ?_ | refine zm ?_)
 exact k.down) : G := f ⟨k⟩
theorem zfs {G K : Prop} (k : K) (f : PLift K → G := by
 intro k
 repeat (first | (refine zd (by first | exact omv | exact z6P) ?_) | refine zm ?_ | (refine OpsL.nil ?_; ((repeat (refine zN ?_)); first | (change Trip _ _ _ _ _) | (dsimp only))))
 exact k.down) : G := f ⟨k⟩
theorem zfr {G K : Prop} (k : K) (f : PLift K → G := by
 intro k
 repeat (first | refine zd (by exact omv) ?_ | refine Trip.seq ?_ | refine zm ?_ | (refine Trip.exit ?_; ((repeat (refine z0e ?_)); change Trip _ _ _ _ _)))
 exact k.down) : G := f ⟨k⟩
theorem ziG {G K : Prop} (k : K) (f : PLift K → G := by
 intro k;refine zg1 ?_
 repeat (first | (refine OpsL.nil ?_; (skip)) | refine z3u ?_)
 refine zg1 ?_
 repeat (first | (refine OpsL.nil ?_; (skip)) | refine z3u ?_)
 refine zg1 ?_
 repeat (first | (refine OpsL.nil ?_; (skip)) | refine z3u ?_)
 exact k.down) : G := f ⟨k⟩
theorem zgW {G K : Prop} (k : K) (f : PLift K → G := by
 intro k
 repeat (first | refine zd (by exact z45) ?_ | (refine OpsL.nil ?_; (dsimp only)) | refine zz ?_)
 exact k.down) : G := f ⟨k⟩
theorem zaT {G K : Prop} (k : K) (f : PLift K → G := by
 intro k
 repeat (first | refine zd (by exact z2R) ?_ | (refine OpsL.nil ?_; (skip)))
 exact k.down) : G := f ⟨k⟩
theorem zgV {G K : Prop} (k : K) (f : PLift K → G := by
 intro k;refine zg1 ?_
 repeat (first | refine zd (by exact z0E) ?_ | (refine OpsL.nil ?_; (skip)))
 exact k.down) : G := f ⟨k⟩
theorem zgN {G K : Prop} (k : K) (f : PLift K → G := by
 intro k;refine z0a ?_
 repeat (first | refine zd (by exact z0E) ?_ | refine Trip.seq ?_ | refine zm ?_ | (refine Trip.skip ?_; (change Trip _ _ _ _ _)) | (refine Trip.ret ?_; (dsimp only)) | (refine OpsL.nil ?_; (change Trip _ _ _ _ _)))
 exact k.down) : G := f ⟨k⟩
theorem zfN {G K : Prop} (k : K) (f : PLift K → G := by
 intro k
 repeat (first | (refine zd (by first | exact omv | exact z2i | exact ofa | exact old) ?_) | refine Trip.seq ?_ | refine zm ?_ | refine Trip.block ?_ | (refine OpsL.nil ?_; (change Trip _ _ _ _ _)))
 exact k.down) : G := f ⟨k⟩
theorem zgM {G K : Prop} (k : K) (f : PLift K → G := by
 intro k;refine z3E ?_
 repeat (first | refine zd (by exact ofa) ?_ | (refine OpsL.nil ?_; (dsimp only)))
 refine z3E ?_
 repeat (first | refine zd (by exact old) ?_ | (refine OpsL.nil ?_; (skip)))
 refine z9H ?_;refine zek ?_;exact k.down) : G := f ⟨k⟩
theorem ziL {G K : Prop} (k : K) (f : PLift K → G := by
 intro k;refine z3h ?_;refine z9H ?_;refine zg2 ?_;refine z3E ?_
 repeat (first | refine zd (by exact z7C) ?_ | (refine OpsL.nil ?_; (skip)))
 refine z3E ?_;exact k.down) : G := f ⟨k⟩
theorem zet {G K : Prop} (k : K) (f : PLift K → G := by
 intro k
 repeat (first | (refine zd (by first | exact omv | exact ofa | exact old) ?_) | refine zm ?_ | (refine OpsL.nil ?_; (change Trip _ _ _ _ _)))
 exact k.down) : G := f ⟨k⟩
theorem zi7 {G K : Prop} (k : K) (f : PLift K → G := by
 intro k;refine zgX ?_
 repeat (first | (refine zd (by first | exact omv | exact z0E | exact z45 | exact old | exact z2i | exact z6P) ?_) | refine Trip.seq ?_ | refine zm ?_ | refine Trip.block ?_ | (refine Trip.skip ?_; (change Trip _ _ _ _ _)) | (refine OpsL.nil ?_; (change Trip _ _ _ _ _)))
 refine z1y ?_;refine z9K ?_;refine zcN ?_;exact k.down) : G := f ⟨k⟩
theorem zfq {G K : Prop} (k : K) (f : PLift K → G := by
 intro k
 repeat (first | refine zd (by exact omv) ?_ | refine Trip.seq ?_ | refine zm ?_ | (refine Trip.skip ?_; (change Trip _ _ _ _ _)))
 exact k.down) : G := f ⟨k⟩
theorem zgL {G K : Prop} (k : K) (f : PLift K → G := by
 intro k
 repeat (first | (refine zd (by first | exact omv | exact z0E | exact z2i) ?_) | refine Trip.seq ?_ | refine zm ?_ | (refine OpsL.nil ?_; (change Trip _ _ _ _ _)))
 exact k.down) : G := f ⟨k⟩
theorem zcJ {G K : Prop} (k : K) (f : PLift K → G := by
 intro k
 repeat (first | refine zd (by exact omv) ?_ | refine Trip.seq ?_ | refine zm ?_)
 exact k.down) : G := f ⟨k⟩
theorem zcI {G K : Prop} (k : K) (f : PLift K → G := by
 intro k
 repeat (first | refine zd (by exact z0E) ?_ | (refine OpsL.nil ?_; (change Trip _ _ _ _ _)))
 exact k.down) : G := f ⟨k⟩
theorem z9G {G K : Prop} (k : K) (f : PLift K → G := by
 intro k;refine z1y ?_;refine z9K ?_;refine z0a ?_;exact k.down) : G := f ⟨k⟩
theorem zes {G K : Prop} (k : K) (f : PLift K → G := by
 intro k;refine zg1 ?_
 repeat (first | refine zd (by exact omv) ?_ | (refine OpsL.nil ?_; (dsimp only)))
 exact k.down) : G := f ⟨k⟩
theorem zii {G K : Prop} (k : K) (f : PLift K → G := by
 intro k;refine z9K ?_;refine z0a ?_
 repeat (first | (refine zd (by first | exact omv | exact z0E) ?_) | refine Trip.seq ?_ | refine zm ?_ | (refine Trip.skip ?_; (change Trip _ _ _ _ _)) | (refine Trip.ret ?_; (dsimp only)) | (refine OpsL.nil ?_; (change Trip _ _ _ _ _)))
 exact k.down) : G := f ⟨k⟩
theorem zcH {G K : Prop} (k : K) (f : PLift K → G := by
 intro k;refine zg1 ?_;refine zg2 ?_;refine zg0 ?_;refine zg0 ?_;refine ziN ?_;exact k.down) : G := f ⟨k⟩
theorem zcS {G K : Prop} (k : K) (f : PLift K → G := by
 intro k;refine z5U ?_;refine zg2 ?_;refine zg1 ?_;refine zek ?_;refine zg1 ?_;exact k.down) : G := f ⟨k⟩
theorem zfM {G K : Prop} (k : K) (f : PLift K → G := by
 intro k
 repeat (first | refine zd (by exact old) ?_ | (refine OpsL.nil ?_; (skip)))
 exact k.down) : G := f ⟨k⟩
theorem zfL {G K : Prop} (k : K) (f : PLift K → G := by
 intro k
 repeat (first | refine zd (by exact z0E) ?_ | (refine Trip.ret ?_; (dsimp only)) | (refine OpsL.nil ?_; (change Trip _ _ _ _ _)))
 exact k.down) : G := f ⟨k⟩
theorem zfp {G K : Prop} (k : K) (f : PLift K → G := by
 intro k;refine zg1 ?_
 repeat (first | refine zd (by exact z2i) ?_ | (refine OpsL.nil ?_; (skip)))
 refine zg1 ?_;exact k.down) : G := f ⟨k⟩
theorem z5L {G K : Prop} (k : K) (f : PLift K → G := by
 intro k;refine Trip.seq ?_;refine zm ?_;exact k.down) : G := f ⟨k⟩
theorem zeo {G K : Prop} (k : K) (f : PLift K → G := by
 intro k
 repeat (first | (refine Trip.ret ?_; (dsimp only)) | (refine OpsL.nil ?_; (change Trip _ _ _ _ _)))
 exact k.down) : G := f ⟨k⟩
theorem zfo {G K : Prop} (k : K) (f : PLift K → G := by
 intro k;refine z9H ?_;refine zg2 ?_;refine z3E ?_;refine zek ?_;refine z3E ?_;exact k.down) : G := f ⟨k⟩
theorem z7z {G K : Prop} (k : K) (f : PLift K → G := by
 intro k;refine z9K ?_;refine z3t ?_;exact k.down) : G := f ⟨k⟩
theorem z9O {G K : Prop} (k : K) (f : PLift K → G := by
 intro k;refine zaV ?_
 repeat (refine Trip.exit ?_; (dsimp only))
 exact k.down) : G := f ⟨k⟩
theorem zen {G K : Prop} (k : K) (f : PLift K → G := by
 intro k
 repeat (first | refine zd (by exact z2R) ?_ | (refine OpsL.nil ?_; (change Trip _ _ _ _ _)))
 exact k.down) : G := f ⟨k⟩
theorem zi6 {G K : Prop} (k : K) (f : PLift K → G := by
 intro k
 repeat (first | (refine zd (by first | exact omv | exact z8y | exact z45 | exact ofa | exact old | exact z2R) ?_) | refine Trip.seq ?_ | refine zm ?_ | (refine OpsL.nil ?_; (change Trip _ _ _ _ _)) | refine zz ?_)
 exact k.down) : G := f ⟨k⟩
theorem zfn {G K : Prop} (k : K) (f : PLift K → G := by
 intro k
 repeat (first | refine Trip.seq ?_ | refine zm ?_ | (refine OpsL.nil ?_; (change Trip _ _ _ _ _)))
 exact k.down) : G := f ⟨k⟩
theorem zfK {G K : Prop} (k : K) (f : PLift K → G := by
 intro k
 repeat (first | (refine zd (by first | exact omv | exact ofa | exact old | exact z2R) ?_) | refine zz ?_)
 exact k.down) : G := f ⟨k⟩
theorem zgK {G K : Prop} (k : K) (f : PLift K → G := by
 intro k
 repeat (first | (refine zd (by first | exact omv | exact z45) ?_) | refine Trip.seq ?_ | refine zm ?_)
 exact k.down) : G := f ⟨k⟩
theorem zgU {G K : Prop} (k : K) (f : PLift K → G := by
 intro k
 repeat (first | (refine zd (by first | exact z0E | exact omv) ?_) | refine Trip.seq ?_ | refine zm ?_ | (refine OpsL.nil ?_; (change Trip _ _ _ _ _)))
 exact k.down) : G := f ⟨k⟩
theorem ziK {G K : Prop} (k : K) (f : PLift K → G := by
 intro k;refine OpsL.nil ?_;refine ziM ?_;refine zg1 ?_;refine z79 ?_;refine zg1 ?_;refine zgW ?_;exact k.down) : G := f ⟨k⟩
theorem zgT {G K : Prop} (k : K) (f : PLift K → G := by
 intro k;refine zg1 ?_;refine zg2 ?_;refine zg6 ?_;refine z79 ?_;refine zg1 ?_;refine zz ?_;exact k.down) : G := f ⟨k⟩
theorem zem {G K : Prop} (k : K) (f : PLift K → G := by
 intro k
 repeat (first | refine Trip.seq ?_ | (refine OpsL.nil ?_; (change Trip _ _ _ _ _)))
 exact k.down) : G := f ⟨k⟩
theorem zgS {G K : Prop} (k : K) (f : PLift K → G := by
 intro k
 repeat (first | refine zd (by exact z0E) ?_ | refine Trip.seq ?_ | (refine OpsL.nil ?_; (change Trip _ _ _ _ _)))
 exact k.down) : G := f ⟨k⟩
theorem zih {G K : Prop} (k : K) (f : PLift K → G := by
 intro k
 repeat (first | (refine zd (by first | exact omv | exact z2i | exact z7C | exact z0E) ?_) | refine Trip.seq ?_ | refine zm ?_ | (refine OpsL.nil ?_; (change Trip _ _ _ _ _)))
 exact k.down) : G := f ⟨k⟩
theorem z7y {G K : Prop} (k : K) (f : PLift K → G := by
 intro k
 repeat (refine zd (by exact omv) ?_)
 exact k.down) : G := f ⟨k⟩
theorem zi5 {G K : Prop} (k : K) (f : PLift K → G := by
 intro k
 repeat (first | (refine zd (by first | exact omv | exact z45 | exact ofa | exact old) ?_) | refine Trip.seq ?_ | refine zm ?_ | (refine OpsL.nil ?_; (change Trip _ _ _ _ _)))
 exact k.down) : G := f ⟨k⟩
theorem zig {G K : Prop} (k : K) (f : PLift K → G := by
 intro k
 repeat (first | refine zd (by exact z0E) ?_ | refine Trip.seq ?_ | refine zm ?_ | (refine Trip.exit ?_; ((repeat (refine z0e ?_)); change Trip _ _ _ _ _)) | (refine Trip.ret ?_; (dsimp only)) | (refine OpsL.nil ?_; (change Trip _ _ _ _ _)))
 exact k.down) : G := f ⟨k⟩
theorem zi4 {G K : Prop} (k : K) (f : PLift K → G := by
 intro k;refine z3E ?_;refine zgW ?_;refine z3E ?_
 repeat (first | refine zd (by exact old) ?_ | (refine OpsL.nil ?_; (skip)) | refine zz ?_)
 refine z3E ?_;exact k.down) : G := f ⟨k⟩
theorem zej {G K : Prop} (k : K) (f : PLift K → G := by
 intro k
 repeat (first | (refine OpsL.nil ?_; (skip)) | refine zQ ?_)
 exact k.down) : G := f ⟨k⟩
theorem zif {G K : Prop} (k : K) (f : PLift K → G := by
 intro k
 repeat (first | refine zd (by exact z0E) ?_ | (refine Trip.ret ?_; ((repeat (refine z0s ?_)); dsimp only)) | (refine OpsL.nil ?_; (change Trip _ _ _ _ _)))
 exact k.down) : G := f ⟨k⟩
theorem z6R {G K : Prop} (k : K) (f : PLift K → G := by
 intro k;refine zg5 ?_;refine zz ?_;exact k.down) : G := f ⟨k⟩
theorem zgR {G K : Prop} (k : K) (f : PLift K → G := by
 intro k;refine z3t ?_
 repeat (first | (refine zd (by first | exact omv | exact ofa | exact old) ?_) | refine zm ?_)
 exact k.down) : G := f ⟨k⟩
theorem zie {G K : Prop} (k : K) (f : PLift K → G := by
 intro k
 repeat (first | (refine zd (by first | exact omv | exact z45 | exact ofa | exact old | exact z3i) ?_) | refine Trip.seq ?_ | refine zm ?_ | (refine OpsL.nil ?_; (change Trip _ _ _ _ _)) | refine zQ ?_)
 refine zg3 ?_;exact k.down) : G := f ⟨k⟩
theorem zbJ {G K : Prop} (k : K) (f : PLift K → G := by
 intro k;refine zg1 ?_;refine zg2 ?_;refine zg4 ?_;exact k.down) : G := f ⟨k⟩
theorem zcR {G K : Prop} (k : K) (f : PLift K → G := by
 intro k
 repeat (first | refine Trip.seq ?_ | refine zm ?_)
 exact k.down) : G := f ⟨k⟩
theorem z5T {G K : Prop} (k : K) (f : PLift K → G := by
 intro k;refine zg4 ?_;refine zg5 ?_;exact k.down) : G := f ⟨k⟩
theorem zi3 {G K : Prop} (k : K) (f : PLift K → G := by
 intro k
 repeat (first | (refine zd (by first | exact omv | exact z2R | exact z3i) ?_) | (refine OpsL.nil ?_; (change Trip _ _ _ _ _)) | refine zQ ?_)
 exact k.down) : G := f ⟨k⟩
theorem zid {G K : Prop} (k : K) (f : PLift K → G := by
 intro k
 repeat (first | (refine zd (by first | exact omv | exact z0E | exact z2i | exact ofa | exact old) ?_) | refine Trip.seq ?_ | refine zm ?_ | refine Trip.block ?_ | (refine OpsL.nil ?_; (change Trip _ _ _ _ _)))
 exact k.down) : G := f ⟨k⟩
theorem zfJ {G K : Prop} (k : K) (f : PLift K → G := by
 intro k
 repeat (first | refine zd (by exact z3i) ?_ | (refine OpsL.nil ?_; (skip)))
 exact k.down) : G := f ⟨k⟩
theorem z9N {G K : Prop} (k : K) (f : PLift K → G := by
 intro k
 repeat (refine OpsL.nil ?_; (dsimp only))
 exact k.down) : G := f ⟨k⟩
theorem ziF {G K : Prop} (k : K) (f : PLift K → G := by
 intro k;refine z5f ?_;refine z2G ?_;refine z7z ?_
 repeat (first | (refine zd (by first | exact omv | exact z7C | exact z2i | exact z45 | exact zg (k := 2) (by simp only [ASt.ev, zk, ↓reduceIte, Nat.reduceEqDiff, *]; rfl) zxr rfl zxr (by assumption)) ?_) | refine Trip.seq ?_ | refine zm ?_ | refine Trip.block ?_ | (refine Trip.skip ?_; (change Trip _ _ _ _ _)))
 exact k.down) : G := f ⟨k⟩
theorem z3M {G K : Prop} (k : K) (f : PLift K → G := by
 intro k;refine z3h ?_;refine z3E ?_;exact k.down) : G := f ⟨k⟩
theorem zez {G K : Prop} (k : K) (f : PLift K → G := by
 intro k
 repeat (first | (refine zd (by first | exact omv | exact z3i) ?_) | (refine OpsL.nil ?_; (change Trip _ _ _ _ _)) | refine zQ ?_)
 exact k.down) : G := f ⟨k⟩
theorem zd7 {G K : Prop} (k : K) (f : PLift K → G := by
 intro k
 repeat (first | (refine zd (by first | exact omv | exact ofa | exact old) ?_) | refine zz ?_)
 exact k.down) : G := f ⟨k⟩
theorem zbP {G K : Prop} (k : K) (f : PLift K → G := by
 intro k
 repeat (first | refine zd (by exact omv) ?_ | refine zm ?_)
 exact k.down) : G := f ⟨k⟩
theorem z3L {G K : Prop} (k : K) (f : PLift K → G := by
 intro k;refine zg1 ?_;refine zek ?_;exact k.down) : G := f ⟨k⟩
theorem zgc {G K : Prop} (k : K) (f : PLift K → G := by
 intro k;refine z79 ?_;refine z3E ?_;refine z79 ?_;refine z3E ?_
 repeat (first | refine zd (by exact z7C) ?_ | (refine OpsL.nil ?_; (skip)) | refine zz ?_)
 exact k.down) : G := f ⟨k⟩
theorem zgb {G K : Prop} (k : K) (f : PLift K → G := by
 intro k
 repeat (first | (refine zd (by first | exact z0E | exact ofa | exact old) ?_) | refine Trip.seq ?_ | refine zm ?_ | (refine OpsL.nil ?_; (change Trip _ _ _ _ _)))
 exact k.down) : G := f ⟨k⟩
theorem zga {G K : Prop} (k : K) (f : PLift K → G := by
 intro k
 repeat (first | (refine zd (by first | exact omv | exact ofa | exact old) ?_) | refine Trip.seq ?_ | refine zm ?_ | (refine OpsL.nil ?_; (change Trip _ _ _ _ _)))
 exact k.down) : G := f ⟨k⟩
theorem zey {G K : Prop} (k : K) (f : PLift K → G := by
 intro k;refine zg1 ?_
 repeat (first | refine zd (by exact z6P) ?_ | (refine OpsL.nil ?_; (skip)))
 refine zg1 ?_;exact k.down) : G := f ⟨k⟩
theorem zfZ {G K : Prop} (k : K) (f : PLift K → G := by
 intro k
 repeat (first | (refine zd (by first | exact omv | exact zO (by simp only [ASt.ev, zk, ↓reduceIte, Nat.reduceEqDiff, *]; rfl) zxr) ?_))
 exact k.down) : G := f ⟨k⟩
theorem z67 {G K : Prop} (k : K) (f : PLift K → G := by
 intro k;refine z3h ?_;refine OpsK.nil ?_;exact k.down) : G := f ⟨k⟩
theorem zfY {G K : Prop} (k : K) (f : PLift K → G := by
 intro k
 repeat (first | (refine zd (by first | exact ofa | exact old) ?_) | refine Trip.seq ?_ | refine zm ?_ | (refine OpsL.nil ?_; (change Trip _ _ _ _ _)))
 exact k.down) : G := f ⟨k⟩
theorem zbO {G K : Prop} (k : K) (f : PLift K → G := by
 intro k;refine zg1 ?_;refine zaT ?_;refine z5U ?_;refine z79 ?_;exact k.down) : G := f ⟨k⟩
theorem z4v {G K : Prop} (k : K) (f : PLift K → G := by
 intro k;refine z9J ?_;refine zcM ?_;exact k.down) : G := f ⟨k⟩
theorem zbN {G K : Prop} (k : K) (f : PLift K → G := by
 intro k;refine ziL ?_;refine zek ?_;refine z3E ?_;exact k.down) : G := f ⟨k⟩
theorem zcZ {G K : Prop} (k : K) (f : PLift K → G := by
 intro k;refine zg1 ?_;refine z79 ?_;refine zg1 ?_;exact k.down) : G := f ⟨k⟩
theorem z9U {G K : Prop} (k : K) (f : PLift K → G := by
 intro k;refine ziK ?_;refine zg6 ?_;refine zz ?_;exact k.down) : G := f ⟨k⟩
theorem z0T {G K : Prop} (k : K) (f : PLift K → G := by
 intro k;refine OpsR.nil ?_;exact k.down) : G := f ⟨k⟩
theorem zex {G K : Prop} (k : K) (f : PLift K → G := by
 intro k
 repeat (first | refine zd (by exact z3i) ?_ | (refine OpsL.nil ?_; (change Trip _ _ _ _ _)))
 exact k.down) : G := f ⟨k⟩
theorem z4J {G K : Prop} (k : K) (f : PLift K → G := by
 intro k;refine z5U ?_;refine zg2 ?_;exact k.down) : G := f ⟨k⟩
theorem z5g {G K : Prop} (k : K) (f : PLift K → G := by
 intro k;refine z5e ?_;refine z7B ?_;exact k.down) : G := f ⟨k⟩
theorem z0F {G K : Prop} (k : K) (f : PLift K → G := by
 intro k;refine z3t ?_;exact k.down) : G := f ⟨k⟩
theorem zfX {G K : Prop} (k : K) (f : PLift K → G := by
 intro k
 repeat (first | refine Trip.seq ?_ | refine zm ?_ | refine Trip.block ?_ | (refine Trip.skip ?_; (change Trip _ _ _ _ _)))
 exact k.down) : G := f ⟨k⟩
theorem zh6 {G K : Prop} (k : K) (f : PLift K → G := by
 intro k
 repeat (first | (refine zd (by first | exact omv | exact z8y | exact z45 | exact ofa | exact old | exact z2R | exact z3i) ?_) | refine Trip.seq ?_ | refine zm ?_ | (refine OpsL.nil ?_; (change Trip _ _ _ _ _)) | refine zz ?_)
 exact k.down) : G := f ⟨k⟩
theorem z6T {G K : Prop} (k : K) (f : PLift K → G := by
 intro k;refine zgV ?_;refine z0T ?_;exact k.down) : G := f ⟨k⟩
theorem zh5 {G K : Prop} (k : K) (f : PLift K → G := by
 intro k
 repeat (first | (refine zd (by first | exact omv | exact z8y | exact z2R | exact z3i) ?_) | (refine OpsL.nil ?_; (change Trip _ _ _ _ _)) | refine zz ?_ | refine zQ ?_)
 refine z0F ?_;refine zcL ?_;exact k.down) : G := f ⟨k⟩
theorem z8C {G K : Prop} (k : K) (f : PLift K → G := by
 intro k;refine z1m ?_;refine z7z ?_;exact k.down) : G := f ⟨k⟩
theorem zh4 {G K : Prop} (k : K) (f : PLift K → G := by
 intro k;refine z0a ?_
 repeat (first | (refine zd (by first | exact ofa | exact old) ?_) | refine Trip.seq ?_ | refine zm ?_ | (refine Trip.exit ?_; ((repeat (refine z0e ?_)); change Trip _ _ _ _ _)))
 exact k.down) : G := f ⟨k⟩
theorem zh3 {G K : Prop} (k : K) (f : PLift K → G := by
 intro k
 repeat (first | (refine zd (by first | exact omv | exact z45 | exact ofa | exact old | exact z2R) ?_) | refine Trip.seq ?_ | refine zm ?_ | (refine OpsL.nil ?_; (change Trip _ _ _ _ _)) | refine zz ?_)
 exact k.down) : G := f ⟨k⟩
theorem z9T {G K : Prop} (k : K) (f : PLift K → G := by
 intro k
 repeat (refine Trip.ret ?_; (dsimp only))
 exact k.down) : G := f ⟨k⟩
theorem zfW {G K : Prop} (k : K) (f : PLift K → G := by
 intro k
 repeat (first | (refine zd (by first | exact ofa | exact old) ?_) | refine Trip.seq ?_ | refine zm ?_)
 exact k.down) : G := f ⟨k⟩
theorem z8B {G K : Prop} (k : K) (f : PLift K → G := by
 intro k
 repeat (refine zd (by exact ofa) ?_)
 exact k.down) : G := f ⟨k⟩
theorem zh2 {G K : Prop} (k : K) (f : PLift K → G := by
 intro k;refine z5U ?_;refine z79 ?_;refine zcZ ?_
 repeat (first | refine zd (by exact z2i) ?_ | (refine OpsL.nil ?_; (skip)) | refine zz ?_)
 refine zg1 ?_
 repeat (refine zz ?_)
 exact k.down) : G := f ⟨k⟩
theorem zbM {G K : Prop} (k : K) (f : PLift K → G := by
 intro k;refine zg4 ?_;refine zg1 ?_;refine zfM ?_;exact k.down) : G := f ⟨k⟩
theorem zfV {G K : Prop} (k : K) (f : PLift K → G := by
 intro k
 repeat (first | refine zd (by exact ofa) ?_ | (refine OpsL.nil ?_; (dsimp only)) | refine zz ?_)
 exact k.down) : G := f ⟨k⟩
theorem zh1 {G K : Prop} (k : K) (f : PLift K → G := by
 intro k
 repeat (first | (refine zd (by first | exact omv | exact z0E | exact z2R | exact z3i) ?_) | (refine Trip.ret ?_; (dsimp only)) | (refine OpsL.nil ?_; (change Trip _ _ _ _ _)) | refine zQ ?_)
 exact k.down) : G := f ⟨k⟩
theorem zfU {G K : Prop} (k : K) (f : PLift K → G := by
 intro k;refine zg5 ?_
 repeat (first | refine zd (by exact z0E) ?_ | (refine OpsL.nil ?_; (dsimp only)))
 exact k.down) : G := f ⟨k⟩
theorem zh0 {G K : Prop} (k : K) (f : PLift K → G := by
 intro k
 repeat (first | (refine zd (by first | exact omv | exact z0E | exact z2R) ?_) | refine Trip.seq ?_ | refine zm ?_ | (refine OpsL.nil ?_; (change Trip _ _ _ _ _)) | refine zz ?_)
 exact k.down) : G := f ⟨k⟩
theorem z8A {G K : Prop} (k : K) (f : PLift K → G := by
 intro k;refine z9K ?_;refine z0a ?_;exact k.down) : G := f ⟨k⟩
theorem zcY {G K : Prop} (k : K) (f : PLift K → G := by
 intro k
 repeat (refine zd (by exact z45) ?_)
 exact k.down) : G := f ⟨k⟩
theorem zfT {G K : Prop} (k : K) (f : PLift K → G := by
 intro k;refine zes ?_;refine zg1 ?_;refine z00 ?_;refine OpsL.nil ?_;refine zgT ?_;exact k.down) : G := f ⟨k⟩
end Go.Am
namespace Go.Am
open Go.RowKit
section
variable {P : Program} {W0 : World} {ops : Array Oper}
def z6e (ops : Array Oper) (k : Nat) (o : Oper) : Bool :=
 z29 o.op || z4R o.op || z1N (fun j oj => !z29 oj.op || z9S o j || z9S oj k) 0 ops.toList
variable {nx0 : Nat} {H0 : Heap}
section
variable {k : Nat} {type : TypeId} {pos : String} {after : Array Edge} {l : List Oper} {tm : Nat → Value} {n nx nx' : Nat} {H H' : Heap} {v : Value} {QQ : ASt → Prop} {f : FuncId} {d : Tmp} {ts : Array TypeId}
end
def z2P : List Oper → List (Value × Nat × Heap) → ASt → Nat → ASt
 | o :: l, ve :: vs, st, i + 1 => z2P l vs ⟨zk st.tm o.dst ve.1, st.n, ve.2.2, ve.2.1⟩ i
 | _, _, st, _ => st
theorem z4Y (l : List Oper) (vs : List (Value × Nat × Heap)) (st : ASt) : z2P l vs st 0 = st := by cases l <;> cases vs <;> rfl
def z3l : Value × Nat × Heap := (undef, 0, zhC)
def zbT (ops : Array Oper) : Nat → Oper → Nat → Bool
 | 0, o, i => z9S o i
 | n + 1, o, i => z9S o i || (List.range ops.size).any fun m => z9S o m && (match ops[m]? with | some om => zbT ops n om i | none => false)
theorem z99 {ops : Array Oper} : ∀ (n : Nat) (o : Oper) (i : Nat), zbT ops n o i = true → zgZ ops n o i := by
 intro n
 induction n with
 | zero => intro o i h; exact z0S.1 h
 | succ n ih =>
  intro o i h;simp only [zbT, Bool.or_eq_true, List.any_eq_true, Bool.and_eq_true] at h;rcases h with h | ⟨m, _, h1, h2⟩
  ·exact .inl (z0S.1 h)
  ·cases ho : ops[m]? with
   | none => rw [ho] at h2; cases h2
   | some om => rw [ho] at h2; exact .inr ⟨m, om, ho, z0S.1 h1, ih om i h2⟩
def zfz (ops : Array Oper) : Bool :=
 z1N (fun i oi => z1N (fun j oj => !(z29 oi.op && z29 oj.op && decide (i < j)) || zbT ops 3 oj i || (List.range ops.size).any fun k => decide (i < k) && decide (k < j) && (match ops[k]? with | some o => z29 o.op | none => false)) 0 ops.toList) 0 ops.toList
theorem z5q {o : Op} (h : z4o o = true) : z29 o = true := by
 cases o <;> simp only [z4o] at h <;> try (cases h; done)
 rename_i c;cases hc : c.callee <;> simp [z4o, hc] at h <;> simp [z29, hc]
theorem z3D {st : ASt} {o : Oper} : z3R (evR (z3j o) st.tm) o = z0W st o := by
 unfold z3R z0W;cases ho : o.op <;> simp only;rename_i c;cases hc : c.callee <;> simp only;rename_i x
 have hm : ∀ y, y = x ∨ y ∈ c.args.toList → evR (z3j o) st.tm y = st.ev y := fun y hy =>
  z7H (n := st.n) (nx := st.nx) (H := st.H) (fun t ht => z5Z (by
   rw [ho, ← ht];simp only [Op.operands, Call.operands, hc];rcases hy with rfl | hy
   ·simp
   ·simp; right; simpa using hy))
 rw [hm x (.inl rfl), z3z c.args.toList (fun y hy => hm y (.inr hy))];rfl
end
end Go.Am
namespace Go.Am
open Go.RowKit
section
variable {P : Program} {W0 : World} {ops : Array Oper}
def OpsK (P : Program) (W0 : World) (ops : Array Oper) (K : Nat → Heap → Prop) : Nat → List Oper → ASt → (ASt → Prop) → Prop
 | _, [], st, Q => Q st
 | k, o :: l, st, Q => z1f st o = true ∧ ((z0X ops st o = false ∧ OpsK P W0 ops K (k + 1) l (st.put o.dst undef .none) Q) ∨ (z0X ops st o = true ∧
   ((∃ v e, aop P st.H st.nx st.ev o = some (v, e) ∧ z6e ops k o = true ∧ (z29 o.op = true → K (e.nx st.nx) (e.H st.nx st.H)) ∧ OpsK P W0 ops K (k + 1) l (st.put o.dst v e) Q) ∨
    (∃ v, z29 o.op = false ∧ (∀ H' nx', K nx' H' → aop P H' nx' st.ev o = some (v, .none)) ∧ OpsK P W0 ops K (k + 1) l (st.put o.dst v .none) Q) ∨
    (∃ f args v nx' H', z0W st o = some (f, args) ∧ z0U P f ∧ ACalls P W0 f args st.nx st.H (fun v1 n1 H1 => v1 = v ∧ n1 = nx' ∧ H1 = H') ∧ K nx' H' ∧ OpsK P W0 ops K (k + 1) l ⟨zk st.tm o.dst v, st.n, H', nx'⟩ Q))))
variable {K : Nat → Heap → Prop}
theorem OpsK.nil {k : Nat} {st : ASt} {Q : ASt → Prop} (h : Q st) : OpsK P W0 ops K k [] st Q := h
theorem OpsK.one {k : Nat} {o : Oper} {l : List Oper} {st : ASt} {Q : ASt → Prop} (he : z29 o.op = false) (hk : z6e ops k o = true) (h : OpsL P W0 ops [o] st fun s => OpsK P W0 ops K (k + 1) l s Q) : OpsK P W0 ops K k (o :: l) st Q := by
 obtain ⟨hd, h⟩ := h;refine ⟨hd, ?_⟩;rcases h with ⟨hw, h⟩ | ⟨hw, ⟨v, e, hop, h⟩ | ⟨f, args, R, hc, _⟩⟩
 ·exact .inl ⟨hw, h⟩
 ·exact .inr ⟨hw, .inl ⟨v, e, hop, hk, fun hx => (by rw [he] at hx; cases hx), h⟩⟩
 ·have := z2u hc;cases ho : o.op <;> simp only [ho, z4o] at this <;> try (cases this; done)
  rename_i c;cases hcc : c.callee <;> simp [hcc] at this <;> simp [z29, ho, hcc] at he
section
variable {k : Nat} {type : TypeId} {pos : String} {after : Array Edge} {l : List Oper} {tm : Nat → Value} {n nx nx' : Nat} {H H' : Heap} {v : Value} {QQ : ASt → Prop} {f : FuncId} {d : Tmp} {ts : Array TypeId}
end
def zfH (P : Program) (W0 : World) (ops : Array Oper) (K : Nat → Heap → Prop) (k : Nat) (st : ASt) (o : Oper) (v : Value) (nx' : Nat) (H' : Heap) : Prop :=
 z1f st o = true ∧ ((z0X ops st o = false ∧ v = undef ∧ nx' = st.nx ∧ H' = st.H) ∨ (z0X ops st o = true ∧ ((∃ e, aop P st.H st.nx st.ev o = some (v, e) ∧ z6e ops k o = true ∧ (z29 o.op = true → K nx' H') ∧ nx' = e.nx st.nx ∧ H' = e.H st.nx st.H) ∨
  (z29 o.op = false ∧ (∀ H1 n1, K n1 H1 → aop P H1 n1 st.ev o = some (v, .none)) ∧ nx' = st.nx ∧ H' = st.H) ∨
  (z4o o.op = true ∧ K nx' H' ∧ ∃ f args, z0W st o = some (f, args) ∧ z0U P f ∧ ACalls P W0 f args st.nx st.H (fun v1 n1 H1 => v1 = v ∧ n1 = nx' ∧ H1 = H')))))
theorem zei {Q : ASt → Prop} : ∀ (l : List Oper) (k : Nat) (st : ASt), OpsK P W0 ops K k l st Q → ∃ vs : List (Value × Nat × Heap), vs.length = l.length ∧ Q (z2P l vs st l.length) ∧
  ∀ (i : Nat) (o : Oper), l[i]? = some o → zfH P W0 ops K (k + i) (z2P l vs st i) o (vs.getD i z3l).1 (vs.getD i z3l).2.1 (vs.getD i z3l).2.2 ∧ z2P l vs st (i + 1) = ⟨zk (z2P l vs st i).tm o.dst (vs.getD i z3l).1, (z2P l vs st i).n, (vs.getD i z3l).2.2, (vs.getD i z3l).2.1⟩ := by
 intro l
 induction l with
 | nil => intro k st h; exact ⟨[], rfl, h, fun i o ho => by simp at ho⟩
 | cons o l ih =>
  intro k st h;obtain ⟨hd, h⟩ := h
  have key : ∃ v nx' H', zfH P W0 ops K k st o v nx' H' ∧ OpsK P W0 ops K (k + 1) l ⟨zk st.tm o.dst v, st.n, H', nx'⟩ Q := by
   rcases h with ⟨hw, h⟩ | ⟨hw, ⟨v, e, hop, he, hx, h⟩ | ⟨v, he, hop, h⟩ | ⟨f, args, v, nx', H', hc, hf, hcall, hx, h⟩⟩
   ·exact ⟨undef, st.nx, st.H, ⟨hd, .inl ⟨hw, rfl, rfl, rfl⟩⟩, h⟩
   ·exact ⟨v, e.nx st.nx, e.H st.nx st.H, ⟨hd, .inr ⟨hw, .inl ⟨e, hop, he, hx, rfl, rfl⟩⟩⟩, h⟩
   ·exact ⟨v, st.nx, st.H, ⟨hd, .inr ⟨hw, .inr (.inl ⟨he, hop, rfl, rfl⟩)⟩⟩, h⟩
   ·exact ⟨v, nx', H', ⟨hd, .inr ⟨hw, .inr (.inr ⟨z2u hc, hx, f, args, hc, hf, hcall⟩)⟩⟩, h⟩
  obtain ⟨v, nx', H', h1, h2⟩ := key;obtain ⟨vs, e1, e2, e3⟩ := ih _ _ h2;refine ⟨(v, nx', H') :: vs, by simp [e1], e2, ?_⟩;intro i o' ho;cases i with
  | zero =>
   simp only [List.getElem?_cons_zero, Option.some.injEq] at ho;subst ho;refine ⟨by rw [z4Y]; exact h1, ?_⟩;show z2P l vs ⟨zk st.tm o.dst v, st.n, H', nx'⟩ 0 = _;rw [z4Y, z4Y]; rfl
  | succ i =>
   have := e3 i o' (by simpa using ho);rw [show k + (i + 1) = k + 1 + i by omega];exact this
theorem OpsK.drawn {id : Nat} {st : ASt} {Q : AExit → ASt → Prop} (hm : P.follows .mixedOrders = true) (hs : z7b ops = true) (hq : zfz ops = true) (h0 : K st.nx st.H) (h : OpsK P W0 ops K 0 ops.toList st (Q .normal)) : Trip P W0 (.region id ops true) st Q := by
 have q2 := hq;unfold zfz at q2;obtain ⟨vs, e1, e2, e3⟩ := zei _ _ _ h;simp only [Nat.zero_add] at e3;obtain ⟨b1, b2, b3⟩ := z3w hs;have toL : ∀ (i : Nat) (o : Oper), ops[i]? = some o → ops.toList[i]? = some o := fun i o ho => by simpa using ho
 have hz := z4Y ops.toList vs st
 have hnn : ∀ i, i ≤ ops.size → (z2P ops.toList vs st i).n = st.n := by
  intro i
  induction i with
  | zero => intro _; rw [hz]
  | succ i ih =>
   intro hi;have ho : ops[i]? = some ops[i] := Array.getElem?_eq_getElem zom;rw [(e3 i _ (toL i _ ho)).2];exact ih zom
 have hend : ∀ i, ops[i]? = none → z2P ops.toList vs st (i + 1) = z2P ops.toList vs st i := by
  have gen : ∀ (l : List Oper) (us : List (Value × Nat × Heap)) (st : ASt) (i : Nat), us.length = l.length → l.length ≤ i → z2P l us st (i + 1) = z2P l us st i := by
   intro l
   induction l with
   | nil => intro us st i _ _; cases i <;> rfl
   | cons o l ih =>
    intro us st i hu hi;cases us with
    | nil => simp at hu
    | cons u us =>
     cases i with
     | zero => simp at hi
     | succ i => exact ih us _ i (by simpa using hu) (by simpa using hi)
  intro i hi;exact gen _ _ _ _ e1 (by simpa using Array.getElem?_eq_none_iff.1 hi)
 have hstill : ∀ i, z2k ops i = false → (z2P ops.toList vs st (i + 1)).H = (z2P ops.toList vs st i).H ∧ (z2P ops.toList vs st (i + 1)).nx = (z2P ops.toList vs st i).nx := by
  intro i hi;cases ho : ops[i]? with
  | none => rw [hend i ho]; exact ⟨rfl, rfl⟩
  | some o =>
   obtain ⟨⟨_, p2⟩, p3⟩ := e3 i o (toL i o ho);have hE : z29 o.op = false := by simpa [z2k, ho] using hi
   rw [p3];rcases p2 with ⟨_, _, c, d⟩ | ⟨_, ⟨e, c1, _, _, c2, c3⟩ | ⟨_, _, c, d⟩ | ⟨g, _⟩⟩
   ·exact ⟨d, c⟩
   ·have := z3d hE c1;subst this;exact ⟨c3, c2⟩
   ·exact ⟨d, c⟩
   ·rw [z5q g] at hE; cases hE
 have hextAll : ∀ i, i ≤ ops.size → K (z2P ops.toList vs st i).nx (z2P ops.toList vs st i).H := by
  intro i
  induction i with
  | zero => intro _; rw [hz]; exact h0
  | succ i ih =>
   intro hi;have ho : ops[i]? = some ops[i] := Array.getElem?_eq_getElem zom;by_cases hE : z29 ops[i].op = true
   ·obtain ⟨⟨_, p2⟩, p3⟩ := e3 i _ (toL i _ ho);rw [p3];rcases p2 with ⟨_, _, c, d⟩ | ⟨_, ⟨e, _, _, c, _⟩ | ⟨g, _⟩ | ⟨_, c, _⟩⟩
    ·rw [c, d]; exact ih zom
    ·exact c hE
    ·rw [g] at hE; cases hE
    ·exact c
   ·obtain ⟨a, b⟩ := hstill i (by unfold z2k; rw [ho]; simpa using hE);rw [a, b]; exact ih zom
 have hrange : ∀ m p, (∀ j, p ≤ j → j < p + m → z2k ops j = false) → (z2P ops.toList vs st (p + m)).H = (z2P ops.toList vs st p).H ∧ (z2P ops.toList vs st (p + m)).nx = (z2P ops.toList vs st p).nx := by
  intro m
  induction m with
  | zero => intro p _; exact ⟨rfl, rfl⟩
  | succ m ih =>
   intro p hp;obtain ⟨a1, a2⟩ := ih p (fun j h1 h2 => hp j h1 zom);obtain ⟨c1, c2⟩ := hstill (p + m) (hp _ zom zom);exact ⟨by rw [show p + (m + 1) = p + m + 1 by omega, c1, a1], by rw [show p + (m + 1) = p + m + 1 by omega, c2, a2]⟩
 have hev : ∀ (i : Nat) (o : Oper) (H : Heap) (nx : Nat), aop P H nx (evR (z3j o) (z2P ops.toList vs st i).tm) o = aop P H nx (z2P ops.toList vs st i).ev o := fun i o H nx =>
  z6r (fun x hx => z7H (n := (z2P ops.toList vs st i).n) (nx := (z2P ops.toList vs st i).nx) (H := (z2P ops.toList vs st i).H) (fun t ht => z5Z (by rw [← ht]; exact hx)))
 refine Trip.drawn (tms := fun i => (z2P ops.toList vs st i).tm) (vs := fun i => (vs.getD i z3l).1) (Hs := fun i => (z2P ops.toList vs st i).H) (ns := fun i => (z2P ops.toList vs st i).nx) (isE := z2k ops) hm
  ⟨by rw [hz], by rw [hz], by rw [hz], ?_, ?_, hstill, b1, b2, b3, ?_, ?_, ?_⟩ ?_
 ·intro i o ho;rw [(e3 i o (toL i o ho)).2]
 ·intro i o ho;obtain ⟨⟨p1, p2⟩, p3⟩ := e3 i o (toL i o ho);have hlt : i < ops.size := (Array.getElem?_eq_some_iff.1 ho).1;refine ⟨fun d hd => by have := z1c p1 d hd; rwa [hnn i zom] at this, ?_⟩;simp only [z0k];rcases p2 with ⟨a, b, c, d⟩ | ⟨a, ⟨e, c1, _, _, c2, c3⟩ | ⟨_, c1, c2, c3⟩ | ⟨_, _, f, args, g1, g2, g3⟩⟩
  ·exact .inl ⟨a, b, by rw [p3, d], by rw [p3, c]⟩
  ·exact .inr ⟨a, .inl ⟨e, by rw [hev]; exact c1, by rw [p3, c3], by rw [p3, c2]⟩⟩
  ·exact .inr ⟨a, .inl ⟨.none, by rw [hev]; exact c1 _ _ (hextAll i zom), by rw [p3, c3]; rfl, by rw [p3, c2]; rfl⟩⟩
  ·refine .inr ⟨a, .inr (.inl ⟨f, args, by rw [z3D]; exact g1, g2, ?_⟩)⟩;rw [p3]; exact g3
 ·intro i j oj hi hj hoj hij hbetween;unfold z2k at hi hj;cases hoi : ops[i]? with
  | none => rw [hoi] at hi; cases hi
  | some oi =>
   rw [hoi] at hi;rw [hoj] at hj;simp only at hi hj;have := z0d _ _ (z0d _ _ q2 i oi (toL i oi hoi)) j oj (toL j oj hoj);simp only [Nat.zero_add, hi, hj, hij, decide_true, Bool.and_self, Bool.not_true, Bool.false_or, Bool.or_eq_true] at this;rcases this with h1 | h1
   ·exact ⟨3, z99 _ _ _ h1⟩
   ·rw [List.any_eq_true] at h1;obtain ⟨k, _, hk⟩ := h1;simp only [Bool.and_eq_true, decide_eq_true_eq] at hk;obtain ⟨⟨k1, k2⟩, k3⟩ := hk;have := hbetween k k1 k2;unfold z2k at this;cases hok : ops[k]? with
    | none => rw [hok] at k3; cases k3
    | some o => rw [hok] at this k3; simp only at this k3; rw [this] at k3; cases k3
 ·intro i oi p ho hE hw _ hple hdep hnot;obtain ⟨⟨p1, p2⟩, p3⟩ := e3 i oi (toL i oi ho);have hlt : i < ops.size := (Array.getElem?_eq_some_iff.1 ho).1;have hEo : z29 oi.op = false := by simpa [z2k, ho] using hE
  simp only [z0k] at hw
  have hcases : (aop P (z2P ops.toList vs st i).H (z2P ops.toList vs st i).nx (z2P ops.toList vs st i).ev oi = some ((vs.getD i z3l).1, .none) ∧ z6e ops i oi = true) ∨ (∀ H1 n1, K n1 H1 → aop P H1 n1 (z2P ops.toList vs st i).ev oi = some ((vs.getD i z3l).1, .none)) := by
   rcases p2 with ⟨a, _⟩ | ⟨_, ⟨e, c1, c2, _⟩ | ⟨_, c, _⟩ | ⟨g, _⟩⟩
   ·rw [hw] at a; cases a
   ·rw [z3d hEo c1] at c1; exact .inl ⟨c1, c2⟩
   ·exact .inr c
   ·rw [z5q g] at hEo; cases hEo
  show aop P _ _ (evR (z3j oi) (z2P ops.toList vs st i).tm) oi = _;rw [hev];rcases hcases with ⟨hop, hq⟩ | hst
  case inr => exact hst _ _ (hextAll p hple)
  unfold z6e at hq;simp only [hEo, Bool.false_or, Bool.or_eq_true] at hq;rcases hq with hf | hf
  ·rw [z2U (H' := (z2P ops.toList vs st i).H) (nx' := (z2P ops.toList vs st i).nx) hf]; exact hop
  ·have hrel : ∀ j, z2k ops j = true → (j < i → j < p) ∧ (i < j → p ≤ j) := by
    intro j hj;have hj' := hj;unfold z2k at hj;cases hoj : ops[j]? with
    | none => rw [hoj] at hj; cases hj
    | some oj =>
     rw [hoj] at hj;simp only at hj;have := z0d _ _ hf j oj (toL j oj hoj);simp only [Nat.zero_add, hj, Bool.not_true, Bool.false_or, Bool.or_eq_true] at this;rcases this with h1 | h1
     ·have hd := z0S.1 h1;have := b1 i oi ho j hd;exact ⟨fun _ => hdep j hj' hd, fun _ => by omega⟩
     ·have hd := z0S.1 h1;have := b1 j oj hoj i hd;refine ⟨fun _ => by omega, fun _ => ?_⟩;rcases Nat.lt_or_ge j p with c | c
      ·exact absurd hd (hnot j oj hj' c hoj)
      ·exact c
   have hsame : (z2P ops.toList vs st p).H = (z2P ops.toList vs st i).H ∧ (z2P ops.toList vs st p).nx = (z2P ops.toList vs st i).nx := by
    rcases Nat.le_total p i with c | c
    ·obtain ⟨m, rfl⟩ : ∃ m, i = p + m := ⟨i - p, zom⟩
     obtain ⟨a1, a2⟩ := hrange m p (fun j h1 h2 => by
      cases hj : z2k ops j with
      | false => rfl
      | true => have := (hrel j hj).1 h2; omega)
     exact ⟨a1.symm, a2.symm⟩
    ·obtain ⟨m, rfl⟩ : ∃ m, p = i + m := ⟨p - i, zom⟩
     exact hrange m i (fun j h1 h2 => by
      cases hj : z2k ops j with
      | false => rfl
      | true =>
       have hne : j ≠ i := fun x => by rw [x, hE] at hj; cases hj
       have := (hrel j hj).2 zom; omega)
   simp only [hsame.1, hsame.2];exact hop
 ·intro i hi;unfold z2k at hi;cases ho : ops[i]? with
  | none => rw [ho] at hi; cases hi
  | some o => exact (Array.getElem?_eq_some_iff.1 ho).1
 ·have hl : ops.toList.length = ops.size := by simp
  rw [hl] at e2;have hn := hnn ops.size (Nat.le_refl _);have : (⟨(z2P ops.toList vs st ops.size).tm, st.n, (z2P ops.toList vs st ops.size).H, (z2P ops.toList vs st ops.size).nx⟩ : ASt) = z2P ops.toList vs st ops.size := by rw [← hn]
  rw [this];exact e2
end
end Go.Am
