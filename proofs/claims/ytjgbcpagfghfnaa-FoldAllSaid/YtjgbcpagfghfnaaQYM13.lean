import Derived.Test.YtjgbcpagfghfnaaQYM12
set_option linter.unusedVariables false
set_option linter.unusedSimpArgs false
set_option linter.unnecessarySimpa false
namespace Go.Am
open Go.RowKit
section
variable {P : Program} {W0 : World} {ops : Array Oper}
def z7f : Op → Bool
 | .move _ | .assign _ | .pick .. | .build .. | .load .. | .nilCheck _ | .binOp .. | .unOp .. | .makeFunc .. | .lookup .. | .slice .. | .fieldAddr .. | .field .. | .indexAddr .. | .index .. | .extract .. => false
 | .call c => match c.callee with
  | .builtin .len | .builtin .min | .builtin .max | .builtin .cap => false
  | _ => true
 | _ => true
def z6n : Op → Bool
 | .move _ | .assign _ | .pick .. | .build .. | .unOp .. | .fieldAddr .. | .field .. | .indexAddr .. | .index .. | .extract .. | .nilCheck _ => true
 | .binOp op .. => op != .eql && op != .neq
 | _ => false
def z8N : Op → Bool
 | .call c => match c.callee with
  | .builtin _ => false
  | _ => true
 | _ => false
theorem z7J {ev : Operand → Option Value} {H : Heap} {nx : Nat} {o : Oper} {v : Value} {e : Eff} (h : z7f o.op = false) (hop : aop P H nx ev o = some (v, e)) : e = .none := by
 unfold aop at hop;cases ho : o.op <;> simp only [ho, z7f] at h hop <;> try (cases h; done)
 case call c =>
  cases hc : c.callee <;> simp only [hc] at h hop <;> try (cases h; done)
  rename_i b;simp only [Option.bind_eq_some_iff] at hop;obtain ⟨l, _, hl⟩ := hop;cases b <;> simp only at h <;> try (cases h; done)
  all_goals
   unfold z1o at hl;split at hl <;> simp_all [Option.map_eq_some_iff]
   all_goals (obtain ⟨_, _, _, h⟩ := hl; exact h.symm)
 case pick =>
  split at hop <;> simp_all [Option.map_eq_some_iff]
  all_goals (obtain ⟨_, _, _, h⟩ := hop; exact h.symm)
 case nilCheck =>
  split at hop <;> simp_all
 all_goals simp only [Option.bind_eq_some_iff, Option.map_eq_some_iff, Prod.mk.injEq] at hop
 all_goals first
  | (obtain ⟨_, _, _, rfl⟩ := hop; rfl)
  | (obtain ⟨_, _, _, _, _, rfl⟩ := hop; rfl)
  | (obtain ⟨_, _, _, _, _, _, _, rfl⟩ := hop; rfl)
  | (obtain ⟨_, _, _, _, _, _, _, _, _, _, _, rfl⟩ := hop; rfl)
  | (obtain ⟨_, _, _, _, _, _, _, _, _, _, _, _, _, rfl⟩ := hop; rfl)
theorem zdd {H H' : Heap} {op : BinOp} {t : TypeId} {x y : Operand} {a b : Value} (h : (op != .eql && op != .neq) = true) : z7a P H op t x y a b = z7a P H' op t x y a b := by
 unfold z7a;split
 ·rfl
 ·rfl
 ·split
  ·cases op <;> first | rfl | (simp at h)
  ·rfl
theorem z5W {ev : Operand → Option Value} {H H' : Heap} {nx nx' : Nat} {o : Oper} (h : z6n o.op = true) : aop P H nx ev o = aop P H' nx' ev o := by
 unfold aop;cases ho : o.op <;> simp only [ho, z6n] at h ⊢ <;> try (cases h; done)
 case binOp op t x y yt =>
  simp only [zdd (P := P) (H := H) (H' := H') h]
theorem z7S {ts : List Tmp} {tm : Nat → Value} {n nx : Nat} {H : Heap} {x : Operand} (h : ∀ t, x = .tmp t → t ∈ ts) : evR ts tm x = ASt.ev ⟨tm, n, H, nx⟩ x := by
 cases x with
 | tmp t => simp [evR, ASt.ev, h t rfl]
 | _ => rfl
theorem z6l {o : Oper} {t : Tmp} (h : Operand.tmp t ∈ o.op.operands.toList) : t ∈ z3V o := by
 unfold z3V;rw [List.mem_filterMap];exact ⟨.tmp t, h, rfl⟩
theorem z3G {ev ev' : Operand → Option Value} : ∀ (l : List Operand), (∀ x ∈ l, ev x = ev' x) → z1k ev l = z1k ev' l := by
 intro l
 induction l with
 | nil => intro _; rfl
 | cons x l ih =>
  intro h;simp only [z1k, h x (by simp), ih (fun y hy => h y (by simp [hy]))]
theorem z5l {ev ev' : Operand → Option Value} : ∀ (l : List (Nat × Operand)), (∀ x ∈ l, ev x.2 = ev' x.2) → zQ ev l = zQ ev' l := by
 intro l
 induction l with
 | nil => intro _; rfl
 | cons x l ih =>
  obtain ⟨i, x⟩ := x;intro h;simp only [zQ, h (i, x) (by simp), ih (fun y hy => h y (by simp [hy]))]
theorem z3F {ev ev' : Operand → Option Value} {o : Option Operand} (h : ∀ x, o = some x → ev x = ev' x) : z3Y ev o = z3Y ev' o := by
 cases o with
 | none => rfl
 | some x => simp only [z3Y, h x rfl]
theorem zd7 {ev ev' : Operand → Option Value} {H : Heap} {nx : Nat} {o : Oper} (h : ∀ x ∈ o.op.operands.toList, ev x = ev' x) : aop P H nx ev o = aop P H nx ev' o := by
 unfold aop;cases ho : o.op <;> simp only [ho, Op.operands] at h ⊢
 case call c =>
  cases hc : c.callee <;> simp only;rename_i b;rw [z3G c.args.toList (fun x hx => h x (by simp [Call.operands, hc]; first | exact hx | exact .inr hx | simpa using hx))]
 case build t ps => rw [z5l ps.toList (fun x hx => h x.2 (by simp; exact ⟨x.1, by simpa using hx⟩))]
 case buildSlice t n ps => rw [z5l ps.toList (fun x hx => h x.2 (by simp; exact ⟨x.1, by simpa using hx⟩))]
 case makeFunc fn first captured =>
  rw [z3G first.toList (fun x hx => h x (by simp; left; simpa using hx)), z3G captured.toList (fun x hx => h x (by simp; right; simpa using hx))]
 case makeMap t r => rw [z3F (fun x hx => h x (by simp [hx]))]
 case slice t x lo hi mx =>
  rw [h x (by simp), z3F (o := lo) (fun y hy => h y (by simp [hy])), z3F (o := hi) (fun y hy => h y (by simp [hy])), z3F (o := mx) (fun y hy => h y (by simp [hy]))]
 all_goals first
  | rfl
  | (rename_i x; rw [h x (by simp)]; done)
  | (rename_i t x; rw [h x (by simp)]; done)
  | (simp only [List.mem_cons, List.not_mem_nil, or_false, forall_eq_or_imp, forall_eq] at h; simp only [h]; done)
  | skip
theorem z5o {st : ASt} {o : Oper} {x : FuncId × List Value} (h : z1z st o = some x) : z8N o.op = true := by
 unfold z1z at h;split at h
 ·rename_i c ho;rw [ho];split at h
  ·rename_i y hc; simp [z8N, hc]
  ·cases h
 ·cases h
end
end Go.Am
namespace Go.Am
open Go.RowKit
section
variable {P : Program} {W0 : World} {ev : Operand → Option Value} {H : Heap} {nx n : Nat} {dst : Option Tmp} {type : TypeId} {pos : String} {after : Array Edge} {guard : Option (Nat × Bool)}
theorem z0C {t : TypeId} {ps : Array (Nat × Operand)} {l : List (Nat × Value)} {v : Value} (hl : zQ ev ps.toList = some l) (hb : zaL P t l = some v) :
  aop P H nx ev ⟨dst, .build t ps, type, pos, after, guard⟩ = some (v, .none) := by simp [aop, hl, hb]
theorem zE {t : TypeId} {len : Nat} {ps : Array (Nat × Operand)} {l : List (Nat × Value)} {r : Value × Eff} (hl : zQ ev ps.toList = some l) (hb : z2q P nx t len l = some r) :
  aop P H nx ev ⟨dst, .buildSlice t len ps, type, pos, after, guard⟩ = some r := by simp [aop, hl, hb]
theorem z6O {t : TypeId} {x : Operand} {lo hi mx : Option Operand} {v r : Value} {a b c : Option Value} (hx : ev x = some v) (ha : z3Y ev lo = some a) (hb : z3Y ev hi = some b) (hc : z3Y ev mx = some c) (h : z4Z P H t v a b c = some r) :
  aop P H nx ev ⟨dst, .slice t x lo hi mx, type, pos, after, guard⟩ = some (r, .none) := by simp [aop, hx, ha, hb, hc, h]
theorem z0m {t : TypeId} {l c : Operand} {a b : Value} {r : Value × Eff} (hl : ev l = some a) (hc : ev c = some b) (h : z2T P nx t a b = some r) :
  aop P H nx ev ⟨dst, .makeSlice t l c, type, pos, after, guard⟩ = some r := by simp [aop, hl, hc, h]
theorem z88 {t u : TypeId} {x y : Operand} {a b : Bool} (hx : ev x = some (.bool a)) (hy : ev y = some (.bool b)) (hu : P.underlying t = some .bool) :
  aop P H nx ev ⟨dst, .binOp .eql t x y u, type, pos, after, guard⟩ = some (.bool (a == b), .none) := by
 have : aEq P H 60 t (.bool a) (.bool b) = some (a == b) := by simp [aEq, hu]
 simp [aop, hx, hy, z7a, zer, this]
theorem zdJ {a : Addr} {cs : List Value} {e : Nat} {q : Option TypeId} {v : Value} (hH : H a.block = some (.cells cs e a.spot false q)) (h : a.off < cs.length) (h1 : v.oneCell' = true) : zbX H a [v] = some (.cells (cs.set a.off v) e a.spot false q) := by
 unfold zbX;rw [hH];simp only [List.length_cons, List.length_nil, List.all_cons, List.all_nil, h1, Bool.and_self, and_true, true_and];rw [if_pos (by omega), List.set_eq_take_append_cons_drop, if_pos h];simp
theorem z7L {b off : Nat} {t : Option Nat} {cs : List Value} {e : Nat} {ro : Bool} {q : Option TypeId} (hH : H b = some (.cells cs e t ro q)) (h : off < cs.length) : zf H ⟨b, off, t⟩ cs[off] := by
 unfold zf z1f;simp only [hH];rw [if_pos ⟨trivial, by omega⟩, List.take_one, List.head?_drop, List.getElem?_eq_getElem h];rfl
variable {ops : Array Oper} {l : List Oper} {tm : Nat → Value} {QQ : ASt → Prop}
theorem zaz {t : TypeId} {x y : Operand} {a : Addr} {v : Value} {cs : List Value} {e : Nat} {q : Option TypeId} (hx : ASt.ev ⟨tm, n, H, nx⟩ x = some (.pointer (some a))) (hy : ASt.ev ⟨tm, n, H, nx⟩ y = some v) (hz : z1W P t = some 1) (hv : v.cells = #[v]) (h1 : v.oneCell' = true)
  (hH : H a.block = some (.cells cs e a.spot false q)) (hlt : a.off < cs.length) (h : OpsL P W0 ops l ⟨tm, n, H.put a.block (.cells (cs.set a.off v) e a.spot false q), nx⟩ QQ) :
  OpsL P W0 ops (⟨none, .store t x y, type, pos, after, none⟩ :: l) ⟨tm, n, H, nx⟩ QQ :=
 OpsL.upd (z2C hx hy hz (by rw [hv]; rfl) (by rw [hv]; exact zdJ hH hlt h1)) h
theorem NumsAt.own {b : Nat} {t : Option Nat} {xs : List Int} {rest : List Value} {e c : Nat} {ro : Bool} {q : Option TypeId} (hH : H b = some (.cells (xs.map (.int .i64 ·) ++ rest) e t ro q)) : IntsAt H (.slice (some ⟨b, 0, t⟩) xs.length c) xs := by
 refine .inr ⟨⟨b, 0, t⟩, c, rfl, fun i hi => ?_⟩;have := z7L (off := 0 + i) hH (by simp; omega);simpa [List.getElem_append_left, hi] using this
theorem OwnInts.at {ob : Option (Nat × Nat)} {el : TypeId} {v : Value} {xs : List Int} (h : OwnInts H ob el v xs) : IntsAt H v xs := by
 cases ob with
 | none =>
  obtain ⟨rfl, h1, _⟩ := h;exact .inl ⟨0, rfl, by simpa using h1⟩
 | some bt =>
  obtain ⟨b, t⟩ := bt;obtain ⟨rfl, _, rest, ho⟩ := h;exact NumsAt.own ho
def Ext (nx : Nat) (H : Heap) (nx' : Nat) (H' : Heap) : Prop := nx ≤ nx' ∧ ∀ i, i < nx → H' i = H i
theorem Ext.refl : Ext nx H nx H := ⟨Nat.le_refl _, fun _ _ => rfl⟩
theorem Ext.trans {nx1 nx2 : Nat} {H1 H2 : Heap} (h : Ext nx H nx1 H1) (k : Ext nx1 H1 nx2 H2) : Ext nx H nx2 H2 := ⟨Nat.le_trans h.1 k.1, fun i hi => by rw [k.2 i (Nat.lt_of_lt_of_le hi h.1), h.2 i hi]⟩
theorem Ext.put {nx1 k : Nat} {H1 : Heap} {o : AObj} (h : Ext nx H nx1 H1) (hk : nx ≤ k) : Ext nx H nx1 (H1.put k o) := ⟨h.1, fun i hi => by rw [zj (by omega), h.2 i hi]⟩
theorem Ext.up {nx1 nx2 : Nat} {H1 : Heap} (h : Ext nx H nx1 H1) (hk : nx1 ≤ nx2) : Ext nx H nx2 H1 := ⟨Nat.le_trans h.1 hk, h.2⟩
theorem z2v {nx' : Nat} {H' : Heap} (h : Ext nx H nx' H') {a : Addr} {m : Nat} {vs : List Value} (hok : ∀ id o, H id = some o → id < nx) (hg : z1f H a m = some vs) : z1f H' a m = some vs := by
 obtain ⟨o, ho⟩ := z5c hg;unfold z1f at *;rw [h.2 _ (hok _ _ ho)];exact hg
theorem IntsAt.ext {nx' : Nat} {H' : Heap} {v : Value} {xs : List Int} (h : Ext nx H nx' H') (hok : ∀ id o, H id = some o → id < nx) (hi : IntsAt H v xs) : IntsAt H' v xs := by
 rcases hi with hi | ⟨a, c, rfl, hi⟩
 ·exact .inl hi
 ·exact .inr ⟨a, c, rfl, fun i q => z2v h hok (hi i q)⟩
theorem z8y {ob : Option (Nat × Nat)} {el : TypeId} {sz k j : Nat} {v : Value} {cs : List Value} {o : AObj} (h : OwnRow H ob el sz v cs k) (hne : ∀ b t, ob = some (b, t) → b ≠ j) : OwnRow (H.put j o) ob el sz v cs k := by
 cases ob with
 | none => exact h
 | some bt =>
  obtain ⟨b, t⟩ := bt;obtain ⟨h1, h2, rest, h3⟩ := h;exact ⟨h1, h2, rest, by rw [zj (hne b t rfl)]; exact h3⟩
theorem OwnRow.ext {nx' : Nat} {H' : Heap} {ob : Option (Nat × Nat)} {el : TypeId} {sz k : Nat} {v : Value} {cs : List Value} (hx : Ext nx H nx' H') (hlt : ∀ b t, ob = some (b, t) → b < nx) (h : OwnRow H ob el sz v cs k) : OwnRow H' ob el sz v cs k := by
 cases ob with
 | none => exact h
 | some bt =>
  obtain ⟨b, t⟩ := bt;obtain ⟨h1, h2, rest, h3⟩ := h;exact ⟨h1, h2, rest, by rw [hx.2 _ (hlt b t rfl)]; exact h3⟩
theorem z63 {d1 d2 dy : Tmp} {x : Operand} {st el ty1 ty2 : TypeId} {p1 p2 : String} {af1 af2 : Array Edge} {a : Int} {v : Value} {ob : Option (Nat × Nat)} {xs : List Int}
  (hd1 : d1 < n) (hd2 : d2 < n) (hx : ASt.ev ⟨tm, n, H, nx⟩ x = some (.int .i64 a)) (hne : dy ≠ d1) (hy : tm dy = v) (hv : OwnInts H ob el v xs) (hob : ∀ b t, ob = some (b, t) → b < nx)
  (hst : P.underlying st = some (.slice el)) (hsz : z1W P el = some 1) (hby : z0u P el = some 8) (hz : z0Y P el = some [.int .i64 0]) (hle : xs.length ≤ 1000000000)
  (h : ∀ v' ob' H', OwnInts H' ob' el v' (xs ++ [a]) → (∃ b, ob' = some (b, nx + 1) ∧ (b = nx + 1 ∨ ∃ t, ob = some (b, t))) → (∀ k, k < nx → (∀ b t, ob = some (b, t) → k ≠ b) → H' k = H k) →
   OpsL P W0 ops l ⟨zb (zb tm (some d1) (.slice (some ⟨nx, 0, none⟩) 1 1)) (some d2) v', n, H', nx + 1 + 1⟩ QQ) :
  OpsL P W0 ops (⟨some d1, .buildSlice st 1 #[(0, x)], ty1, p1, af1, none⟩ :: ⟨some d2, .call ⟨.builtin .append, #[.tmp dy, .tmp d1], #[st, st]⟩, ty2, p2, af2, none⟩ :: l) ⟨tm, n, H, nx⟩ QQ := by
 refine OpsL.new hd1 (z4p hx hst hsz hz) ?_;have hblk : ∀ b t, ob = some (b, t) → b ≠ nx := fun b t hb => by have := hob b t hb; omega
 refine OpsL.append (sz := 1) (bytes := 8) (k := xs.length) (m := 1) (cs := xs.map (.int .i64 ·)) (xs := [.int .i64 a]) (ob := ob) (u := .slice (some ⟨nx, 0, none⟩) 1 1) (xd := .slice el) (v := v) hd2 (by simp [ASt.ev, zb, hne, hy]) (by simp [ASt.ev, zb])
  (z8y hv hblk) (z5G (by exact zu) rfl (by omega)) rfl (by omega) hst hst rfl hsz hby hz rfl (by omega) (by omega) ?_
 refine h _ (some (z4P (nx + 1) ob, nx + 1)) _ ⟨by simp, by simp, [], ?_⟩ ⟨_, rfl, ?_⟩ ?_
 ·rw [zu]; simp
 ·cases ob with
  | none => exact .inl rfl
  | some bt => exact .inr ⟨bt.2, rfl⟩
 ·intro k hk hkb
  have h1 : k ≠ z4P (nx + 1) ob := by
   cases ob with
   | none => simp only [z4P]; omega
   | some bt => exact hkb bt.1 bt.2 rfl
  rw [zj h1, zj (by omega)]
def Bd (o : Option Value) (dflt k : Nat) : Prop := (o = none ∧ k = dflt) ∨ ∃ kd, o = some (.int kd k)
theorem Bd.bound {o : Option Value} {dflt k : Nat} (h : Bd o dflt k) : z5v o dflt = some k := by
 rcases h with ⟨rfl, rfl⟩ | ⟨kd, rfl⟩
 ·rfl
 ·simp [Am.z5v]
theorem zd4 {len cap l h : Nat} {lo hi : Option Value} (hl : Bd lo 0 l) (hh : Bd hi len h) (h1 : l ≤ h) (h2 : h ≤ cap) : z40 len cap lo hi none = some (l, h, cap) := by
 unfold z40;rw [hl.bound, hh.bound];simp [Am.z5v, h1, h2]
theorem z3N {t el : TypeId} {sz : Nat} {a : Addr} {len cap l h tg : Nat} {lo hi : Option Value} {o : AObj} (hu : P.underlying t = some (.slice el)) (hs : z1W P el = some sz) (ho : H a.block = some o) (ht : o.tag = some tg) (ha : a.spot = some tg) (he : o.esz = sz)
  (hl : Bd lo 0 l) (hh : Bd hi len h) (h1 : l ≤ h) (h2 : h ≤ len) : z4Z P H t (.slice (some a) len cap) lo hi none = some (.slice (some ⟨a.block, a.off + l * sz, if l = len ∧ 0 < l then none else some tg⟩) (h - l) (h - l)) := by
 unfold z4Z;simp only [hu, hs, ho, ht, ha, he, if_true, zd4 hl hh h1 h2, Option.map_some, Option.isSome_none, Bool.false_eq_true, ne_eq, not_true_eq_false, or_self, if_false]
theorem ACalls.ok {f : FuncId} {args : List Value} {R : Value → Nat → Heap → Prop} (h : ACalls P W0 f args nx H R) : ACalls P W0 f args nx H fun v nx' H' => R v nx' H' ∧ ∀ id o, H' id = some o → id < nx' := fun C w args' hR ha => by
 refine (h C w args' hR ha).mono ?_;rintro e w' ⟨v, v', C', nx', H', h1, h2, hR', h4⟩;exact ⟨v, v', C', nx', H', h1, ⟨h2, fun id o ho => (hR'.lt id o ho).1⟩, hR', h4⟩
theorem OpsL.storeAt {t : TypeId} {x y : Operand} {a : Addr} {v : Value} {cs cs' : List Value} {e : Nat} {q : Option TypeId} (j : Nat) (hx : ASt.ev ⟨tm, n, H, nx⟩ x = some (.pointer (some a))) (hy : ASt.ev ⟨tm, n, H, nx⟩ y = some v) (hz : z1W P t = some 1) (hv : v.cells = #[v]) (h1 : v.oneCell' = true)
  (hH : H a.block = some (.cells cs e a.spot false q)) (hj : a.off = j) (hlt : j < cs.length) (hcs : cs.set j v = cs') (h : OpsL P W0 ops l ⟨tm, n, H.put a.block (.cells cs' e a.spot false q), nx⟩ QQ) :
  OpsL P W0 ops (⟨none, .store t x y, type, pos, after, none⟩ :: l) ⟨tm, n, H, nx⟩ QQ := by
 subst hj; subst hcs;exact zaz hx hy hz hv h1 hH hlt h
theorem z3A (l : List Int) (i : Nat) (v : Int) : (l.map (Value.int .i64 ·)).set i (.int .i64 v) = (l.set i v).map (Value.int .i64 ·) := by rw [List.map_set]
theorem z8z {j : Nat} {want : Bool} {d d' : Tmp} {op : Op} (hj : (ops[j]?).bind (·.dst) = some d') (hb : tm d' = undef) (hd : d < n) (h : OpsL P W0 ops l ⟨zb tm (some d) undef, n, H, nx⟩ QQ) :
  OpsL P W0 ops (⟨some d, op, type, pos, after, some (j, want)⟩ :: l) ⟨tm, n, H, nx⟩ QQ := by
 refine ⟨by simp [z1B, hd], .inl ⟨?_, h⟩⟩;simp [z18, hj, hb, undef]
theorem zea {t u : TypeId} {k : IntKind} {x y : Operand} {a b : Int} (hx : ev x = some (.int k a)) (hy : ev y = some (.int k b)) (h : a < b) :
  aop P H nx ev ⟨dst, .binOp .lss t x y u, type, pos, after, guard⟩ = some (.bool true, .none) := by rw [zad hx hy]; simp only [h, decide_true, decide_false, not_false_eq_true, not_true_eq_false]
theorem zeb {t u : TypeId} {k : IntKind} {x y : Operand} {a b : Int} (hx : ev x = some (.int k a)) (hy : ev y = some (.int k b)) (h : ¬ (a < b)) :
  aop P H nx ev ⟨dst, .binOp .lss t x y u, type, pos, after, guard⟩ = some (.bool false, .none) := by rw [zad hx hy]; simp only [h, decide_true, decide_false, not_false_eq_true, not_true_eq_false]
theorem zbc {t u : TypeId} {k : IntKind} {x y : Operand} {a b : Int} (hx : ev x = some (.int k a)) (hy : ev y = some (.int k b)) (h : b < a) :
  aop P H nx ev ⟨dst, .binOp .gtr t x y u, type, pos, after, guard⟩ = some (.bool true, .none) := by rw [zae hx hy]; simp only [h, decide_true, decide_false, not_false_eq_true, not_true_eq_false]
theorem zbd {t u : TypeId} {k : IntKind} {x y : Operand} {a b : Int} (hx : ev x = some (.int k a)) (hy : ev y = some (.int k b)) (h : ¬ (b < a)) :
  aop P H nx ev ⟨dst, .binOp .gtr t x y u, type, pos, after, guard⟩ = some (.bool false, .none) := by rw [zae hx hy]; simp only [h, decide_true, decide_false, not_false_eq_true, not_true_eq_false]
theorem z54 {t u : TypeId} {k : IntKind} {x y : Operand} {a b : Int} (hx : ev x = some (.int k a)) (hy : ev y = some (.int k b)) (h : b ≤ a) :
  aop P H nx ev ⟨dst, .binOp .geq t x y u, type, pos, after, guard⟩ = some (.bool true, .none) := by rw [zaf hx hy]; simp only [h, decide_true, decide_false, not_false_eq_true, not_true_eq_false]
theorem z55 {t u : TypeId} {k : IntKind} {x y : Operand} {a b : Int} (hx : ev x = some (.int k a)) (hy : ev y = some (.int k b)) (h : ¬ (b ≤ a)) :
  aop P H nx ev ⟨dst, .binOp .geq t x y u, type, pos, after, guard⟩ = some (.bool false, .none) := by rw [zaf hx hy]; simp only [h, decide_true, decide_false, not_false_eq_true, not_true_eq_false]
theorem z2c {t u : TypeId} {k : IntKind} {x y : Operand} {a b : Int} (hx : ev x = some (.int k a)) (hy : ev y = some (.int k b)) (h : ¬ (a = b)) :
  aop P H nx ev ⟨dst, .binOp .eql t x y u, type, pos, after, guard⟩ = some (.bool false, .none) := by rw [zag hx hy]; simp only [h, decide_true, decide_false, not_false_eq_true, not_true_eq_false]
theorem zbb {t u : TypeId} {k : IntKind} {x y : Operand} {a b : Int} (hx : ev x = some (.int k a)) (hy : ev y = some (.int k b)) (h : a ≠ b) :
  aop P H nx ev ⟨dst, .binOp .neq t x y u, type, pos, after, guard⟩ = some (.bool true, .none) := by rw [zcH hx hy]; simp [h]
theorem z87 {t u : TypeId} {k : IntKind} {x y : Operand} {a b : Int} (hx : ev x = some (.int k a)) (hy : ev y = some (.int k b)) (h : a = b) :
  aop P H nx ev ⟨dst, .binOp .neq t x y u, type, pos, after, guard⟩ = some (.bool false, .none) := by rw [zcH hx hy]; simp [h]
def bs (s : ByteArray) : List Int := s.data.toList.map fun b => (b.toNat : Int)
theorem zec {t u : TypeId} {x y : Operand} {a b : Array Value} {r : Bool} (hx : ev x = some (.agg a)) (hy : ev y = some (.agg b)) (hg : P.eqGuardType P.depth t = false) (he : aEq P H 60 t (.agg a) (.agg b) = some r) :
  aop P H nx ev ⟨dst, .binOp .eql t x y u, type, pos, after, guard⟩ = some (.bool r, .none) := by simp [aop, hx, hy, z7a, zer, hg, he]
theorem z5C {t : TypeId} {x : Operand} {v : Value} (hx : ev x = some v) : aop P H nx ev ⟨dst, .box t x, type, pos, after, guard⟩ = some (.pointer (some ⟨nx, 0, none⟩), .new (.cells v.cells.toList 0 none false (some t))) := by simp [aop, hx]
theorem zcG {t u : TypeId} {k : IntKind} {x y : Operand} {a b : Int} (hx : ev x = some (.int k a)) (hy : ev y = some (.int k b)) (hb : b ≠ 0) :
  aop P H nx ev ⟨dst, .binOp .rem t x y u, type, pos, after, guard⟩ = some (.int k (a.tmod b), .none) := by simp [aop, hx, hy, z7a, z1h, hb]
end
end Go.Am
namespace Go.Am
open Go.RowKit
section
variable {P : Program} {W0 : World} {ops : Array Oper}
def zfc (ops : Array Oper) (k : Nat) (o : Oper) : Bool :=
 z7f o.op || z6n o.op || z41 (fun j oj => !z7f oj.op || zca o j || zca oj k) 0 ops.toList
variable {nx0 : Nat} {H0 : Heap}
section
variable {k : Nat} {type : TypeId} {pos : String} {after : Array Edge} {l : List Oper} {tm : Nat → Value} {n nx nx' : Nat} {H H' : Heap} {v : Value} {QQ : ASt → Prop} {f : FuncId} {d : Tmp} {ts : Array TypeId}
end
def zch (ops : Array Oper) : Nat → Oper → Nat → Bool
 | 0, o, i => zca o i
 | n + 1, o, i => zca o i || (List.range ops.size).any fun m => zca o m && (match ops[m]? with | some om => zch ops n om i | none => false)
theorem zd1 {ops : Array Oper} : ∀ (n : Nat) (o : Oper) (i : Nat), zch ops n o i = true → zgM ops n o i := by
 intro n
 induction n with
 | zero => intro o i h; exact z2w.1 h
 | succ n ih =>
  intro o i h;simp only [zch, Bool.or_eq_true, List.any_eq_true, Bool.and_eq_true] at h;rcases h with h | ⟨m, _, h1, h2⟩
  ·exact .inl (z2w.1 h)
  ·cases ho : ops[m]? with
   | none => rw [ho] at h2; cases h2
   | some om => rw [ho] at h2; exact .inr ⟨m, om, ho, z2w.1 h1, ih om i h2⟩
theorem z7H {o : Op} (h : z8N o = true) : z7f o = true := by
 cases o <;> simp only [z8N] at h <;> try (cases h; done)
 rename_i c;cases hc : c.callee <;> simp [z8N, hc] at h <;> simp [z7f, hc]
theorem z5p {st : ASt} {o : Oper} : z44 (evR (z3V o) st.tm) o = z1z st o := by
 unfold z44 z1z;cases ho : o.op <;> simp only;rename_i c;cases hc : c.callee <;> simp only;rename_i x
 have hm : ∀ y, y = x ∨ y ∈ c.args.toList → evR (z3V o) st.tm y = st.ev y := fun y hy =>
  z7S (n := st.n) (nx := st.nx) (H := st.H) (fun t ht => z6l (by
   rw [ho, ← ht];simp only [Op.operands, Call.operands, hc];rcases hy with rfl | hy
   ·simp
   ·simp; right; simpa using hy))
 rw [hm x (.inl rfl), z3G c.args.toList (fun y hy => hm y (.inr hy))];rfl
end
end Go.Am
namespace Go.Am
open Go.RowKit
section
variable {P : Program} {W0 : World} {ops : Array Oper}
def z1E (P : Program) (W0 : World) (ops : Array Oper) (K : Nat → Heap → Prop) : Nat → List Oper → ASt → (ASt → Prop) → Prop
 | _, [], st, Q => Q st
 | k, o :: l, st, Q => z1B st o = true ∧ ((z18 ops st o = false ∧ z1E P W0 ops K (k + 1) l (st.put o.dst undef .none) Q) ∨ (z18 ops st o = true ∧
   ((∃ v e, aop P st.H st.nx st.ev o = some (v, e) ∧ zfc ops k o = true ∧ (z7f o.op = true → K (e.nx st.nx) (e.H st.nx st.H)) ∧ z1E P W0 ops K (k + 1) l (st.put o.dst v e) Q) ∨
    (∃ v, z7f o.op = false ∧ (∀ H' nx', K nx' H' → aop P H' nx' st.ev o = some (v, .none)) ∧ z1E P W0 ops K (k + 1) l (st.put o.dst v .none) Q) ∨
    (∃ f args v nx' H', z1z st o = some (f, args) ∧ z1G P f ∧ ACalls P W0 f args st.nx st.H (fun v1 n1 H1 => v1 = v ∧ n1 = nx' ∧ H1 = H') ∧ K nx' H' ∧ z1E P W0 ops K (k + 1) l ⟨zb st.tm o.dst v, st.n, H', nx'⟩ Q))))
variable {K : Nat → Heap → Prop}
section
variable {k : Nat} {type : TypeId} {pos : String} {after : Array Edge} {l : List Oper} {tm : Nat → Value} {n nx nx' : Nat} {H H' : Heap} {v : Value} {QQ : ASt → Prop} {f : FuncId} {d : Tmp} {ts : Array TypeId}
end
end
end Go.Am
namespace Go.Am
open Go.RowKit
def zcg (o : Oper) : List Nat := o.after.toList.filterMap fun e => if Region.binds .any e then some e.on else none
theorem z9b {o : Oper} {j : Nat} (h : j ∈ zcg o) : dep o j := by
 unfold zcg at h;rw [List.mem_filterMap] at h;obtain ⟨e, he, h⟩ := h;split at h
 ·rename_i hb;simp only [Option.some.injEq] at h;exact ⟨e, by simpa using he, hb, h⟩
 ·cases h
def zgk (ops : Array Oper) (o : Oper) : List Nat :=
 (List.range ops.size).reverse.foldl (fun S k => if S.any (Nat.beq k) then S ++ (match ops[k]? with | some ok => zcg ok | none => []) else S) (zcg o)
def z7x (ops : Array Oper) (j i : Nat) : Bool := match ops[j]? with | some oj => zch ops 4 oj i || (zgk ops oj).any (Nat.beq i) | none => false
def z79 (ops : Array Oper) (j i : Nat) : Bool := match ops[j]? with | some oj => zca oj i | none => false
def z2G (ops : Array Oper) (l : List Nat) (i : Nat) : Bool := l.all fun j => !z79 ops i j
def z8G (ops : Array Oper) (acts : List Nat) (i : Nat) (o : Oper) (l : List Nat) : Bool := z6n o.op || l.all fun j => !acts.contains j || z7x ops j i
def ActStep (P : Program) (W0 : World) (ops : Array Oper) (acts : List Nat) (K : Nat → Heap → Prop) (i : Nat) (st : ASt) (N : ASt → Prop) : Prop :=
 ∃ o, ops[i]? = some o ∧ z1B st o = true ∧ acts.contains i = true ∧
  ((z18 ops st o = false ∧ N (st.put o.dst undef .none)) ∨
   (z18 ops st o = true ∧
    ((∃ v e, aop P st.H st.nx st.ev o = some (v, e) ∧ K (e.nx st.nx) (e.H st.nx st.H) ∧ N (st.put o.dst v e)) ∨
    (∃ f args R, z1z st o = some (f, args) ∧ z1G P f ∧ ACalls P W0 f args st.nx st.H R ∧ ∀ v nx' H', R v nx' H' → K nx' H' ∧ N ⟨zb st.tm o.dst v, st.n, H', nx'⟩))))
def OpsR (P : Program) (W0 : World) (ops : Array Oper) (acts : List Nat) (K : Nat → Heap → Prop) : Nat → List Nat → ASt → (ASt → Prop) → Prop
 | _, [], st, Q => Q st
 | 0, _ :: _, _, _ => False
 | m + 1, i :: l, st, Q =>
  (acts.contains i = false ∧ z2G ops l i = true ∧ ∃ o, ops[i]? = some o ∧ z1B st o = true ∧
   ((z18 ops st o = false ∧ OpsR P W0 ops acts K m l (st.put o.dst undef .none) Q) ∨
    (z18 ops st o = true ∧ ∃ v, aop P st.H st.nx st.ev o = some (v, .none) ∧ (z8G ops acts i o l = true ∨ ∀ H' nx', K nx' H' → aop P H' nx' st.ev o = some (v, .none)) ∧ OpsR P W0 ops acts K m l (st.put o.dst v .none) Q))) ∨
  (∀ j ∈ i :: l, z2G ops ((i :: l).erase j) j = true → ActStep P W0 ops acts K j st fun s => OpsR P W0 ops acts K m ((i :: l).erase j) s Q)
section
variable {P : Program} {W0 : World} {ops : Array Oper} {acts : List Nat} {K : Nat → Heap → Prop}
theorem z45 {st : ASt} {o : Oper} {H : Heap} {nx : Nat} : aop P H nx (evR (z3V o) st.tm) o = aop P H nx st.ev o :=
 zd7 (fun x hx => z7S (n := st.n) (nx := st.nx) (H := st.H) (fun t ht => z6l (by rw [← ht]; exact hx)))
theorem z1l {l : List Nat} {i : Nat} : z2G ops l i = true ↔ ∀ j ∈ l, z79 ops i j = false := by
 unfold z2G;rw [List.all_eq_true];constructor
 ·intro h j hj; have := h j hj; simpa using this
 ·intro h j hj; simp [h j hj]
def zgN (P : Program) (ops : Array Oper) (acts : List Nat) (K : Nat → Heap → Prop) (L : List Nat) (T : Nat → Value) (n : Nat) (H : Heap) (nx : Nat) (i : Nat) (o : Oper) : Prop :=
 (∀ d, o.dst = some d → d < n) ∧ ∃ val, (∀ d, o.dst = some d → T d = val) ∧ ((z2m ops T o = false ∧ val = undef) ∨
  (z2m ops T o = true ∧ aop P H nx (evR (z3V o) T) o = some (val, .none) ∧ ((∀ j ∈ L, acts.contains j = true → z7x ops j i = true) ∨ ∀ H' nx', K nx' H' → aop P H' nx' (evR (z3V o) T) o = some (val, .none))))
variable {D L : List Nat} {listed : Array Bool} {tm T : Nat → Value} {n nx : Nat} {H : Heap}
theorem z9k (down : ∀ (i : Nat) (o : Oper), ops[i]? = some o → listed.getD i false = true → ∀ j, dep o j → listed.getD j false = true) : ∀ (m : Nat) (o : Oper) (i : Nat), (∀ j, dep o j → listed.getD j false = true) → zgM ops m o i → listed.getD i false = true := by
 intro m
 induction m with
 | zero => intro o i ha hd; exact ha i hd
 | succ m ihm =>
  intro o i ha hd;rcases hd with hd | ⟨k, ok, hok, hdk, hd⟩
  ·exact ha i hd
  ·exact ihm ok i (fun j hj => down k ok hok (ha k hdk) j hj) hd
theorem z72 (down : ∀ (i : Nat) (o : Oper), ops[i]? = some o → listed.getD i false = true → ∀ j, dep o j → listed.getD j false = true) {i j : Nat} {o : Oper} (ho : ops[j]? = some o) (hall : ∀ k, dep o k → listed.getD k false = true) (h : z7x ops j i = true) : listed.getD i false = true := by
 unfold z7x at h;rw [ho] at h;rcases Bool.or_eq_true _ _ ▸ h with h | h
 ·exact z9k down 4 o i hall (zd1 _ _ _ h)
 ·have key : ∀ (l : List Nat) (S : List Nat), (∀ x ∈ S, listed.getD x false = true) → ∀ x ∈ l.foldl (fun S k => if S.any (Nat.beq k) then S ++ (match ops[k]? with | some ok => zcg ok | none => []) else S) S, listed.getD x false = true := by
   intro l
   induction l with
   | nil => intro S hS x hx; exact hS x hx
   | cons k l ih =>
    intro S hS x hx;refine ih _ (fun y hy => ?_) x hx;dsimp only at hy;split at hy
    ·rename_i hk;rw [List.any_eq_true] at hk;obtain ⟨z, hz, hkz⟩ := hk;have hkz := Nat.eq_of_beq_eq_true hkz;subst hkz;rcases List.mem_append.1 hy with hy | hy
     ·exact hS y hy
     ·split at hy
      ·rename_i ok hok;exact down _ ok hok (hS _ hz) y (z9b hy)
      ·cases hy
    ·exact hS y hy
  rw [List.any_eq_true] at h;obtain ⟨z, hz, hiz⟩ := h;have hiz := Nat.eq_of_beq_eq_true hiz;subst hiz;exact key _ _ (fun x hx => hall x (z9b hx)) _ hz
theorem zb6 {ρ : Option Nat} {C : Corr} {o : Oper} {f : FuncId} {args : List Value} {R : Value → Nat → Heap → Prop} {a : Act} {w : World} {i : Nat} {KK : Act → World → Prop} {Q : Exit → Act → World → Prop} (hs : SRel W0 C ⟨tm, n, H, nx⟩ a w) (hd : ∀ d, o.dst = some d → d < n) (hw : z2m ops tm o = true)
  (hc : z44 (evR (z3V o) tm) o = some (f, args)) (hf : z1G P f) (hcall : ACalls P W0 f args nx H R) (ho : ops[i]? = some o)
  (hk : ∀ v nx' H' C' v' w', R v nx' H' → SRel W0 C' ⟨zb tm o.dst v, n, H', nx'⟩ (a.put o.dst v') w' → Stp nx H C nx' H' C' → KK (a.put o.dst v') w') : wpOpIn (rf ρ) 0 P ops Q i KK a w := by
 have hww := z1S hs ops o;rw [← z0Q] at hww;unfold wpOpIn;rw [ho];simp only [hww, hw, if_true];refine ⟨fun _ _ => trivial, ?_⟩;have hE' := z3L hs (zcm _ _) hc;obtain ⟨args', hrun, hargs⟩ := z3c hs hE' hf;rw [z3d hE', hrun];refine ⟨fun h => (by cases h), z4E ((hcall C w args' hs.rel hargs).mono ?_)⟩;rintro e w'' ⟨v0, v', C', nx1, H1, rfl, hr, hR, hv, hS⟩;exact hk v0 nx1 H1 C' v' w'' hr (hs.put hd hR hS hv) hS
/-! ### one operation each -/
theorem OpsR.nil {m : Nat} {st : ASt} {Q : ASt → Prop} (h : Q st) : OpsR P W0 ops acts K m [] st Q := by cases m <;> exact h
theorem OpsR.one {m i : Nat} {l : List Nat} {o : Oper} {st : ASt} {Q : ASt → Prop} (ho : ops[i]? = some o) (hn : acts.contains i = false) (he : z7f o.op = false) (hk : (z2G ops l i && z8G ops acts i o l) = true) (h : OpsL P W0 ops [o] st fun s => OpsR P W0 ops acts K m l s Q) : OpsR P W0 ops acts K (m + 1) (i :: l) st Q := by
 rw [Bool.and_eq_true] at hk;obtain ⟨hd, h⟩ := h;refine .inl ⟨hn, hk.1, o, ho, hd, ?_⟩;rcases h with ⟨hw, h⟩ | ⟨hw, ⟨v, e, hop, h⟩ | ⟨f, args, R, hc, _⟩⟩
 ·exact .inl ⟨hw, h⟩
 ·have := z7J he hop;subst this;exact .inr ⟨hw, v, hop, .inl hk.2, h⟩
 ·have := z7H (z5o hc);rw [he] at this;cases this
def z5x (ops : Array Oper) (l all : List Nat) : Bool := l.all fun j => (all.erase j).any fun k => z79 ops j k
theorem z4g {l all : List Nat} (h : z5x ops l all = true) {j : Nat} (hj : j ∈ l) : z2G ops (all.erase j) j = false := by
 unfold z5x at h;rw [List.all_eq_true] at h;have := h j hj;rw [List.any_eq_true] at this;obtain ⟨k, hk, hd⟩ := this;cases hf : z2G ops (all.erase j) j with
 | false => rfl
 | true => rw [z1l.1 hf k hk] at hd; cases hd
theorem zef {m i : Nat} {l : List Nat} {st : ASt} {Q : ASt → Prop} (hw : z5x ops l (i :: l) = true) (h : ActStep P W0 ops acts K i st fun s => OpsR P W0 ops acts K m l s Q) : OpsR P W0 ops acts K (m + 1) (i :: l) st Q := by
 refine .inr fun j hj hf => ?_;by_cases e : j = i
 ·subst e;rw [List.erase_cons_head];exact h
 ·have hj2 : j ∈ l := by
   rcases List.mem_cons.1 hj with h | h
   ·exact absurd h e
   ·exact h
  rw [z4g hw hj2] at hf;cases hf
section
variable {i : Nat} {d : Tmp} {ts : Array TypeId} {type : TypeId} {pos : String} {after : Array Edge} {tm : Nat → Value} {n nx : Nat} {H : Heap} {f : FuncId} {R : Value → Nat → Heap → Prop} {N : ASt → Prop}
end
end
end Go.Am
