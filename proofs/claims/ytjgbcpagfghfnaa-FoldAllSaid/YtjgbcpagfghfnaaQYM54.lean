import Derived.Test.YtjgbcpagfghfnaaQYM18
import Derived.Test.YtjgbcpagfghfnaaQYM16
import Derived.Deep.SlicePairs
set_option linter.unusedVariables false
set_option linter.unusedSimpArgs false
set_option linter.unnecessarySimpa false
namespace Go.Am
open Go.RowKit
section
variable {P : Program} {W0 : World} {C : Corr} {nx : Nat} {H : Heap} {w : World}
theorem zau (hR : Rel W0 C nx H w) {args : Array TypeId} {ty st xt elem : TypeId} {xd : TypeDesc} {size bytes n len tg b cap : Nat} {z cc old xs : List Value} {s' x x' : Value}
  (ha0 : args[0]? = some st) (ha1 : args[1]? = some xt) (hst : P.underlying st = some (.slice elem)) (hxt : P.underlying xt = some xd) (hni : z2J xd = true) (hsz : z1W P elem = some size) (hby : z0u P elem = some bytes) (hzo : z0Y P elem = some z) (hzl : z.length = size)
  (hsrc : z2V H size x none = some (n, xs)) (hone : xs.all (·.oneCell') = true) (ho : H b = some (.cells (cc ++ old) size (some tg) false (some elem))) (hcl : cc.length = len * size)
  (hb1 : len + n ≤ 1099511627776) (hb2 : (2 * (len + n) + 192) * bytes ≤ 281474976710656)
  (hs : VR nx H C (.slice (some ⟨b, 0, some tg⟩) len cap) s') (hx : VR nx H C x x') :
  Snd W0 C nx H ((Builtin.append_ args ty #[s', x']).run P w) (.slice (some ⟨b, 0, some tg⟩) (len + n) (len + n)) (.upd b (.cells (cc ++ xs ++ old.drop xs.length) size (some tg) false (some elem))) ∨
  Snd W0 C nx H ((Builtin.append_ args ty #[s', x']).run P w) (.slice (some ⟨nx, 0, some nx⟩) (len + n) (len + n)) (.new (.cells (cc ++ xs) size (some nx) false (some elem))) := by
 obtain ⟨m, l', hlen, hnm, hxs, hxl, hfc⟩ := z4h (P := P) hR hsrc hx;simp only [cut] at hnm;subst hnm;cases hs with
 | slc _ _ _ b' cap' k1 k2 =>
 obtain ⟨rfl, k4⟩ := k2 _ ho rfl
 have hold : z1f H ⟨b, 0, some tg⟩ (len * size) = some cc := by
  unfold z1f;simp only [ho];rw [if_pos ⟨trivial, by rw [List.length_append]; omega⟩];simp [← hcl]
 simp only [z27, AObj.esz] at k4;obtain ⟨k5, k6⟩ := k4;obtain ⟨vs', hv, hvl, hvc⟩ := z1Y hR hold;obtain ⟨Cc, el, fr, r1, r2, r3, r4, r5⟩ := hR.obj _ _ ho;have hidlt := (hR.lt _ _ ho).1;by_cases hroom : len + n ≤ cap'
 ·refine .inl ?_;have hmul : len * size + n * size ≤ cap' * size := by rw [← Nat.add_mul]; exact Nat.mul_le_mul_right _ hroom
  obtain ⟨w', Cc', e1, e2, e3, e4, e5, e6, e7, e8, e9, e10⟩ := z2x (P := P) (C.loc b).1 ((C.loc b).2 + 0 + len * size) el fr l' 0 Cc w r1 (by rw [← hxs.1, hxl, r2]; omega) (r5.1 rfl).no (hxs.all_one hone)
  have hrun : (Builtin.append_ args ty #[.slice (some (C.at ⟨b, 0, some tg⟩)) len cap', x']).run P w = .ok (.slice (some (C.at ⟨b, 0, some tg⟩)) (len + n) cap') w' := by
   have hin := z1u (ty := ty) (base := some (C.at ⟨b, 0, some tg⟩)) (len := len) (cap := cap') (w := w) ha0 ha1 hst hxt hni hsz hroom hlen hfc;simp only at hin;rw [hin];have hat : (C.at ⟨b, 0, some tg⟩).add (len * size) = ⟨(C.loc b).1, (C.loc b).2 + 0 + len * size, none⟩ := by simp [Corr.at, z0K]
   rw [hat, e1];rfl
  have hbel : BelD W0.heap.size W0 w' := hR.below.trans ⟨e7, e8, e9, by omega, fun k hk => e5 k (by have := hR.own _ _ ho rfl; omega), Nat.le_of_eq e10.symm⟩
  have key := hR.set (nx' := nx) (w' := w') b _ (.cells (cc ++ xs ++ old.drop xs.length) size (some tg) false (some elem)) (C.loc b) (C.siz b) ho rfl (by omega) (.inl ⟨rfl, rfl, rfl, rfl⟩) (.inl rfl) (fun _ => rfl) hbel
   (fun k _ hk => e5 k hk) ?_
  ·refine ⟨_, w', _, hrun, key.1, key.2, ?_⟩;refine .slc _ _ _ _ _ k1 (fun o ho' _ => ⟨by simp [Corr.at, Corr.put], ?_⟩);simp only [Eff.H, Heap.put, if_true, Option.some.injEq] at ho';subst ho';simp only [z27, Corr.put, if_true, AObj.esz];exact ⟨hroom, k6⟩
  ·rintro C' rfl hst';refine ⟨Cc', el, fr, by simpa [Corr.put] using e2, by simp [Corr.put, e3, r2], ?_, ?_, ⟨fun _ => (by rw [e3]; exact r5.1 rfl), r5.2.1, fun _ ht => (by cases ht), fun _ => r5.2.2.2 rfl⟩⟩
   ·rw [List.length_append] at r3;simp only [Corr.put, if_true, List.length_append, List.length_drop, hv.1, hvl, hxl, e3];have : l'.length = n * size := by rw [← hxs.1]; exact hxl
    have := hv.1;have := r3;rw [r2] at *;omega
   ·intro i hi hi';simp only [Corr.put, if_true] at hi' ⊢;by_cases hin : (cc ++ xs).length ≤ i
    ·have hia : i < (cc ++ old).length := by
      rw [List.length_append, List.length_append, List.length_drop] at hi;rw [List.length_append] at hin ⊢;omega
     have hio : (C.loc b).2 + i < Cc.size := by omega
     have h4 := (r4 i hia hio).mono hst';have hl' : l'.length = xs.length := hxs.1.symm;rw [List.length_append] at hin;have hcc := hv.1
     have e9 : (cc ++ xs ++ old.drop xs.length)[i] = (cc ++ old)[i] := by
      rw [List.getElem_append_right (by rw [List.length_append]; omega), List.getElem_append_right (by omega)];simp only [List.getElem_drop, List.length_append];congr 1;omega
     have e8 : Cc'[(C.loc b).2 + i] = Cc[(C.loc b).2 + i] := by
      apply Option.some.inj;rw [← Array.getElem?_eq_getElem hi', e4, ← Array.getElem?_eq_getElem hio];rw [if_neg (by rw [hl']; omega)]
     rw [e9, e8];exact h4
    have hin2 : i < (cc ++ xs).length := by omega
    rw [List.getElem_append_left hin2];have hvx := (hv.append hxs).mono hst';have hi2 : i < (vs' ++ l').length := by rw [← (hv.append hxs).1]; exact hin2
    have := hvx.2 i hin2 hi2
    have heq : Cc'[(C.loc b).2 + i] = (vs' ++ l')[i] := by
     apply Option.some.inj;rw [← Array.getElem?_eq_getElem hi', e4];rw [← List.getElem?_eq_getElem hi2];by_cases c1 : i < len * size
     ·rw [if_neg (by omega), List.getElem?_append_left (by omega)];have := hvc i c1;simp only [Corr.at, z0K, World.cell?, r1, Nat.add_zero] at this;simpa using this
     ·have hi3 := hi2;rw [List.length_append, hvl] at hi3;rw [if_pos (by omega), List.getElem?_append_right (by omega), hvl];congr 1; omega
    rw [heq];exact this
 ·refine .inr ?_
  obtain ⟨c, hcn, hrun⟩ := z1I (ty := ty) (base := some (C.at ⟨b, 0, some tg⟩)) (len := len) (cap := cap') (old := vs') (w := w) ha0 ha1 hst hxt hni hsz hby hzo (by omega) hb1 hb2 hlen hfc
   (fun w' hw' => by simp only [Builtin.firstCells]; exact z0R hvl (fun i hi => by rw [z3p hw']; exact hvc i hi))
  obtain ⟨C', hC, h1, h2⟩ := z2g hR.drew (hv.append hxs) elem size (rep (c - (len + n)) z) (some nx) (by simp) (by simp);refine ⟨_, _, C', hrun, by simpa [Eff.H, Eff.nx] using h1, h2, ?_⟩;rw [hC];refine .slc _ _ _ _ _ ⟨by simp [Eff.nx], by simp [Eff.nx]⟩ (fun o ho' _ => ⟨by simp [Corr.at, Corr.put], ?_⟩);simp only [Eff.H, Heap.put, if_true, Option.some.injEq] at ho';subst ho';simp only [z27, Corr.put, if_true, AObj.esz, z1r, hzl, List.length_append, hvl];refine ⟨hcn, ?_⟩;rw [← hxs.1, hxl, ← Nat.add_mul, ← Nat.add_mul];have : len + n + (c - (len + n)) = c := by omega
  rw [this]; omega
end
section
variable {P : Program} {W0 : World} {ops : Array Oper} {acts : List Nat} {K : Nat → Nat → Heap → Prop}
theorem zdf {m i : Nat} {l : List Nat} {Q : ASt → Prop} {tm : Nat → Value} {H : Heap} {nx n0 : Nat} {d : Tmp} {x y : Operand} {sl xt elem type : TypeId} {pos : String} {after : Array Edge} {gd : Option (Nat × Bool)} {xd : TypeDesc} {size bytes n len tg b cap : Nat} {z cc old xs : List Value} {u : Value}
  (hw : z5x ops l (i :: l) = true) (ho : ops[i]? = some ⟨some d, .call ⟨.builtin .append, #[x, y], #[sl, xt]⟩, type, pos, after, gd⟩) (ha : acts.contains i = true) (hwt : z18 ops ⟨tm, n0, H, nx⟩ ⟨some d, .call ⟨.builtin .append, #[x, y], #[sl, xt]⟩, type, pos, after, gd⟩ = true)
  (hd : d < n0) (hx : ASt.ev ⟨tm, n0, H, nx⟩ x = some (.slice (some ⟨b, 0, some tg⟩) len cap)) (hy : ASt.ev ⟨tm, n0, H, nx⟩ y = some u)
  (hst : P.underlying sl = some (.slice elem)) (hxt : P.underlying xt = some xd) (hni : z2J xd = true) (hsz : z1W P elem = some size) (hby : z0u P elem = some bytes) (hzo : z0Y P elem = some z) (hzl : z.length = size)
  (hsrc : z2V H size u none = some (n, xs)) (hone : xs.all (·.oneCell') = true) (hob : H b = some (.cells (cc ++ old) size (some tg) false (some elem))) (hcl : cc.length = len * size)
  (hb1 : len + n ≤ 1099511627776) (hb2 : (2 * (len + n) + 192) * bytes ≤ 281474976710656)
  (h1 : (∀ k ∈ l, K k nx (H.put b (.cells (cc ++ xs ++ old.drop xs.length) size (some tg) false (some elem)))) ∧ OpsQ P W0 ops acts K m l ⟨zb tm (some d) (.slice (some ⟨b, 0, some tg⟩) (len + n) (len + n)), n0, H.put b (.cells (cc ++ xs ++ old.drop xs.length) size (some tg) false (some elem)), nx⟩ Q)
  (h2 : (∀ k ∈ l, K k (nx + 1) (H.put nx (.cells (cc ++ xs) size (some nx) false (some elem)))) ∧ OpsQ P W0 ops acts K m l ⟨zb tm (some d) (.slice (some ⟨nx, 0, some nx⟩) (len + n) (len + n)), n0, H.put nx (.cells (cc ++ xs) size (some nx) false (some elem)), nx + 1⟩ Q) :
  OpsQ P W0 ops acts K (m + 1) (i :: l) ⟨tm, n0, H, nx⟩ Q := by
 refine .inr fun j hj hf => ?_;by_cases e : j = i
 ·subst e;simp only [List.erase_cons_head];refine .inr ⟨_, ho, by simp [z1B, hd], ha, hwt, fun v ef => (v = .slice (some ⟨b, 0, some tg⟩) (len + n) (len + n) ∧ ef = .upd b (.cells (cc ++ xs ++ old.drop xs.length) size (some tg) false (some elem))) ∨ (v = .slice (some ⟨nx, 0, some nx⟩) (len + n) (len + n) ∧ ef = .new (.cells (cc ++ xs) size (some nx) false (some elem))), ?_, ?_⟩
  ·intro r C w ev hR hev
   have hsem : (Oper.mk (some d) (.call ⟨.builtin .append, #[x, y], #[sl, xt]⟩) type pos after gd).semAt r ev = (do pure (Next.value (← Builtin.append_ #[sl, xt] type #[ev x, ev y])) : Sem Next) := by
    rw [Oper.semAt_eq r _ _ (fun c hc => by cases hc)];simp only [execOp, resolve, pure_bind, invoke];have he : Array.map ev #[x, y] = #[ev x, ev y] := by simp
    rw [he];simp only [builtin]
   rw [hsem];have hx' := hev x _ (by rw [z7S (n := n0) (nx := nx) (H := H) (fun t ht => z6l (by rw [← ht]; simp [Op.operands, Call.operands]))]; exact hx);have hy' := hev y _ (by rw [z7S (n := n0) (nx := nx) (H := H) (fun t ht => z6l (by rw [← ht]; simp [Op.operands, Call.operands]))]; exact hy);rcases zau (P := P) (args := #[sl, xt]) (ty := type) hR rfl rfl hst hxt hni hsz hby hzo hzl hsrc hone hob hcl hb1 hb2 hx' hy' with hF | hF
   ·exact ⟨_, _, .inl ⟨rfl, rfl⟩, hF.toN⟩
   ·exact ⟨_, _, .inr ⟨rfl, rfl⟩, hF.toN⟩
  ·rintro v ef (⟨rfl, rfl⟩ | ⟨rfl, rfl⟩)
   ·exact h1
   ·exact h2
 ·have hj2 : j ∈ l := by
   rcases List.mem_cons.1 hj with h | h
   ·exact absurd h e
   ·exact h
  rw [z4g hw hj2] at hf;cases hf
end
end Go.Am
namespace Go.Am
open Go.RowKit
attribute [local irreducible] aop
section
variable {P : Program} {W0 : World} {ops : Array Oper} {acts : List Nat} {K : Nat → Nat → Heap → Prop}
theorem ze8 {H : Heap} {nx : Nat} {ev : Operand → Option Value} {dst : Option Tmp} {type : TypeId} {pos : String} {after : Array Edge} {guard : Option (Nat × Bool)} {el st xt : TypeId} {sz bytes n : Nat} {z xs : List Value} {u : Value} {x y : Operand} (hx : ev x = some (.slice none 0 0)) (hy : ev y = some u)
  (hs : z2V H sz u none = some (n, xs)) (h1 : xs.all (·.oneCell') = true) (hst : P.underlying st = some (.slice el)) (hxt : P.underlying xt = some (.slice el)) (hsz : z1W P el = some sz) (hby : z0u P el = some bytes) (hz : z0Y P el = some z) (hzl : z.length = sz) (hle : n ≤ 1099511627776) (hle2 : (2 * n + 192) * bytes ≤ 281474976710656) :
  aop P H nx ev ⟨dst, .call ⟨.builtin .append, #[x, y], #[st, xt]⟩, type, pos, after, guard⟩ = if n = 0 then some (.slice none 0 0, .none) else some (.slice (some ⟨nx, 0, some nx⟩) n n, .new (.cells xs sz (some nx) false (some el))) := by
 have hn : z2J (.slice el) = true := rfl;by_cases hm : n = 0
 ·simp [aop, hx, hy, z1k, z1o, z3h, hst, hxt, hsz, hby, hz, hn, hzl, hs, hm];rw [if_pos (by simpa using h1)]
 ·simp [aop, hx, hy, z1k, z1o, z3h, hst, hxt, hsz, hby, hz, hn, hzl, hs, hm, hle, hle2];rw [if_pos (by simpa using h1)]
theorem z9j {α : Type} {enc : α → List Value} {sz bytes : Nat} {z : List Value} {el st xt type : TypeId} {pos : String} {after : Array Edge} {gd : Option (Nat × Bool)} {ob : Option (Nat × Nat)} {v u : Value} {zs us : List α} {x y : Operand} {i m n nx Na d : Nat} {l : List Nat} {H Ha : Heap} {tm : Nat → Value} {Q : ASt → Prop} (hk : ∀ x, (enc x).length = sz) (h1 : ∀ x, (enc x).all (·.oneCell') = true) (h0 : 0 < sz)
  (hw : z5x ops l (i :: l) = true) (ho : ops[i]? = some ⟨some d, .call ⟨.builtin .append, #[x, y], #[st, xt]⟩, type, pos, after, gd⟩) (ha : acts.contains i = true) (hwt : z18 ops ⟨tm, n, H, nx⟩ ⟨some d, .call ⟨.builtin .append, #[x, y], #[st, xt]⟩, type, pos, after, gd⟩ = true) (hd : d < n)
  (hx : ASt.ev ⟨tm, n, H, nx⟩ x = some v) (hy : ASt.ev ⟨tm, n, H, nx⟩ y = some u) (h : OwnOf enc sz el H ob v zs) (hu : RowsAt enc sz H u us)
  (hst : P.underlying st = some (.slice el)) (hxt : P.underlying xt = some (.slice el)) (hsz : z1W P el = some sz) (hby : z0u P el = some bytes) (hz : z0Y P el = some z) (hzl : z.length = sz) (hle : zs.length + us.length ≤ 1000000) (hbl : bytes ≤ 1000)
  (hext : Ext Na Ha nx H) (hob : ∀ b t, ob = some (b, t) → Na ≤ b ∧ b < nx)
  (hc : ∀ v' nx' H', Ext Na Ha nx' H' → nx ≤ nx' → OwnOf enc sz el H' ob v zs → RowsAt enc sz H' v' (zs ++ us) → (∀ k ∈ l, K k nx' H') ∧ OpsQ P W0 ops acts K m l ⟨zb tm (some d) v', n, H', nx'⟩ Q) : OpsQ P W0 ops acts K (m + 1) (i :: l) ⟨tm, n, H, nx⟩ Q := by
 have hsrc := z7Z hk h0 hu
 have hall : ∀ l : List α, (l.flatMap enc).all (·.oneCell') = true := fun l => by
  rw [List.all_eq_true];intro v hv;obtain ⟨x, _, hx⟩ := List.mem_flatMap.1 hv;exact List.all_eq_true.1 (h1 x) v hx
 have hm1 : (2 * (zs.length + us.length) + 192) * bytes ≤ 281474976710656 := by
  have : (2 * (zs.length + us.length) + 192) * bytes ≤ (2 * (zs.length + us.length) + 192) * 1000 := Nat.mul_le_mul_left _ hbl;omega
 have hfl := z52 hk us;have hfz := z52 hk (zs ++ us);cases ob with
 | none =>
  obtain ⟨rfl, hnil, hl0⟩ := h;have hzs : zs = [] := List.eq_nil_of_length_eq_zero hl0;subst hzs;rw [List.length_nil, Nat.zero_add] at hle hm1;have hop := ze8 (P := P) (H := H) (nx := nx) (dst := some d) (type := type) (pos := pos) (after := after) (guard := gd) hx hy hsrc (hall us) hst hxt hsz hby hz hzl (by omega) hm1;refine zbf hw ⟨_, ho, by simp [z1B, hd], ha, .inr ⟨hwt, .inl ?_⟩⟩;by_cases hl : us.length = 0
  ·rw [if_pos hl] at hop;have hus : us = [] := List.eq_nil_of_length_eq_zero hl;subst hus;exact ⟨_, _, hop, (hc _ nx H hext (Nat.le_refl _) ⟨rfl, rfl, rfl⟩ (.inl ⟨0, rfl, rfl⟩))⟩
  ·rw [if_neg hl] at hop;refine ⟨_, _, hop, hc _ (nx + 1) (H.put nx (.cells (us.flatMap enc) sz (some nx) false (some el))) ((hext.up (Nat.le_succ _)).put hext.1) (Nat.le_succ _) ⟨rfl, rfl, rfl⟩ ?_⟩;exact OwnOf.at hk (ob := some (nx, nx)) (el := el) ⟨by simp, by simpa using hfl, [], by rw [List.append_nil]; exact zu⟩
 | some bt =>
  obtain ⟨b, t⟩ := bt;obtain ⟨rfl, hcl, rest, hH⟩ := h;have hb := hob b t rfl;have hxl : (us.flatMap enc).length = us.length * sz := hfl;refine zdf hw ho ha hwt hd hx hy hst hxt rfl hsz hby hz hzl hsrc (hall us) hH hcl (by omega) hm1 ?_ ?_
  ·refine hc _ nx _ (hext.put hb.1) (Nat.le_refl _) ⟨rfl, hcl, us.flatMap enc ++ rest.drop (us.flatMap enc).length, by rw [← List.append_assoc]; exact zu⟩ ?_;exact OwnOf.at hk (ob := some (b, t)) (el := el) ⟨by simp, by rw [hfz], rest.drop (us.flatMap enc).length, by rw [List.flatMap_append]; exact zu⟩
  ·refine hc _ (nx + 1) _ ((hext.up (Nat.le_succ _)).put hext.1) (Nat.le_succ _) ⟨rfl, hcl, rest, by rw [zj (by omega)]; exact hH⟩ ?_;exact OwnOf.at hk (ob := some (nx, nx)) (el := el) ⟨by simp, by rw [hfz], [], by rw [List.flatMap_append, List.append_nil]; exact zu⟩
theorem z6t (j : Nat) {m i q : Nat} {want : Bool} {d' : Tmp} {l : List Nat} {d : Tmp} {op : Op} {type : TypeId} {pos : String} {after : Array Edge} {tm : Nat → Value} {n nx : Nat} {H : Heap} {v : Value} {Q : ASt → Prop} (ho : ops[i]? = some ⟨some d, op, type, pos, after, some (q, want)⟩) (he : (!acts.contains i && z2G ops l i && (l.contains j && acts.contains j && z7x ops j i)) = true) (hd : d < n) (hj : (ops[q]?).bind (·.dst) = some d') (hb : tm d' = .bool want) (hK : K j nx H)
  (hop : ∀ H' nx', K j nx' H' → aop P H' nx' (ASt.ev ⟨tm, n, H, nx⟩) ⟨some d, op, type, pos, after, some (q, want)⟩ = some (v, .none)) (h : OpsQ P W0 ops acts K m l ⟨zb tm (some d) v, n, H, nx⟩ Q) : OpsQ P W0 ops acts K (m + 1) (i :: l) ⟨tm, n, H, nx⟩ Q := by
 simp only [Bool.and_eq_true, Bool.not_eq_true'] at he;exact .inl ⟨he.1.1, he.1.2, _, ho, by simp [z1B, hd], .inr ⟨by simp [z18, hj, hb], v, hop H nx hK, .inr ⟨j, by simpa using he.2.1.1, he.2.1.2, he.2.2, hop⟩, h⟩⟩
structure WSt {α : Type} (enc : α → List Value) (sz : Nat) (el : TypeId) (Na : Nat) (Ha : Heap) (ob : Option (Nat × Nat)) (v : Value) (l : List α) (N : Nat) (H : Heap) : Prop where
 ext : Ext Na Ha N H
 own : OwnOf enc sz el H ob v l
 blk : ∀ b t, ob = some (b, t) → Na ≤ b ∧ b < N
theorem WSt.go {α : Type} {enc : α → List Value} {sz : Nat} {el : TypeId} {Na : Nat} {Ha : Heap} {ob : Option (Nat × Nat)} {v : Value} {l : List α} {N N' : Nat} {H H' : Heap} (h : WSt enc sz el Na Ha ob v l N H) (z : Ext N H N' H') : WSt enc sz el Na Ha ob v l N' H' :=
 ⟨h.ext.trans z, h.own.ext z (fun b t e => (h.blk b t e).2), fun b t e => ⟨(h.blk b t e).1, Nat.lt_of_lt_of_le (h.blk b t e).2 z.1⟩⟩
end
end Go.Am
namespace Go.Am
open Go.RowKit Go.WideShapes
def z9Y (x : Int × Int) : List Value := [.int .i64 x.1, .int .i64 x.2]
def zgd (W : World) (xs : List (Int × Int)) (v : Value) : Prop :=
 (v = .slice none 0 0 ∧ xs = []) ∨ ∃ (b off len cap : Nat) (zs : List (Int × Int)) (Cc : Array Value) (el : TypeId) (fr : Nat × Nat), v = .slice (some ⟨b, off, none⟩) len cap ∧ len ≤ cap ∧ zs.length = cap ∧ xs = zs.take len ∧ W.heap[b]? = some (.cells Cc el fr) ∧ off + cap * 2 ≤ Cc.size ∧ ∀ i, i < cap * 2 → Cc[off + i]? = (zs.flatMap z9Y)[i]?
theorem z6L (zs : List (Int × Int)) : (zs.flatMap z9Y).length = zs.length * 2 := by
 induction zs with
 | nil => rfl
 | cons z zs ih => rw [List.flatMap_cons, List.length_append, ih, List.length_cons]; simp [z9Y]; omega
theorem zb3 : ∀ (zs : List (Int × Int)) (i : Nat) (h : i < zs.length), ((zs.flatMap z9Y).drop (i * 2)).take 2 = z9Y zs[i] := by
 intro zs
 induction zs with
 | nil => intro i h; exact absurd h (by simp)
 | cons z zs ih =>
  intro i h;cases i with
  | zero => simp [z9Y]
  | succ i =>
   have := ih i (by simpa using h);rw [List.flatMap_cons, show (i + 1) * 2 = i * 2 + 1 + 1 by omega];show List.take 2 ((Value.int .i64 z.1 :: Value.int .i64 z.2 :: zs.flatMap z9Y).drop (i * 2 + 1 + 1)) = _;rw [List.drop_succ_cons, List.drop_succ_cons];exact this
section
variable {P : Program} {W0 : World} {C : Corr} {nx : Nat} {H : Heap} {w : World}
theorem zgi {W : World} {nx0 : Nat} {H0 : Heap} {C0 : Corr} (h0 : Rel W C0 nx0 H0 W) (hro0 : ∀ id o, H0 id = some o → o.ro = true) (hpn0 : ∀ k, C0.pin k = none) : ∀ (aas : List Arg) (vs : List Value), All2 (z8d W) aas vs → ∃ nx H C us, Rel W C nx H W ∧ VRs nx H C us vs ∧ All2 (Arg.at H) aas us ∧ (∀ id o, H id = some o → o.ro = true) ∧ (∀ k, C.pin k = none) ∧ (∀ id o, H0 id = some o → H id = some o) ∧ Stp nx0 H0 C0 nx H C := by
 intro aas
 induction aas with
 | nil =>
  intro vs h;cases vs with
  | nil => exact ⟨nx0, H0, C0, [], h0, VRs.nil, trivial, hro0, hpn0, fun _ _ h => h, Stp.refl _ _ _⟩
  | cons => exact h.elim
 | cons a aas ih =>
  intro vs h;cases vs with
  | nil => exact h.elim
  | cons v vs =>
   obtain ⟨nx, H, C, us, hR, hV, hA, hro, hpn, htb, hSt⟩ := ih vs h.2;have hlt := fun id o (ho : H id = some o) => (hR.lt id o ho).1;have h1 := h.1;cases a with
   | plain u =>
    obtain ⟨rfl, hp⟩ := h1;exact ⟨nx, H, C, v :: us, hR, VRs.cons (z3j hp) hV, ⟨rfl, hA⟩, hro, hpn, htb, hSt⟩
   | ints k xs =>
    rcases h1 with ⟨rfl, rfl⟩ | ⟨b, off, len, cap, zs, Cc, el, fr, rfl, hlc, hz, rfl, hw, hle, hc⟩
    ·exact ⟨nx, H, C, .slice none 0 0 :: us, hR, VRs.cons (.nils _ _) hV, ⟨⟨.inl ⟨0, rfl, rfl⟩, .inl rfl⟩, hA⟩, hro, hpn, htb, hSt⟩
    ·obtain ⟨hR', hS⟩ := hR.read hpn hro (c := zs.map (.int k ·)) hw (by simpa [hz] using hle) (by simp [zK]) (fun i hi => by
      simp only [List.length_map, hz] at hi;rw [hc i hi, List.getElem?_map, List.getElem?_eq_getElem (by omega)];simp [List.getD_eq_getElem?_getD, List.getElem?_eq_getElem (show i < zs.length by omega)])
     have hext : ∀ id o, H id = some o → (H.put nx (.cells (zs.map (.int k ·)) 1 none true none)) id = some o := fun id o ho => by
      have : id ≠ nx := by have := hlt id o ho; omega
      simp only [Heap.put, this, if_false]; exact ho
     refine ⟨nx + 1, _, _, .slice (some ⟨nx, 0, none⟩) len cap :: us, hR', VRs.cons ?_ (hV.mono hS), ⟨⟨.inr ⟨⟨nx, 0, none⟩, cap, by simp [hz]; omega, ?_⟩, .inr ⟨nx, len, cap, zs.map (.int k ·), rfl, by simp [Heap.put], by simpa using hz, hlc⟩⟩, hA.at_mono hext⟩, ?_, hpn, fun g o hg => hext g o (htb g o hg), hSt.trans hS⟩
     ·exact .slc _ _ _ _ _ ⟨by simp, by simp⟩ (fun o ho _ => ⟨by simp [Corr.at, Corr.put], by simp [z27]⟩)
     ·intro i hi;simp only [List.length_take, hz] at hi;have hi' : i < zs.length := by omega
      simp [zf, z1f, Heap.put, hi', List.getElem_take];refine ⟨by omega, ?_⟩;rw [← List.map_drop, ← List.map_take, List.take_one, List.head?_drop, List.getElem?_eq_getElem hi'];rfl
     ·intro id o ho;by_cases e : id = nx
      ·simp only [Heap.put, e, if_true, Option.some.injEq] at ho; subst ho; rfl
      ·simp only [Heap.put, e, if_false] at ho; exact hro id o ho
theorem zbz {f : FuncId} {ars : List Arg} {vs : List Value} {v : Value} {xs : List (Int × Int)} {W : World} (hc : All2 (z8d W) ars vs) (hz : zgd W xs v)
  (h : ∀ nx H us u, All2 (Arg.at H) ars us → RowsAt z9Y 2 H u xs → (∀ id o, H id = some o → id < nx) → ACalls P W f (us ++ [u]) nx H fun v _ _ => v = .bool true) :
  Calls P f (vs ++ [v]).toArray W fun e w' => e = .returned (.bool true) ∧ BelD W.heap.size W w' := by
 have hT := zee (W0 := W) (w := W) (T := []) Tabs.nil (BelD.refl _ _);have hro : ∀ id o, (z6B ([] : z8Q)).get id = some o → o.ro = true := fun _ _ h => (by obtain ⟨c, _, rfl⟩ := z2p h; rfl)
 have key : ∃ nx H C u, Rel W C nx H W ∧ VR nx H C u v ∧ RowsAt z9Y 2 H u xs ∧ (∀ id o, H id = some o → o.ro = true) ∧ (∀ k, C.pin k = none) := by
  rcases hz with ⟨rfl, rfl⟩ | ⟨b, off, len, cap, zs, Cc, el, fr, rfl, hlc, hz, rfl, hw, hle, hcl⟩
  ·exact ⟨_, _, _, .slice none 0 0, hT, .nils _ _, .inl ⟨0, rfl, rfl⟩, hro, fun _ => rfl⟩
  ·obtain ⟨hR', hS⟩ := hT.read (fun _ => rfl) hro (c := zs.flatMap z9Y) hw (by rw [z6L, hz]; exact hle) (by simp [z9Y, zK]) (fun i hi => by
    rw [z6L, hz] at hi;exact hcl i hi)
   refine ⟨_, _, _, .slice (some ⟨NG, 0, none⟩) len cap, hR', ?_, .inr ⟨⟨NG, 0, none⟩, cap, by rw [List.length_take, hz, Nat.min_eq_left hlc], fun i hi => ?_⟩, ?_, fun _ => rfl⟩
   ·exact .slc _ _ _ _ _ ⟨by simp, by simp⟩ (fun o ho _ => ⟨by simp [Corr.at, Corr.put], by simp [z27]⟩)
   ·rw [List.length_take] at hi;have hi' : i < zs.length := by omega
    have h1 := zb3 zs i hi';rw [List.getElem_take, ← h1];unfold z1f;simp only [Heap.put, if_true];rw [if_pos ⟨trivial, by rw [z6L]; omega⟩, Nat.zero_add]
   ·intro id o ho;by_cases e : id = NG
    ·simp only [Heap.put, e, if_true, Option.some.injEq] at ho; subst ho; rfl
    ·simp only [Heap.put, e, if_false] at ho; exact hro id o ho
 obtain ⟨nx0, H0, C0, u, hR0, hV0, hat0, hro0, hpn0⟩ := key;obtain ⟨nx, H, C, us, hR, hV, hA, _, _, hmono, hSt⟩ := zgi hR0 hro0 hpn0 ars vs hc
 have hat : RowsAt z9Y 2 H u xs := by
  rcases hat0 with h | ⟨a, c, rfl, h⟩
  ·exact .inl h
  ·refine .inr ⟨a, c, rfl, fun i hi => ?_⟩;have h1 := h i hi;obtain ⟨o, ho⟩ := z5c h1;unfold z1f at *;rw [hmono _ _ ho];rw [ho] at h1;exact h1
 refine (h nx H us u hA hat (fun id o ho => (hR.lt id o ho).1) C W (vs ++ [v]) hR (hV.append (VRs.cons (hV0.mono hSt) VRs.nil))).mono ?_;rintro e w' ⟨v, v', C', nx', H', rfl, rfl, hR', hv, _⟩;cases hv;exact ⟨rfl, hR'.below⟩
variable {E : Type} {enc : TypeId × Value → E} {W : World}
theorem zbJ {t e : TypeId} {f0 f1 : Field} {r : Reach} {b0 : Nat} {v : Value} {d : DataW E} {ps : List MemPlace} (ht : P.underlying t = some (.slice e)) (he : P.underlying e = some (.struct #[f0, f1]))
  (ce : P.cellsOf e = 2) (o0 : f0.offset = 0) (o1 : f1.offset = 1) (c0 : P.cellsOf f0.type = 1) (c1 : P.cellsOf f1.type = 1) (u0 : P.underlying f0.type = some (.int .i64)) (u1 : P.underlying f1.type = some (.int .i64))
  (hval : Value.okWide P W r b0 t v) (h : DataW.Trod enc P W 0 (fun _ => true) true t v d ps) : ∃ xs, zgd W xs v := by
 obtain ⟨a0, len0, cap0, rfl⟩ := okWide_slice ht hval;obtain ⟨fuel, hf⟩ := h;simp only [Value.okWide, ht, Cell.okWide] at hval;rcases Go.Deep.open_slice_pairs ht he ce o0 o1 c0 c1 hf with ⟨h1, _⟩ | ⟨a, len, cap, m, n, V0, V1, D0, D1, P0, P1, h1, _, hle, hmax, hm, _, hcell⟩
 ·simp [Value.cells] at h1;obtain ⟨rfl, rfl, rfl⟩ := h1;exact ⟨[], .inl ⟨rfl, rfl⟩⟩
 ·simp [Value.cells] at h1;obtain ⟨rfl, rfl, rfl⟩ := h1;simp only [if_true] at hm;subst hm
  have hok : len0 ≤ m ∧ (m : Int) ≤ IntKind.i64.max ∧ W.has P r b0 a e m := by
   simpa [Cell.ok, ht] using hval
  obtain ⟨_, _, _, hsp, row, cells, hsh, hlies⟩ := hok;obtain ⟨b, off, sp⟩ := a;simp only at hsp;subst hsp;simp only [World.shape?] at hsh;split at hsh
  case h_2 => cases hsh
  rename_i Cc el fr hw;simp only [Option.some.injEq, Prod.mk.injEq] at hsh;obtain ⟨rfl, rfl⟩ := hsh
  have hoff : off ≤ Cc.size := by
   have h1 := z94 _ _ _ _ _ _ hlies;have h2 := Nat.div_mul_le_self Cc.size (P.cellsOf el);exact Nat.le_trans h1 h2
  have each : ∀ i, i < m → ∃ z : Int × Int, Cc[off + i * 2]? = some (.int .i64 z.1) ∧ Cc[off + (i * 2 + 1)]? = some (.int .i64 z.2) := fun i hi => by
   obtain ⟨g0, g1, t0, t1⟩ := hcell i hi;obtain ⟨n0, e0, _⟩ := DataW.trod_int u0 t0;obtain ⟨n1, e1, _⟩ := DataW.trod_int u1 t1;simp only [List.cons.injEq, and_true] at e0 e1;rw [e0] at g0;rw [e1] at g1;exact ⟨(n0, n1), by simpa [z0K, World.cell?, hw] using g0, by simpa [z0K, World.cell?, hw] using g1⟩
  obtain ⟨q, hq⟩ := Go.Deep.choose_lt each
  have hle2 : off + m * 2 ≤ Cc.size := by
   rcases Nat.eq_zero_or_pos m with h0 | h0
   ·omega
   ·have := (hq (m - 1) (by omega)).2;have := (Array.getElem?_eq_some_iff.1 this).1;omega
  refine ⟨((List.range m).map q).take len0, .inr ⟨b, off, len0, m, (List.range m).map q, Cc, el, fr, rfl, hle, by simp, rfl, hw, hle2, fun i hi => ?_⟩⟩;have hd : i / 2 < m := by omega
  have h2 := zb3 ((List.range m).map q) (i / 2) (by simpa using hd);rw [List.getElem_map, List.getElem_range] at h2;obtain ⟨k0, k1⟩ := hq (i / 2) hd
  have h3 : (((List.range m).map q).flatMap z9Y)[i]? = (z9Y (q (i / 2)))[i % 2]? := by
   rw [← h2, List.getElem?_take_of_lt (by omega), List.getElem?_drop];congr 1; omega
  rw [h3];rcases Nat.mod_two_eq_zero_or_one i with e | e
  ·rw [e, show off + i = off + i / 2 * 2 by omega, k0]; rfl
  ·rw [e, show off + i = off + (i / 2 * 2 + 1) by omega, k1]; rfl
end
end Go.Am
