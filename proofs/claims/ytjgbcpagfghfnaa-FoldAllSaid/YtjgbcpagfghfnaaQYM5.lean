import Derived.Test.YtjgbcpagfghfnaaQYM4
set_option linter.unusedVariables false
set_option linter.unusedSimpArgs false
set_option linter.unnecessarySimpa false
namespace Go.Am
open Go.RowKit
section
variable {P : Program} {W0 : World} {C : Corr} {nx : Nat} {H : Heap} {w : World}
def z0u (P : Program) (t : TypeId) : Option Nat := (P.info? t).map (·.bytes)
theorem z1i {t : TypeId} {n : Nat} (h : z0u P t = some n) : ∃ i, (∀ w, (typeInfo t).run P w = .ok i w) ∧ i.bytes = n := by
 unfold z0u at h;cases hi : P.info? t with
 | none => simp [hi] at h
 | some i => simp [hi] at h; exact ⟨i, fun w => by simp [typeInfo, hi], h⟩
def z6w (b : UInt8) : Value := .int .u8 b.toNat
def cut (n : Nat) : Option Nat → Nat
 | none => n
 | some d => Nat.min n d
theorem zeB (n : Nat) (m : Option Nat) : cut n m ≤ n := by
 cases m with
 | none => exact Nat.le_refl _
 | some d => exact Nat.min_le_left _ _
def z2V (H : Heap) (size : Nat) (x : Value) (most : Option Nat) : Option (Nat × List Value) :=
 match x with
 | .slice (some b) n _ => if cut n most * size = 0 then some (cut n most, []) else (z1f H b (cut n most * size)).map (cut n most, ·)
 | .slice none n _ => if n = 0 then some (0, []) else none
 | .string s => if size = 1 then some (cut s.size most, (s.data.toList.take (cut s.size most)).map z6w) else none
 | _ => none
theorem z3p {w w' : World} (h : w'.heap = w.heap) (a : Addr) : w'.cell? a = w.cell? a := by simp [World.cell?, h]
theorem z4h (hR : Rel W0 C nx H w) {size : Nat} {x x' : Value} {most : Option Nat} {n : Nat} {l : List Value} (h : z2V H size x most = some (n, l)) (hx : VR nx H C x x') :
  ∃ m l', (∀ w', (Builtin.lenOf x').run P w' = .ok m w') ∧ n = cut m most ∧ VRs nx H C l l' ∧ l.length = n * size ∧ ∀ w' : World, w'.heap = w.heap → (Builtin.firstCells size n x').run P w' = .ok l'.toArray w' := by
 unfold z2V at h;split at h
 ·rename_i b k _;cases hx with
  | slc _ _ _ b' c' k1 k2 =>
  refine ⟨k, ?_⟩;split at h
  ·rename_i h0;simp only [Option.some.injEq, Prod.mk.injEq] at h;obtain ⟨rfl, rfl⟩ := h;refine ⟨[], fun w' => rfl, rfl, VRs.nil, by simp [h0], fun w' hw' => ?_⟩;simp only [Builtin.firstCells, h0];exact z0R (vs := []) rfl (fun i hi => by omega)
  ·simp only [Option.map_eq_some_iff, Prod.mk.injEq] at h;obtain ⟨l0, h1, rfl, rfl⟩ := h;obtain ⟨o, ho, ht⟩ := z49 h1;obtain ⟨rfl, _⟩ := k2 o ho ht;obtain ⟨vs', hv, hl, hc⟩ := z1Y hR h1;refine ⟨vs', fun w' => rfl, rfl, hv, by rw [hv.1, hl], fun w' hw' => ?_⟩;simp only [Builtin.firstCells];exact z0R hl (fun i hi => by rw [z3p hw']; exact hc i hi)
 ·rename_i k c;split at h
  ·rename_i h0;subst h0;simp only [Option.some.injEq, Prod.mk.injEq] at h;obtain ⟨rfl, rfl⟩ := h;cases hx;refine ⟨0, [], fun w' => rfl, ?_, VRs.nil, by simp, fun w' _ => rfl⟩;have := zeB 0 most;omega
  ·cases h
 ·rename_i s;split at h
  ·rename_i h1;subst h1;simp only [Option.some.injEq, Prod.mk.injEq] at h;obtain ⟨rfl, rfl⟩ := h;cases hx;have hss : s.size = s.data.size := rfl;refine ⟨s.size, _, fun w' => rfl, rfl, ⟨rfl, fun i a b => by simp only [List.getElem_map]; exact .int _ _⟩, ?_, fun w' _ => ?_⟩
   ·have := zeB s.size most;rw [List.length_map, List.length_take, Array.length_toList, ← hss];omega
   ·simp only [Builtin.firstCells, Sem.run_pure];congr 1;apply Array.ext';have := Lib.extract_data s 0 (cut s.size most);rw [List.drop_zero, Nat.sub_zero] at this;rw [Array.toList_map, this];rfl
  ·cases h
 ·cases h
theorem zcX (need : Nat) : ∀ (r c : Nat), c ≤ 2 * need + 192 → Builtin.growBy need r c ≤ 2 * need + 192 := by
 intro r
 induction r with
 | zero => intro c h; simpa [Builtin.growBy] using h
 | succ r ih =>
  intro c h;simp only [Builtin.growBy];split
  ·exact h
  ·exact ih _ (by omega)
theorem z4n (need old : Nat) (h : old < need) : Builtin.nextslicecap need old ≤ 2 * need + 192 := by
 unfold Builtin.nextslicecap;split
 ·omega
 ·split
  ·omega
  ·exact zcX _ _ _ (by omega)
def z2J : TypeDesc → Bool
 | .int _ => false
 | _ => true
def z3h (P : Program) (H : Heap) (nx : Nat) (argTypes : Array TypeId) (s x : Value) : Option (Value × Eff) :=
 match argTypes[0]?, argTypes[1]? with
 | some st, some xt =>
  match P.underlying st, P.underlying xt with
  | some (.slice elem), some xd =>
   match z1W P elem, z0u P elem, z0Y P elem with
   | some size, some bytes, some z =>
    if z2J xd ∧ z.length = size then
     match z2V H size x none with
     | some (n, xs) =>
      if xs.all (·.oneCell') then
      match s with
      | .slice none 0 0 =>
       if n = 0 then some (.slice none 0 0, .none)
       else if n ≤ 1099511627776 ∧ (2 * n + 192) * bytes ≤ 281474976710656 then some (.slice (some ⟨nx, 0, some nx⟩) n n, .new (.cells xs size (some nx) false (some elem))) else none
      | .slice (some a) len cap =>
       match H a.block with
       | some (.cells c esz tag ro q) =>
        if tag = a.spot then
         if n = 0 ∧ len ≤ cap then some (.slice (some a) len cap, .none)
         else match tag with
         | none =>
          if len + n ≤ cap then
           (zbX H ⟨a.block, a.off + len * size, a.spot⟩ xs).map fun o => (.slice (some a) (len + n) cap, .upd a.block o)
          else if len + n ≤ 1099511627776 ∧ (2 * (len + n) + 192) * bytes ≤ 281474976710656 then
           (z1f H a (len * size)).map fun old => (.slice (some ⟨nx, 0, some nx⟩) (len + n) (len + n), .new (.cells (old ++ xs) size (some nx) false (some elem)))
          else none
         | some _ =>
          if ro = false ∧ esz = size ∧ (q = none ∨ q = some elem) ∧ len + n ≤ 1099511627776 ∧ (2 * (len + n) + 192) * bytes ≤ 281474976710656 then
           (z1f H a (len * size)).map fun old => (.slice (some ⟨a.block, 0, some nx⟩) (len + n) (len + n), .bump a.block (.cells (old ++ xs) size (some nx) false q))
          else none
        else none
       | _ => none
      | _ => none
      else none
     | none => none
    else none
   | _, _, _ => none
  | _, _ => none
 | _, _ => none
theorem z1u {st xt ty elem : TypeId} {xd : TypeDesc} {size n len cap : Nat} {x' : Value} {base : Option Addr} {l' : List Value} {args : Array TypeId}
  (ha0 : args[0]? = some st) (ha1 : args[1]? = some xt)
  (hst : P.underlying st = some (.slice elem)) (hxt : P.underlying xt = some xd) (hni : z2J xd = true) (hs : z1W P elem = some size) (hroom : len + n ≤ cap)
  (hlen : ∀ w', (Builtin.lenOf x').run P w' = .ok n w') (hfc : ∀ w' : World, w'.heap = w.heap → (Builtin.firstCells size n x').run P w' = .ok l'.toArray w') :
  (Builtin.append_ args ty #[.slice base len cap, x']).run P w = (match base with
   | some a => ((storeCells (a.add (len * size)) l' 0).run P w).andThen fun _ w' => .ok (.slice base (len + n) cap) w'
   | none => .ok (.slice base (len + n) cap) w) := by
 simp only [Builtin.append_, ha0, ha1, List.getElem?_toArray, List.getElem?_cons_zero, List.getElem?_cons_succ, Sem.run_bind, run_underlying hst, run_underlying hxt, Result.andThen_ok, z03 hs, Sem.run_pure];have hz' : Builtin.append_.match_1 (fun _ => Bool) xd (fun _ => true) (fun _ => false) = false := by cases xd <;> first | rfl | simp [z2J] at hni
 simp only [hz', Bool.false_eq_true, if_false, Sem.run_bind, hlen, Result.andThen_ok, Bool.not_false, if_true];rw [if_pos hroom];simp only [Sem.run_bind, hfc w rfl, Result.andThen_ok];cases base with
 | none => simp
 | some a => simp
theorem z1I {st xt ty elem : TypeId} {xd : TypeDesc} {size n len cap bytes : Nat} {z : List Value} {x' : Value} {base : Option Addr} {l' old : List Value} {args : Array TypeId}
  (ha0 : args[0]? = some st) (ha1 : args[1]? = some xt)
  (hst : P.underlying st = some (.slice elem)) (hxt : P.underlying xt = some xd) (hni : z2J xd = true) (hs : z1W P elem = some size) (hb : z0u P elem = some bytes) (hzo : z0Y P elem = some z) (hroom : cap < len + n)
  (hbd : len + n ≤ 1099511627776) (hbd2 : (2 * (len + n) + 192) * bytes ≤ 281474976710656)
  (hlen : ∀ w', (Builtin.lenOf x').run P w' = .ok n w') (hfc : ∀ w' : World, w'.heap = w.heap → (Builtin.firstCells size n x').run P w' = .ok l'.toArray w')
  (hold : ∀ w' : World, w'.heap = w.heap → (Builtin.firstCells size len (.slice base len cap)).run P w' = .ok old.toArray w') :
  ∃ c, len + n ≤ c ∧ (Builtin.append_ args ty #[.slice base len cap, x']).run P w = .ok (.slice (some ⟨w.heap.size, 0, none⟩) (len + n) c) (w.drew.alloc (.cells ((old ++ l') ++ rep (c - (len + n)) z).toArray elem)) := by
 have hz' : Builtin.append_.match_1 (fun _ => Bool) xd (fun _ => true) (fun _ => false) = false := by cases xd <;> first | rfl | simp [z2J] at hni
 obtain ⟨i, hi, hib⟩ := z1i hb;obtain ⟨zv, hzr, hzc, hzp⟩ := z1p hzo;refine ⟨(Question.appendCap (len + n) cap elem).cut (w.tape w.drawn (.appendCap (len + n) cap elem)), by simp [Question.cut], ?_⟩;generalize hc : (Question.appendCap (len + n) cap elem).cut (w.tape w.drawn (.appendCap (len + n) cap elem)) = c;simp only [Builtin.append_, ha0, ha1, List.getElem?_toArray, List.getElem?_cons_zero, List.getElem?_cons_succ, Sem.run_bind, run_underlying hst, run_underlying hxt, Result.andThen_ok, z03 hs, Sem.run_pure];simp only [hz', Bool.false_eq_true, if_false, Sem.run_bind, hlen, Result.andThen_ok, Bool.not_false, if_true];rw [if_neg (by omega)]
 have h63 : ¬ ((((len + n : Nat) : Int) > IntKind.i64.max) ∧ (False ∨ bytes = 0)) := by
  rintro ⟨h, _⟩;have : IntKind.i64.max = 9223372036854775807 := rfl;omega
 have h48 : ¬ (Builtin.nextslicecap (len + n) cap * bytes > 2 ^ 48) := by
  have := Nat.mul_le_mul_right bytes (z4n (len + n) cap hroom);have h2 : (2 : Nat) ^ 48 = 281474976710656 := by decide
  omega
 have h63' : ¬ ((((len + n : Nat) : Int) > IntKind.i64.max)) := by
  have : IntKind.i64.max = 9223372036854775807 := rfl;omega
 have hforced : (Question.appendCap (len + n) cap elem).forced = false := rfl;simp only [Sem.run_bind, hi, Result.andThen_ok, hib, run_choose, hforced, Bool.false_eq_true, if_false, World.drew_eq, hc, run_askRoom, hzr, hzc];simp only [h63', h48, false_and, if_false, Sem.run_pure, Result.andThen_ok, Sem.run_bind, hi, hib, run_choose, hforced, Bool.false_eq_true, World.drew_eq, hc, run_askRoom, hold w.drew rfl, hfc w.drew rfl, hzr, hzc, newRow, run_newObj, World.alloc_eq, World.size_drew];have hzz := z4u z.toArray (c - (len + n));simp only [Builtin.zeroCells, hzz];simp
theorem z8w (hR : Rel W0 C nx H w) {args : Array TypeId} {ty : TypeId} {s s' x x' v : Value} {e : Eff} (h : z3h P H nx args s x = some (v, e)) (hs : VR nx H C s s') (hx : VR nx H C x x') :
  Snd W0 C nx H ((Builtin.append_ args ty #[s', x']).run P w) v e := by
 unfold z3h at h;split at h
 case h_2 => cases h
 rename_i st xt ha0 ha1;split at h
 case h_2 => cases h
 rename_i elem xd hst hxt;split at h
 case h_2 => cases h
 rename_i size bytes z hsz hby hzo;split at h
 case isFalse => cases h
 rename_i hc0;obtain ⟨hni, hzl⟩ := hc0;split at h
 case h_2 => cases h
 rename_i n xs hsrc;split at h
 case isFalse => cases h
 rename_i hone;obtain ⟨m, l', hlen, hnm, hxs, hxl, hfc⟩ := z4h (P := P) hR hsrc hx;simp only [cut] at hnm;subst hnm;split at h
 ·-- nothing yet
  cases hs;split at h
  ·rename_i hn0;subst hn0;simp only [Option.some.injEq, Prod.mk.injEq] at h;obtain ⟨rfl, rfl⟩ := h;refine Snd.same hR (v' := .slice none 0 0) ?_ (.nils _ _);exact z1u (ty := ty) (base := none) (len := 0) (cap := 0) ha0 ha1 hst hxt hni hsz (Nat.le_refl _) hlen hfc
  ·split at h
   ·rename_i hn0 hbd;simp only [Option.some.injEq, Prod.mk.injEq] at h;obtain ⟨rfl, rfl⟩ := h;obtain ⟨c, hcn, hrun⟩ := z1I (ty := ty) (base := none) (len := 0) (cap := 0) (old := []) (w := w) ha0 ha1 hst hxt hni hsz hby hzo (by omega) (by omega) (by simpa using hbd.2) hlen hfc (fun w' _ => rfl);simp only [Nat.zero_add, List.nil_append] at hrun hcn;obtain ⟨C', hC, h1, h2⟩ := z2g hR.drew hxs elem size (rep (c - n) z) (some nx) (by simp) (by simp);refine ⟨_, _, C', hrun, by simpa [Eff.H, Eff.nx] using h1, h2, ?_⟩;rw [hC];refine .slc _ _ _ _ _ ⟨by simp [Eff.nx], by simp [Eff.nx]⟩ (fun o ho _ => ⟨by simp [Corr.at, Corr.put], ?_⟩);simp only [Eff.H, Heap.put, if_true, Option.some.injEq] at ho;subst ho;simp only [z27, Corr.put, if_true, AObj.esz, z1r, hzl];refine ⟨hcn, ?_⟩;rw [← hxs.1, hxl, ← Nat.add_mul];have : n + (c - n) = c := by omega
    rw [this]; omega
   ·cases h
 ·rename_i a len cap;split at h
  case h_2 => cases h
  rename_i cc esz tag ro q ho;split at h
  case isFalse => cases h
  rename_i htag;cases hs with
  | slc _ _ _ b cap' k1 k2 =>
  obtain ⟨rfl, k4⟩ := k2 _ ho htag;have hlive : zeJ H a := ⟨_, ho, htag⟩;split at h
  ·-- nothing more
   rename_i hn;obtain ⟨hn0, hlc⟩ := hn;subst hn0;simp only [Option.some.injEq, Prod.mk.injEq] at h;obtain ⟨rfl, rfl⟩ := h
   have hroom : len + 0 ≤ cap' := by
    unfold z27 at k4;split at k4 <;> omega
   have hl0 : l' = [] := by
    have := hxs.1; rw [hxl] at this;rw [← List.length_eq_zero_iff]; omega
   refine Snd.same hR (v' := .slice (some (C.at a)) len cap') ?_ (.slc a len cap _ cap' k1 k2);have hin := z1u (ty := ty) (base := some (C.at a)) (len := len) (cap := cap') (w := w) ha0 ha1 hst hxt hni hsz hroom hlen hfc;simp only at hin;rw [hin];subst hl0;simp [storeCells]
  ·rename_i hn;cases htg : tag with
   | none =>
    rw [htg] at h;simp only at h;have hsp : a.spot = none := by rw [← htag]; exact htg
    simp only [z27, hsp] at k4;subst k4;split at h
    ·rename_i hroom;simp only [Option.map_eq_some_iff, Prod.mk.injEq] at h;obtain ⟨o, hset, rfl, rfl⟩ := h;obtain ⟨w', e1, e2, e3⟩ := z5H (P := P) hR hset hxs;have hat : C.at ⟨a.block, a.off + len * size, a.spot⟩ = (C.at a).add (len * size) := by simp [Corr.at, z0K, Nat.add_assoc]
     rw [hat] at e1;refine ⟨.slice (some (C.at a)) (len + n) cap', w', C, ?_, e2, e3, ?_⟩
     ·have hin := z1u (ty := ty) (base := some (C.at a)) (len := len) (cap := cap') (w := w) ha0 ha1 hst hxt hni hsz hroom hlen hfc;simp only at hin;rw [hin];simp only [e1, Result.andThen_ok]
     ·exact .slc _ _ _ _ _ (k1.mono e3.le) (fun o' _ _ => ⟨rfl, by simp [z27, hsp]⟩)
    ·rename_i hroom;split at h
     ·rename_i hbd;simp only [Option.map_eq_some_iff, Prod.mk.injEq] at h;obtain ⟨old, hold, rfl, rfl⟩ := h;obtain ⟨vs', hv, hvl, hvc⟩ := z1Y hR hold
      obtain ⟨c, hcn, hrun⟩ := z1I (ty := ty) (base := some (C.at a)) (len := len) (cap := cap') (old := vs') (w := w) ha0 ha1 hst hxt hni hsz hby hzo (by omega) hbd.1 hbd.2 hlen hfc
       (fun w' hw' => by simp only [Builtin.firstCells]; exact z0R hvl (fun i hi => by rw [z3p hw']; exact hvc i hi))
      obtain ⟨C', hC, h1, h2⟩ := z2g hR.drew (hv.append hxs) elem size (rep (c - (len + n)) z) (some nx) (by simp) (by simp);refine ⟨_, _, C', hrun, by simpa [Eff.H, Eff.nx] using h1, h2, ?_⟩;rw [hC];refine .slc _ _ _ _ _ ⟨by simp [Eff.nx], by simp [Eff.nx]⟩ (fun o ho' _ => ⟨by simp [Corr.at, Corr.put], ?_⟩);simp only [Eff.H, Heap.put, if_true, Option.some.injEq] at ho';subst ho';simp only [z27, Corr.put, if_true, AObj.esz, z1r, hzl, List.length_append, hvl];refine ⟨hcn, ?_⟩;rw [← hxs.1, hxl, ← Nat.add_mul, ← Nat.add_mul];have : len + n + (c - (len + n)) = c := by omega
      rw [this]; omega
     ·cases h
   | some tg =>
    rw [htg] at h;simp only at h;have hsp : a.spot = some tg := by rw [← htag]; exact htg
    split at h
    case isFalse => cases h
    rename_i hcond;obtain ⟨hro, hesz, hqe, hb1, hb2⟩ := hcond
    have hq : ∀ t, q = some t → elem = t := fun t ht => by
     rcases hqe with x | x
     ·rw [x] at ht; cases ht
     ·rw [x] at ht; exact Option.some.inj ht
    simp only [Option.map_eq_some_iff, Prod.mk.injEq] at h;obtain ⟨old, hold, rfl, rfl⟩ := h;simp only [z27, hsp, AObj.esz, hesz] at k4;obtain ⟨k5, k6⟩ := k4;obtain ⟨vs', hv, hvl, hvc⟩ := z1Y hR hold;obtain ⟨Cc, el, fr, r1, r2, r3, r4, r5⟩ := hR.obj _ _ ho;have hidlt := (hR.lt _ _ ho).1;have hroObj : (AObj.cells cc esz tag ro q).ro = false := hro;by_cases hroom : len + n ≤ cap'
    ·-- there was room: the row is written
     have hmul : len * size + n * size ≤ cap' * size := by rw [← Nat.add_mul]; exact Nat.mul_le_mul_right _ hroom
     obtain ⟨w', Cc', e1, e2, e3, e4, e5, e6, e7, e8, e9, e10⟩ := z2x (P := P) (C.loc a.block).1 ((C.loc a.block).2 + a.off + len * size) el fr l' 0 Cc w r1 (by rw [← hxs.1, hxl, r2]; omega) (r5.1 hro).no (hxs.all_one hone)
     have hrun : (Builtin.append_ args ty #[.slice (some (C.at a)) len cap', x']).run P w = .ok (.slice (some (C.at a)) (len + n) cap') w' := by
      have hin := z1u (ty := ty) (base := some (C.at a)) (len := len) (cap := cap') (w := w) ha0 ha1 hst hxt hni hsz hroom hlen hfc;simp only at hin;rw [hin];have hat : (C.at a).add (len * size) = ⟨(C.loc a.block).1, (C.loc a.block).2 + a.off + len * size, none⟩ := by simp [Corr.at, z0K]
      rw [hat, e1];rfl
     have hbel : BelD W0.heap.size W0 w' := hR.below.trans ⟨e7, e8, e9, by omega, fun k hk => e5 k (by have := hR.own _ _ ho hro; omega), Nat.le_of_eq e10.symm⟩
     have key := hR.set (nx' := nx + 1) (w' := w') a.block _ (.cells (old ++ xs) size (some nx) false q) ((C.loc a.block).1, (C.loc a.block).2 + a.off) (C.siz a.block) ho hroObj (by omega) (.inr ⟨by omega, rfl⟩) (.inl rfl) (fun _ => rfl) hbel
      (fun k _ hk => e5 k hk) ?_
     ·refine ⟨_, w', _, hrun, key.1, key.2, ?_⟩;refine .slc _ _ _ _ _ ⟨by simp [Eff.nx]; omega, by simp [Eff.nx]⟩ (fun o ho' _ => ⟨by simp [Corr.at, Corr.put], ?_⟩);simp only [Eff.H, Heap.put, if_true, Option.some.injEq] at ho';subst ho';simp only [z27, Corr.put, if_true, AObj.esz];omega
     ·rintro C' rfl hst';refine ⟨Cc', el, fr, by simpa [Corr.put] using e2, by simp [Corr.put, e3, r2], ?_, ?_, ⟨fun _ => (by rw [e3]; exact r5.1 hro), r5.2.1, fun _ ht => (by cases ht), fun _ => (by rw [← hesz]; exact r5.2.2.2 hro)⟩⟩
      ·simp only [Corr.put, if_true, List.length_append, hv.1, hvl, hxl, e3, r2]; omega
      ·intro i hi hi';simp only [Corr.put, if_true] at hi' ⊢;have hvx := (hv.append hxs).mono hst';have hi2 : i < (vs' ++ l').length := by rw [← (hv.append hxs).1]; exact hi
       have := hvx.2 i hi hi2
       have heq : Cc'[(C.loc a.block).2 + a.off + i] = (vs' ++ l')[i] := by
        apply Option.some.inj;rw [← Array.getElem?_eq_getElem hi', e4];rw [← List.getElem?_eq_getElem hi2];by_cases c1 : i < len * size
        ·rw [if_neg (by omega), List.getElem?_append_left (by omega)];have := hvc i c1;simp only [Corr.at, z0K, World.cell?, r1] at this;simpa using this
        ·have hi3 := hi2;rw [List.length_append, hvl] at hi3;rw [if_pos (by omega), List.getElem?_append_right (by omega), hvl];congr 1; omega
       rw [heq];exact this
    ·-- a new row
     obtain ⟨c, hcn, hrun⟩ := z1I (ty := ty) (base := some (C.at a)) (len := len) (cap := cap') (old := vs') (w := w) ha0 ha1 hst hxt hni hsz hby hzo (by omega) hb1 hb2 hlen hfc
      (fun w' hw' => by simp only [Builtin.firstCells]; exact z0R hvl (fun i hi => by rw [z3p hw']; exact hvc i hi))
     have hbel : BelD W0.heap.size W0 (w.drew.alloc (.cells ((vs' ++ l') ++ rep (c - (len + n)) z).toArray elem)) := hR.below.drew.alloc hR.below.size _
     have key := hR.set (nx' := nx + 1) (w' := w.drew.alloc (.cells ((vs' ++ l') ++ rep (c - (len + n)) z).toArray elem)) a.block _ (.cells (old ++ xs) size (some nx) false q) (w.heap.size, 0) (c * size) ho hroObj (by omega) (.inr ⟨by omega, rfl⟩) (.inr (Nat.le_refl _)) (fun h => by cases h) hbel
      (fun k hk _ => Below.heap_alloc _ _ _ hk) ?_
     ·refine ⟨_, _, _, hrun, key.1, key.2, ?_⟩;refine .slc _ _ _ _ _ ⟨by simp [Eff.nx]; omega, by simp [Eff.nx]⟩ (fun o ho' _ => ⟨by simp [Corr.at, Corr.put], ?_⟩);simp only [Eff.H, Heap.put, if_true, Option.some.injEq] at ho';subst ho';simp only [z27, Corr.put, if_true, AObj.esz];omega
     ·rintro C' rfl hst'
      have htot : ((vs' ++ l') ++ rep (c - (len + n)) z).length = c * size := by
       simp only [List.length_append, z1r, hzl, hvl];rw [← hxs.1, hxl, ← Nat.add_mul, ← Nat.add_mul];congr 1; omega
      refine ⟨((vs' ++ l') ++ rep (c - (len + n)) z).toArray, elem, (0, 0), by simp only [Corr.put, if_true]; exact heap_alloc_new w.drew _, by simp only [Corr.put, if_true, List.size_toArray, htot], ?_, ?_, fun _ => .inl rfl, hq, fun _ ht => (by cases ht), fun _ => .inr rfl⟩
      ·simp only [Corr.put, if_true, List.size_toArray];simp only [List.length_append, hv.1, hxs.1];omega
      ·intro i hi hi';simp only [Corr.put, if_true, Nat.zero_add, List.getElem_toArray];have hi2 : i < (vs' ++ l').length := by rw [← (hv.append hxs).1]; exact hi
       rw [List.getElem_append_left hi2];exact ((hv.append hxs).mono hst').2 i hi hi2
 ·cases h
end
end Go.Am
