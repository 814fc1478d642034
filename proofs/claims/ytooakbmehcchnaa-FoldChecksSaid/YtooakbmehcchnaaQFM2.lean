import Derived.ChangeKeysEq
import Derived.Test.YtooakbmehcchnaaQFM1
set_option linter.unusedSimpArgs false
set_option linter.unusedVariables false
set_option maxRecDepth 100000
set_option maxHeartbeats 16000000
namespace Go.Am
open Go.RowKit
section
variable {P : Program} {W0 : World} {C : Corr} {nx : Nat} {H : Heap} {w : World}
def bytesOfT (P : Program) (t : TypeId) : Option Nat := (P.info? t).map (·.bytes)
theorem run_typeInfo_bytes {t : TypeId} {n : Nat} (h : bytesOfT P t = some n) : ∃ i, (∀ w, (typeInfo t).run P w = .ok i w) ∧ i.bytes = n := by
  unfold bytesOfT at h
  cases hi : P.info? t with
  | none => simp [hi] at h
  | some i => simp [hi] at h; exact ⟨i, fun w => by simp [typeInfo, hi], h⟩
def bcell (b : UInt8) : Value := .int .u8 b.toNat
def cut (n : Nat) : Option Nat → Nat
  | none => n
  | some d => Nat.min n d
theorem cut_le (n : Nat) (m : Option Nat) : cut n m ≤ n := by
  cases m with
  | none => exact Nat.le_refl _
  | some d => exact Nat.min_le_left _ _
def source (H : Heap) (size : Nat) (x : Value) (most : Option Nat) : Option (Nat × List Value) :=
  match x with
  | .slice (some b) n _ => if cut n most * size = 0 then some (cut n most, []) else (getc H b (cut n most * size)).map (cut n most, ·)
  | .slice none n _ => if n = 0 then some (0, []) else none
  | .string s => if size = 1 then some (cut s.size most, (s.data.toList.take (cut s.size most)).map bcell) else none
  | _ => none
theorem cell?_heap {w w' : World} (h : w'.heap = w.heap) (a : Addr) : w'.cell? a = w.cell? a := by simp [World.cell?, h]
theorem source_sound (hR : Rel W0 C nx H w) {size : Nat} {x x' : Value} {most : Option Nat} {n : Nat} {l : List Value} (h : source H size x most = some (n, l)) (hx : VR nx H C x x') :
    ∃ m l', (∀ w', (Builtin.lenOf x').run P w' = .ok m w') ∧ n = cut m most ∧ VRs nx H C l l' ∧ l.length = n * size ∧ ∀ w' : World, w'.heap = w.heap → (Builtin.firstCells size n x').run P w' = .ok l'.toArray w' := by
  unfold source at h
  split at h
  · rename_i b k _
    cases hx with
    | slc _ _ _ b' c' k1 k2 =>
    refine ⟨k, ?_⟩
    split at h
    · rename_i h0
      simp only [Option.some.injEq, Prod.mk.injEq] at h
      obtain ⟨rfl, rfl⟩ := h
      refine ⟨[], fun w' => rfl, rfl, VRs.nil, by simp [h0], fun w' hw' => ?_⟩
      simp only [Builtin.firstCells, h0]
      exact run_loadCells (vs := []) rfl (fun i hi => by omega)
    · simp only [Option.map_eq_some_iff, Prod.mk.injEq] at h
      obtain ⟨l0, h1, rfl, rfl⟩ := h
      obtain ⟨o, ho, ht⟩ := getc_live h1
      obtain ⟨rfl, _⟩ := k2 o ho ht
      obtain ⟨vs', hv, hl, hc⟩ := getc_sound hR h1
      refine ⟨vs', fun w' => rfl, rfl, hv, by rw [hv.1, hl], fun w' hw' => ?_⟩
      simp only [Builtin.firstCells]
      exact run_loadCells hl (fun i hi => by rw [cell?_heap hw']; exact hc i hi)
  · rename_i k c
    split at h
    · rename_i h0
      subst h0
      simp only [Option.some.injEq, Prod.mk.injEq] at h
      obtain ⟨rfl, rfl⟩ := h
      cases hx
      refine ⟨0, [], fun w' => rfl, ?_, VRs.nil, by simp, fun w' _ => rfl⟩
      have := cut_le 0 most
      omega
    · cases h
  · rename_i s
    split at h
    · rename_i h1
      subst h1
      simp only [Option.some.injEq, Prod.mk.injEq] at h
      obtain ⟨rfl, rfl⟩ := h
      cases hx
      have hss : s.size = s.data.size := rfl
      refine ⟨s.size, _, fun w' => rfl, rfl, ⟨rfl, fun i a b => by simp only [List.getElem_map]; exact .int _ _⟩, ?_, fun w' _ => ?_⟩
      · have := cut_le s.size most
        rw [List.length_map, List.length_take, Array.length_toList, ← hss]
        omega
      · simp only [Builtin.firstCells, Sem.run_pure]
        congr 1
        apply Array.ext'
        have := Lib.extract_data s 0 (cut s.size most)
        rw [List.drop_zero, Nat.sub_zero] at this
        rw [Array.toList_map, this]
        rfl
    · cases h
  · cases h
theorem growBy_le (need : Nat) : ∀ (r c : Nat), c ≤ 2 * need + 192 → Builtin.growBy need r c ≤ 2 * need + 192 := by
  intro r
  induction r with
  | zero => intro c h; simpa [Builtin.growBy] using h
  | succ r ih =>
    intro c h
    simp only [Builtin.growBy]
    split
    · exact h
    · exact ih _ (by omega)
theorem nextslicecap_le (need old : Nat) (h : old < need) : Builtin.nextslicecap need old ≤ 2 * need + 192 := by
  unfold Builtin.nextslicecap
  split
  · omega
  · split
    · omega
    · exact growBy_le _ _ _ (by omega)
def notInt : TypeDesc → Bool
  | .int _ => false
  | _ => true
def aAppend (P : Program) (H : Heap) (nx : Nat) (argTypes : Array TypeId) (s x : Value) : Option (Value × Eff) :=
  match argTypes[0]?, argTypes[1]? with
  | some st, some xt =>
    match P.underlying st, P.underlying xt with
    | some (.slice elem), some xd =>
      match szOf P elem, bytesOfT P elem, zeroOf P elem with
      | some size, some bytes, some z =>
        if notInt xd ∧ z.length = size then
          match source H size x none with
          | some (n, xs) =>
            if xs.all (·.oneCell') then
            match s with
            | .slice none 0 0 =>
              if n = 0 then some (.slice none 0 0, .none)
              else if n ≤ 1099511627776 ∧ (2 * n + 192) * bytes ≤ 281474976710656 then some (.slice (some ⟨nx, 0, some nx⟩) n n, .new (.cells xs size (some nx) false (some elem))) else none
            | .slice (some a) len cap =>
              match H a.block with
              | some (.cells c esz tag ro q) =>
                if tag = a.spot then
                  if n = 0 ∧ len ≤ cap then some (.slice (some a) len cap, .none)
                  else match tag with
                  | none =>
                    if len + n ≤ cap then
                      (setc H ⟨a.block, a.off + len * size, a.spot⟩ xs).map fun o => (.slice (some a) (len + n) cap, .upd a.block o)
                    else if len + n ≤ 1099511627776 ∧ (2 * (len + n) + 192) * bytes ≤ 281474976710656 then
                      (getc H a (len * size)).map fun old => (.slice (some ⟨nx, 0, some nx⟩) (len + n) (len + n), .new (.cells (old ++ xs) size (some nx) false (some elem)))
                    else none
                  | some _ =>
                    if ro = false ∧ esz = size ∧ (q = none ∨ q = some elem) ∧ len + n ≤ 1099511627776 ∧ (2 * (len + n) + 192) * bytes ≤ 281474976710656 then
                      (getc H a (len * size)).map fun old => (.slice (some ⟨a.block, 0, some nx⟩) (len + n) (len + n), .bump a.block (.cells (old ++ xs) size (some nx) false q))
                    else none
                else none
              | _ => none
            | _ => none
            else none
          | none => none
        else none
      | _, _, _ => none
    | _, _ => none
  | _, _ => none
theorem run_append_in {st xt ty elem : TypeId} {xd : TypeDesc} {size n len cap : Nat} {x' : Value} {base : Option Addr} {l' : List Value} {args : Array TypeId}
    (ha0 : args[0]? = some st) (ha1 : args[1]? = some xt)
    (hst : P.underlying st = some (.slice elem)) (hxt : P.underlying xt = some xd) (hni : notInt xd = true) (hs : szOf P elem = some size) (hroom : len + n ≤ cap)
    (hlen : ∀ w', (Builtin.lenOf x').run P w' = .ok n w') (hfc : ∀ w' : World, w'.heap = w.heap → (Builtin.firstCells size n x').run P w' = .ok l'.toArray w') :
    (Builtin.append_ args ty #[.slice base len cap, x']).run P w = (match base with
      | some a => ((storeCells (a.add (len * size)) l' 0).run P w).andThen fun _ w' => .ok (.slice base (len + n) cap) w'
      | none => .ok (.slice base (len + n) cap) w) := by
  simp only [Builtin.append_, ha0, ha1, List.getElem?_toArray, List.getElem?_cons_zero, List.getElem?_cons_succ, Sem.run_bind, run_underlying hst, run_underlying hxt, Result.andThen_ok, run_sizeOf' hs, Sem.run_pure]
  have hz' : Builtin.append_.match_1 (fun _ => Bool) xd (fun _ => true) (fun _ => false) = false := by cases xd <;> first | rfl | simp [notInt] at hni
  simp only [hz', Bool.false_eq_true, if_false, Sem.run_bind, hlen, Result.andThen_ok, Bool.not_false, if_true]
  rw [if_pos hroom]
  simp only [Sem.run_bind, hfc w rfl, Result.andThen_ok]
  cases base with
  | none => simp
  | some a => simp
theorem run_append_out {st xt ty elem : TypeId} {xd : TypeDesc} {size n len cap bytes : Nat} {z : List Value} {x' : Value} {base : Option Addr} {l' old : List Value} {args : Array TypeId}
    (ha0 : args[0]? = some st) (ha1 : args[1]? = some xt)
    (hst : P.underlying st = some (.slice elem)) (hxt : P.underlying xt = some xd) (hni : notInt xd = true) (hs : szOf P elem = some size) (hb : bytesOfT P elem = some bytes) (hzo : zeroOf P elem = some z) (hroom : cap < len + n)
    (hbd : len + n ≤ 1099511627776) (hbd2 : (2 * (len + n) + 192) * bytes ≤ 281474976710656)
    (hlen : ∀ w', (Builtin.lenOf x').run P w' = .ok n w') (hfc : ∀ w' : World, w'.heap = w.heap → (Builtin.firstCells size n x').run P w' = .ok l'.toArray w')
    (hold : ∀ w' : World, w'.heap = w.heap → (Builtin.firstCells size len (.slice base len cap)).run P w' = .ok old.toArray w') :
    ∃ c, len + n ≤ c ∧ (Builtin.append_ args ty #[.slice base len cap, x']).run P w = .ok (.slice (some ⟨w.heap.size, 0, none⟩) (len + n) c) (w.drew.alloc (.cells ((old ++ l') ++ rep (c - (len + n)) z).toArray elem)) := by
  have hz' : Builtin.append_.match_1 (fun _ => Bool) xd (fun _ => true) (fun _ => false) = false := by cases xd <;> first | rfl | simp [notInt] at hni
  obtain ⟨i, hi, hib⟩ := run_typeInfo_bytes hb
  obtain ⟨zv, hzr, hzc, hzp⟩ := run_zeroOf hzo
  refine ⟨(Question.appendCap (len + n) cap elem).cut (w.tape w.drawn (.appendCap (len + n) cap elem)), by simp [Question.cut], ?_⟩
  generalize hc : (Question.appendCap (len + n) cap elem).cut (w.tape w.drawn (.appendCap (len + n) cap elem)) = c
  simp only [Builtin.append_, ha0, ha1, List.getElem?_toArray, List.getElem?_cons_zero, List.getElem?_cons_succ, Sem.run_bind, run_underlying hst, run_underlying hxt, Result.andThen_ok, run_sizeOf' hs, Sem.run_pure]
  simp only [hz', Bool.false_eq_true, if_false, Sem.run_bind, hlen, Result.andThen_ok, Bool.not_false, if_true]
  rw [if_neg (by omega)]
  have h63 : ¬ ((((len + n : Nat) : Int) > IntKind.i64.max) ∧ (False ∨ bytes = 0)) := by
    rintro ⟨h, _⟩
    have : IntKind.i64.max = 9223372036854775807 := rfl
    omega
  have h48 : ¬ (Builtin.nextslicecap (len + n) cap * bytes > 2 ^ 48) := by
    have := Nat.mul_le_mul_right bytes (nextslicecap_le (len + n) cap hroom)
    have h2 : (2 : Nat) ^ 48 = 281474976710656 := by decide
    omega
  have h63' : ¬ ((((len + n : Nat) : Int) > IntKind.i64.max)) := by
    have : IntKind.i64.max = 9223372036854775807 := rfl
    omega
  have hforced : (Question.appendCap (len + n) cap elem).forced = false := rfl
  simp only [Sem.run_bind, hi, Result.andThen_ok, hib, run_choose, hforced, Bool.false_eq_true, if_false, World.drew_eq, hc, run_askRoom, hzr, hzc]
  simp only [h63', h48, false_and, if_false, Sem.run_pure, Result.andThen_ok, Sem.run_bind, hi, hib, run_choose, hforced, Bool.false_eq_true, World.drew_eq, hc, run_askRoom, hold w.drew rfl, hfc w.drew rfl, hzr, hzc, newRow, run_newObj, World.alloc_eq, World.size_drew]
  have hzz := zero_cells z.toArray (c - (len + n))
  simp only [Builtin.zeroCells, hzz]
  simp
theorem aAppend_sound (hR : Rel W0 C nx H w) {args : Array TypeId} {ty : TypeId} {s s' x x' v : Value} {e : Eff} (h : aAppend P H nx args s x = some (v, e)) (hs : VR nx H C s s') (hx : VR nx H C x x') :
    Snd W0 C nx H ((Builtin.append_ args ty #[s', x']).run P w) v e := by
  unfold aAppend at h
  split at h
  case h_2 => cases h
  rename_i st xt ha0 ha1
  split at h
  case h_2 => cases h
  rename_i elem xd hst hxt
  split at h
  case h_2 => cases h
  rename_i size bytes z hsz hby hzo
  split at h
  case isFalse => cases h
  rename_i hc0
  obtain ⟨hni, hzl⟩ := hc0
  split at h
  case h_2 => cases h
  rename_i n xs hsrc
  split at h
  case isFalse => cases h
  rename_i hone
  obtain ⟨m, l', hlen, hnm, hxs, hxl, hfc⟩ := source_sound (P := P) hR hsrc hx
  simp only [cut] at hnm
  subst hnm
  split at h
  · -- nothing yet
    cases hs
    split at h
    · rename_i hn0
      subst hn0
      simp only [Option.some.injEq, Prod.mk.injEq] at h
      obtain ⟨rfl, rfl⟩ := h
      refine Snd.same hR (v' := .slice none 0 0) ?_ (.nils _ _)
      exact run_append_in (ty := ty) (base := none) (len := 0) (cap := 0) ha0 ha1 hst hxt hni hsz (Nat.le_refl _) hlen hfc
    · split at h
      · rename_i hn0 hbd
        simp only [Option.some.injEq, Prod.mk.injEq] at h
        obtain ⟨rfl, rfl⟩ := h
        obtain ⟨c, hcn, hrun⟩ := run_append_out (ty := ty) (base := none) (len := 0) (cap := 0) (old := []) (w := w) ha0 ha1 hst hxt hni hsz hby hzo (by omega) (by omega) (by simpa using hbd.2) hlen hfc (fun w' _ => rfl)
        simp only [Nat.zero_add, List.nil_append] at hrun hcn
        obtain ⟨C', hC, h1, h2⟩ := new_sound hR.drew hxs elem size (rep (c - n) z) (some nx) (by simp) (by simp)
        refine ⟨_, _, C', hrun, by simpa [Eff.H, Eff.nx] using h1, h2, ?_⟩
        rw [hC]
        refine .slc _ _ _ _ _ ⟨by simp [Eff.nx], by simp [Eff.nx]⟩ (fun o ho _ => ⟨by simp [Corr.at, Corr.put], ?_⟩)
        simp only [Eff.H, Heap.put, if_true, Option.some.injEq] at ho
        subst ho
        simp only [capOk, Corr.put, if_true, AObj.esz, length_rep, hzl]
        refine ⟨hcn, ?_⟩
        rw [← hxs.1, hxl, ← Nat.add_mul]
        have : n + (c - n) = c := by omega
        rw [this]; omega
      · cases h
  · rename_i a len cap
    split at h
    case h_2 => cases h
    rename_i cc esz tag ro q ho
    split at h
    case isFalse => cases h
    rename_i htag
    cases hs with
    | slc _ _ _ b cap' k1 k2 =>
    obtain ⟨rfl, k4⟩ := k2 _ ho htag
    have hlive : live H a := ⟨_, ho, htag⟩
    split at h
    · -- nothing more
      rename_i hn
      obtain ⟨hn0, hlc⟩ := hn
      subst hn0
      simp only [Option.some.injEq, Prod.mk.injEq] at h
      obtain ⟨rfl, rfl⟩ := h
      have hroom : len + 0 ≤ cap' := by
        unfold capOk at k4
        split at k4 <;> omega
      have hl0 : l' = [] := by
        have := hxs.1; rw [hxl] at this
        rw [← List.length_eq_zero_iff]; omega
      refine Snd.same hR (v' := .slice (some (C.at a)) len cap') ?_ (.slc a len cap _ cap' k1 k2)
      have hin := run_append_in (ty := ty) (base := some (C.at a)) (len := len) (cap := cap') (w := w) ha0 ha1 hst hxt hni hsz hroom hlen hfc
      simp only at hin
      rw [hin]
      subst hl0
      simp [storeCells]
    · rename_i hn
      cases htg : tag with
      | none =>
        rw [htg] at h
        simp only at h
        have hsp : a.spot = none := by rw [← htag]; exact htg
        simp only [capOk, hsp] at k4
        subst k4
        split at h
        · rename_i hroom
          simp only [Option.map_eq_some_iff, Prod.mk.injEq] at h
          obtain ⟨o, hset, rfl, rfl⟩ := h
          obtain ⟨w', e1, e2, e3⟩ := setc_sound (P := P) hR hset hxs
          have hat : C.at ⟨a.block, a.off + len * size, a.spot⟩ = (C.at a).add (len * size) := by simp [Corr.at, add_none, Nat.add_assoc]
          rw [hat] at e1
          refine ⟨.slice (some (C.at a)) (len + n) cap', w', C, ?_, e2, e3, ?_⟩
          · have hin := run_append_in (ty := ty) (base := some (C.at a)) (len := len) (cap := cap') (w := w) ha0 ha1 hst hxt hni hsz hroom hlen hfc
            simp only at hin
            rw [hin]
            simp only [e1, Result.andThen_ok]
          · exact .slc _ _ _ _ _ (k1.mono e3.le) (fun o' _ _ => ⟨rfl, by simp [capOk, hsp]⟩)
        · rename_i hroom
          split at h
          · rename_i hbd
            simp only [Option.map_eq_some_iff, Prod.mk.injEq] at h
            obtain ⟨old, hold, rfl, rfl⟩ := h
            obtain ⟨vs', hv, hvl, hvc⟩ := getc_sound hR hold
            obtain ⟨c, hcn, hrun⟩ := run_append_out (ty := ty) (base := some (C.at a)) (len := len) (cap := cap') (old := vs') (w := w) ha0 ha1 hst hxt hni hsz hby hzo (by omega) hbd.1 hbd.2 hlen hfc
              (fun w' hw' => by simp only [Builtin.firstCells]; exact run_loadCells hvl (fun i hi => by rw [cell?_heap hw']; exact hvc i hi))
            obtain ⟨C', hC, h1, h2⟩ := new_sound hR.drew (hv.append hxs) elem size (rep (c - (len + n)) z) (some nx) (by simp) (by simp)
            refine ⟨_, _, C', hrun, by simpa [Eff.H, Eff.nx] using h1, h2, ?_⟩
            rw [hC]
            refine .slc _ _ _ _ _ ⟨by simp [Eff.nx], by simp [Eff.nx]⟩ (fun o ho' _ => ⟨by simp [Corr.at, Corr.put], ?_⟩)
            simp only [Eff.H, Heap.put, if_true, Option.some.injEq] at ho'
            subst ho'
            simp only [capOk, Corr.put, if_true, AObj.esz, length_rep, hzl, List.length_append, hvl]
            refine ⟨hcn, ?_⟩
            rw [← hxs.1, hxl, ← Nat.add_mul, ← Nat.add_mul]
            have : len + n + (c - (len + n)) = c := by omega
            rw [this]; omega
          · cases h
      | some tg =>
        rw [htg] at h
        simp only at h
        have hsp : a.spot = some tg := by rw [← htag]; exact htg
        split at h
        case isFalse => cases h
        rename_i hcond
        obtain ⟨hro, hesz, hqe, hb1, hb2⟩ := hcond
        have hq : ∀ t, q = some t → elem = t := fun t ht => by
          rcases hqe with x | x
          · rw [x] at ht; cases ht
          · rw [x] at ht; exact Option.some.inj ht
        simp only [Option.map_eq_some_iff, Prod.mk.injEq] at h
        obtain ⟨old, hold, rfl, rfl⟩ := h
        simp only [capOk, hsp, AObj.esz, hesz] at k4
        obtain ⟨k5, k6⟩ := k4
        obtain ⟨vs', hv, hvl, hvc⟩ := getc_sound hR hold
        obtain ⟨Cc, el, fr, r1, r2, r3, r4, r5⟩ := hR.obj _ _ ho
        have hidlt := (hR.lt _ _ ho).1
        have hroObj : (AObj.cells cc esz tag ro q).ro = false := hro
        by_cases hroom : len + n ≤ cap'
        · -- there was room: the row is written
          have hmul : len * size + n * size ≤ cap' * size := by rw [← Nat.add_mul]; exact Nat.mul_le_mul_right _ hroom
          obtain ⟨w', Cc', e1, e2, e3, e4, e5, e6, e7, e8, e9, e10⟩ := run_storeCells (P := P) (C.loc a.block).1 ((C.loc a.block).2 + a.off + len * size) el fr l' 0 Cc w r1 (by rw [← hxs.1, hxl, r2]; omega) (r5.1 hro) (hxs.all_one hone)
          have hrun : (Builtin.append_ args ty #[.slice (some (C.at a)) len cap', x']).run P w = .ok (.slice (some (C.at a)) (len + n) cap') w' := by
            have hin := run_append_in (ty := ty) (base := some (C.at a)) (len := len) (cap := cap') (w := w) ha0 ha1 hst hxt hni hsz hroom hlen hfc
            simp only at hin
            rw [hin]
            have hat : (C.at a).add (len * size) = ⟨(C.loc a.block).1, (C.loc a.block).2 + a.off + len * size, none⟩ := by simp [Corr.at, add_none]
            rw [hat, e1]
            rfl
          have hbel : BelD W0.heap.size W0 w' := hR.below.trans ⟨e7, e8, e9, by omega, fun k hk => e5 k (by have := hR.own _ _ ho hro; omega), Nat.le_of_eq e10.symm⟩
          have key := hR.set (nx' := nx + 1) (w' := w') a.block _ (.cells (old ++ xs) size (some nx) false q) ((C.loc a.block).1, (C.loc a.block).2 + a.off) (C.siz a.block) ho hroObj (by omega) (.inr ⟨by omega, rfl⟩) (.inl rfl) (fun _ => rfl) hbel
            (fun k _ hk => e5 k hk) ?_
          · refine ⟨_, w', _, hrun, key.1, key.2, ?_⟩
            refine .slc _ _ _ _ _ ⟨by simp [Eff.nx]; omega, by simp [Eff.nx]⟩ (fun o ho' _ => ⟨by simp [Corr.at, Corr.put], ?_⟩)
            simp only [Eff.H, Heap.put, if_true, Option.some.injEq] at ho'
            subst ho'
            simp only [capOk, Corr.put, if_true, AObj.esz]
            omega
          · rintro C' rfl hst'
            refine ⟨Cc', el, fr, by simpa [Corr.put] using e2, by simp [Corr.put, e3, r2], ?_, ?_, ⟨fun _ => (by rw [e3]; exact r5.1 hro), r5.2.1, fun _ ht => (by cases ht), fun _ => (by rw [← hesz]; exact r5.2.2.2 hro)⟩⟩
            · simp only [Corr.put, if_true, List.length_append, hv.1, hvl, hxl, e3, r2]; omega
            · intro i hi hi'
              simp only [Corr.put, if_true] at hi' ⊢
              have hvx := (hv.append hxs).mono hst'
              have hi2 : i < (vs' ++ l').length := by rw [← (hv.append hxs).1]; exact hi
              have := hvx.2 i hi hi2
              have heq : Cc'[(C.loc a.block).2 + a.off + i] = (vs' ++ l')[i] := by
                apply Option.some.inj
                rw [← Array.getElem?_eq_getElem hi', e4]
                rw [← List.getElem?_eq_getElem hi2]
                by_cases c1 : i < len * size
                · rw [if_neg (by omega), List.getElem?_append_left (by omega)]
                  have := hvc i c1
                  simp only [Corr.at, add_none, World.cell?, r1] at this
                  simpa using this
                · have hi3 := hi2
                  rw [List.length_append, hvl] at hi3
                  rw [if_pos (by omega), List.getElem?_append_right (by omega), hvl]
                  congr 1; omega
              rw [heq]
              exact this
        · -- a new row
          obtain ⟨c, hcn, hrun⟩ := run_append_out (ty := ty) (base := some (C.at a)) (len := len) (cap := cap') (old := vs') (w := w) ha0 ha1 hst hxt hni hsz hby hzo (by omega) hb1 hb2 hlen hfc
            (fun w' hw' => by simp only [Builtin.firstCells]; exact run_loadCells hvl (fun i hi => by rw [cell?_heap hw']; exact hvc i hi))
          have hbel : BelD W0.heap.size W0 (w.drew.alloc (.cells ((vs' ++ l') ++ rep (c - (len + n)) z).toArray elem)) := hR.below.drew.alloc hR.below.size _
          have key := hR.set (nx' := nx + 1) (w' := w.drew.alloc (.cells ((vs' ++ l') ++ rep (c - (len + n)) z).toArray elem)) a.block _ (.cells (old ++ xs) size (some nx) false q) (w.heap.size, 0) (c * size) ho hroObj (by omega) (.inr ⟨by omega, rfl⟩) (.inr (Nat.le_refl _)) (fun h => by cases h) hbel
            (fun k hk _ => Below.heap_alloc _ _ _ hk) ?_
          · refine ⟨_, _, _, hrun, key.1, key.2, ?_⟩
            refine .slc _ _ _ _ _ ⟨by simp [Eff.nx]; omega, by simp [Eff.nx]⟩ (fun o ho' _ => ⟨by simp [Corr.at, Corr.put], ?_⟩)
            simp only [Eff.H, Heap.put, if_true, Option.some.injEq] at ho'
            subst ho'
            simp only [capOk, Corr.put, if_true, AObj.esz]
            omega
          · rintro C' rfl hst'
            have htot : ((vs' ++ l') ++ rep (c - (len + n)) z).length = c * size := by
              simp only [List.length_append, length_rep, hzl, hvl]
              rw [← hxs.1, hxl, ← Nat.add_mul, ← Nat.add_mul]
              congr 1; omega
            refine ⟨((vs' ++ l') ++ rep (c - (len + n)) z).toArray, elem, (0, 0), by simp only [Corr.put, if_true]; exact heap_alloc_new w.drew _, by simp only [Corr.put, if_true, List.size_toArray, htot], ?_, ?_, fun _ i _ => (by omega), hq, fun _ ht => (by cases ht), fun _ => .inr rfl⟩
            · simp only [Corr.put, if_true, List.size_toArray]
              simp only [List.length_append, hv.1, hxs.1]
              omega
            · intro i hi hi'
              simp only [Corr.put, if_true, Nat.zero_add, List.getElem_toArray]
              have hi2 : i < (vs' ++ l').length := by rw [← (hv.append hxs).1]; exact hi
              rw [List.getElem_append_left hi2]
              exact ((hv.append hxs).mono hst').2 i hi hi2
  · cases h
end
end Go.Am
namespace Go.Am
open Go.RowKit
section
variable {P : Program} {W0 : World} {C : Corr} {nx : Nat} {H : Heap} {w : World}
def aMakeSlice (P : Program) (nx : Nat) (t : TypeId) (l c : Value) : Option (Value × Eff) :=
  match P.underlying t, l, c with
  | some (.slice elem), .int _ l, .int _ c =>
    match szOf P elem, bytesOfT P elem, zeroOf P elem with
    | some size, some bytes, some z =>
      if 0 ≤ l ∧ l ≤ c ∧ c ≤ 1099511627776 ∧ bytes * c.toNat ≤ 140737488355328 ∧ z.length = size then
        some (.slice (some ⟨nx, 0, none⟩) l.toNat c.toNat, .new (.cells (rep c.toNat z) size none false (some elem)))
      else none
    | _, _, _ => none
  | _, _, _ => none
theorem aMakeSlice_sound (hR : Rel W0 C nx H w) {t : TypeId} {l l' c c' v : Value} {e : Eff} (h : aMakeSlice P nx t l c = some (v, e)) (hl : VR nx H C l l') (hc : VR nx H C c c') :
    Snd W0 C nx H ((Instr.makeSlice t l' c').run P w) v e := by
  unfold aMakeSlice at h
  split at h
  case h_2 => cases h
  rename_i elem kl l kc c hu
  split at h
  case h_2 => cases h
  rename_i size bytes z hs hb hz
  split at h
  case isFalse => cases h
  rename_i hcond
  obtain ⟨h0, hlc, hcb, hbb, hzl⟩ := hcond
  simp only [Option.some.injEq, Prod.mk.injEq] at h
  obtain ⟨rfl, rfl⟩ := h
  cases hl; cases hc
  obtain ⟨i, hi, hib⟩ := run_typeInfo_bytes hb
  obtain ⟨zv, hzr, hzc, hzp⟩ := run_zeroOf hz
  have hrep : VRs nx H C (rep c.toNat z) (rep c.toNat z) := plain_VRs (by simp only [rep, List.all_flatten, List.all_eq_true, List.mem_replicate]; rintro x ⟨_, rfl⟩; exact List.all_eq_true.1 hzp)
  obtain ⟨C', hC, h1, h2⟩ := new_sound hR hrep elem size [] none (by simp) (fun _ => rfl)
  refine ⟨.slice (some ⟨w.heap.size, 0, none⟩) l.toNat c.toNat, w.alloc (.cells (rep c.toNat z ++ []).toArray elem), C', ?_, by simpa [Eff.H, Eff.nx] using h1, h2, ?_⟩
  · have wl : IntKind.i64.wrap l = l := IntWalk.i64_in _ (by omega)
    have wc : IntKind.i64.wrap c = c := IntWalk.i64_in _ (by omega)
    have hbc : ((bytes : Int) * c) = ((bytes * c.toNat : Nat) : Int) := by
      rw [Int.natCast_mul]; congr 1; omega
    have h48 : ((2 : Int) ^ 48) = 281474976710656 := by decide
    simp only [Instr.makeSlice, asInt, asIntOf, Sem.run_bind, Sem.run_pure, run_underlying hu, Result.andThen_ok, hi, hib, wl, wc]
    have hn1 : ¬ (c < 0) := by omega
    have hn2 : ¬ (l < 0) := by omega
    have hn3 : ¬ (l > c) := by omega
    have hn4 : ¬ ((bytes : Int) * c > 2 ^ 48) := by rw [hbc, h48]; omega
    simp only [hn1, hn2, hn3, hn4, decide_false, Bool.or_false, Bool.false_eq_true, if_false, or_self, Sem.run_bind, run_askRoom, Result.andThen_ok, run_sizeOf' hs]
    by_cases hz0 : c.toNat * size = 0
    · have hr : rep c.toNat z = [] := by rw [← List.length_eq_zero_iff, length_rep, hzl]; exact hz0
      have hr0 : ∀ zero : Array Value, (Array.range 0).map (fun i => zero[i % zero.size]!) = #[] := fun zero => by simp
      simp only [hz0, if_true, Sem.run_pure, Result.andThen_ok, hr0, hr]
      simp [newRow]
    · have hzc2 := zero_cells z.toArray c.toNat
      simp only [List.size_toArray, hzl] at hzc2
      simp only [hz0, if_false, Sem.run_bind, hzr, Result.andThen_ok, Sem.run_pure, hzc, List.size_toArray, hzl, hzc2]
      simp [newRow]
  · rw [hC]
    exact .slc _ _ _ _ _ ⟨by simp [Eff.nx], by simp⟩ (fun o _ _ => ⟨by simp [Corr.at, Corr.put], by simp [capOk]⟩)
def aLen (P : Program) (H : Heap) (args : Array TypeId) (x : Value) : Option Value :=
  match args[0]? with
  | some t =>
    match P.underlying t, x with
    | some .string, .string s => some (.int .i64 s.data.toList.length)
    | some (.array n _), _ => some (.int .i64 n)
    | some (.slice _), .slice _ n _ => some (.int .i64 n)
    | some (.map _ _), .map none => some (.int .i64 0)
    | some (.map _ _), .map (some r) =>
      match H r with
      | some (.map es _ _) => some (.int .i64 es.length)
      | _ => none
    | _, _ => none
  | none => none
theorem aLen_sound (hR : Rel W0 C nx H w) {args : Array TypeId} {ty : TypeId} {x x' v : Value} (h : aLen P H args x = some v) (hx : VR nx H C x x') : Snd W0 C nx H ((Builtin.len_ args ty #[x']).run P w) v .none := by
  unfold aLen at h
  split at h
  case h_2 => cases h
  rename_i t ha
  split at h
  · rename_i s hu
    cases hx
    cases h
    refine Snd.same hR (v' := .int .i64 s.data.toList.length) ?_ (.int _ _)
    have : s.size = s.data.toList.length := by rw [Array.length_toList]; rfl
    simp only [Builtin.len_, ha, List.getElem?_toArray, List.getElem?_cons_zero, Sem.run_bind, run_underlying hu, Result.andThen_ok, Sem.run_pure, goInt, this]
  · rename_i n el hu
    cases h
    refine Snd.same hR (v' := .int .i64 n) ?_ (.int _ _)
    simp only [Builtin.len_, ha, List.getElem?_toArray, List.getElem?_cons_zero, Sem.run_bind, run_underlying hu, Result.andThen_ok, Sem.run_pure, goInt]
  · rename_i el a n c hu
    cases h
    refine Snd.same hR (v' := .int .i64 n) ?_ (.int _ _)
    cases hx <;> simp only [Builtin.len_, ha, List.getElem?_toArray, List.getElem?_cons_zero, Sem.run_bind, run_underlying hu, Result.andThen_ok, Sem.run_pure, goInt]
  · rename_i k el hu
    cases h
    cases hx
    refine Snd.same hR (v' := .int .i64 0) ?_ (.int _ _)
    simp only [Builtin.len_, ha, List.getElem?_toArray, List.getElem?_cons_zero, Sem.run_bind, run_underlying hu, Result.andThen_ok, Sem.run_pure, goInt]
  · rename_i k el r hu
    split at h
    · rename_i es bs clock hm
      cases h
      cases hx with
      | map _ r' h1 h2 =>
      obtain rfl := h2 _ hm rfl
      obtain ⟨es', e1, e2, e3, e4⟩ := hR.obj _ _ hm
      refine Snd.same hR (v' := .int .i64 es.length) ?_ (.int _ _)
      simp [Builtin.len_, ha, run_underlying hu, goInt, getObj, Sem.run, e1, e2]
    · cases h
  · cases h
theorem VRs.uncons {a : Value} {l l' : List Value} (h : VRs nx H C (a :: l) l') : ∃ a' r, l' = a' :: r ∧ VR nx H C a a' ∧ VRs nx H C l r := by
  cases l' with
  | nil => have := h.1; simp at this
  | cons a' r =>
    exact ⟨a', r, rfl, h.2 0 (by simp) (by simp), by have := h.1; simpa using this, fun i p q => h.2 (i + 1) (by simpa using p) (by simpa using q)⟩
def aExtract (x : Value) (i : Nat) : Option Value :=
  match x with
  | .tuple vs => vs.toList[i]?
  | _ => none
theorem aExtract_sound (hR : Rel W0 C nx H w) {x x' v : Value} {i : Nat} (h : aExtract x i = some v) (hx : VR nx H C x x') : Snd W0 C nx H ((Instr.extract x' i).run P w) v .none := by
  unfold aExtract at h
  split at h
  · rename_i vs
    cases hx with
    | tuple _ a' ha h1 =>
    have hv : VRs nx H C vs.toList a'.toList := ⟨by simpa using ha, fun i p q => h1 i (by simpa using p) (by simpa using q)⟩
    obtain ⟨v', e1, e2⟩ := hv.get? h
    refine Snd.same hR (v' := v') ?_ e2
    simp only [Array.getElem?_toList] at e1
    simp [Instr.extract, e1]
  · cases h
def isU8 (P : Program) (e : TypeId) : Bool :=
  match P.underlying e with
  | some (.int .u8) => true
  | _ => false
theorem isU8_spec {e : TypeId} (h : isU8 P e = true) : P.underlying e = some (.int .u8) := by
  unfold isU8 at h
  split at h
  · assumption
  · cases h
def u8cell : Value → Bool
  | .int .u8 _ => true
  | _ => false
def u8of : Value → UInt8
  | .int _ n => UInt8.ofNat n.toNat
  | _ => 0
def aConvert (P : Program) (nx : Nat) (H : Heap) (src dst : TypeId) (x : Value) : Option (Value × Eff) :=
  match P.underlying src, P.underlying dst, x with
  | some _, some (.int k), .int _ n => some (.int k (k.wrap n), .none)
  | some _, some .string, .string s => some (.string s, .none)
  | some _, some (.slice e), .string s =>
    if isU8 P e then some (.slice (some ⟨nx, 0, some nx⟩) s.data.toList.length s.data.toList.length, .new (.cells (s.data.toList.map bcell) 1 (some nx) false (some e))) else none
  | some (.slice e), some .string, .slice none _ _ => if isU8 P e then some (.string .empty, .none) else none
  | some (.slice e), some .string, .slice (some a) len _ =>
    if isU8 P e then
      match getc H a len with
      | some cs => if cs.all u8cell then some (.string ⟨(cs.map u8of).toArray⟩, .none) else none
      | none => none
    else none
  | _, _, _ => none
theorem freeze_alloc (w : World) (c : Array Value) (el : TypeId) (n : Nat) : (w.alloc (.cells c el (0, 0))).freeze ⟨w.heap.size, n, none⟩ 1 = w.alloc (.cells c el (n, n + 1)) := by
  simp only [World.freeze, World.alloc, Nat.succ_ne_zero, if_false]
  congr 1
  apply Array.ext_getElem?
  intro i
  rw [Array.getElem?_modify]
  by_cases h : w.heap.size = i
  · subst h; simp
  · rw [if_neg h, Array.getElem?_push, Array.getElem?_push]
    simp only [Ne.symm h, if_false]
theorem new_sound_fr (hR : Rel W0 C nx H w) {cs cs' : List Value} (hv : VRs nx H C cs cs') (el : TypeId) (esz : Nat) (rest : List Value) (tag : Option Nat) (ht : ∀ t, tag = some t → t = nx) (hr : tag = none → rest = []) (fr : Nat × Nat)
    (hfr : ∀ i, i < cs'.length + rest.length → ¬ (fr.1 ≤ i ∧ i < fr.2)) (hfz : esz = 1 ∨ fr = (0, 0)) :
    ∃ C', C' = C.put nx (w.heap.size, 0) (cs'.length + rest.length) ∧ Rel W0 C' (nx + 1) (H.put nx (.cells cs esz tag false (some el))) (w.alloc (.cells (cs' ++ rest).toArray el fr)) ∧ Stp nx H C (nx + 1) (H.put nx (.cells cs esz tag false (some el))) C' := by
  refine ⟨_, rfl, hR.new (.cells cs esz tag false (some el)) (.cells (cs' ++ rest).toArray el fr) 0 (cs'.length + rest.length) ht ?_⟩
  rintro C' rfl hst
  have hloc : (C.put nx (w.heap.size, 0) (cs'.length + rest.length)).loc nx = (w.heap.size, 0) := by simp [Corr.put]
  have hsiz : (C.put nx (w.heap.size, 0) (cs'.length + rest.length)).siz nx = cs'.length + rest.length := by simp [Corr.put]
  refine ⟨(cs' ++ rest).toArray, el, fr, ?_, ?_, ?_, ?_, ⟨fun _ i hi => hfr i (by simpa using hi), fun t ht => Option.some.inj ht, fun _ ht => ⟨(by simp [Corr.put]), (by simp [hr ht, hv.1])⟩, fun _ => hfz⟩⟩
  · rw [hloc]; exact heap_alloc_new w _
  · rw [hsiz]; simp
  · rw [hloc]; simp [hv.1]
  · intro i hi hi'
    have := (hv.2 i hi (by rw [← hv.1]; exact hi)).mono hst
    simp only [hloc, Nat.zero_add, List.getElem_toArray]
    rw [List.getElem_append_left (by rw [← hv.1]; exact hi)]
    exact this
theorem run_bytes_loop (g : Value → ByteArray → Sem (ForInStep ByteArray)) (hg : ∀ n r, g (.int .u8 n) r = pure (.yield (r.push (UInt8.ofNat n.toNat)))) : ∀ (cs : List Value) (acc : ByteArray), cs.all u8cell = true →
    (forIn cs acc g).run P w = .ok ⟨acc.data ++ (cs.map u8of).toArray⟩ w := by
  intro cs
  induction cs with
  | nil => intro acc _; simp
  | cons c r ih =>
    intro acc h
    simp only [List.all_cons, Bool.and_eq_true] at h
    obtain ⟨hc, hr⟩ := h
    cases c with
    | int k n =>
      cases k <;> first | (simp [u8cell] at hc; done) | skip
      simp only [List.forIn_cons, hg, Sem.run_bind, Sem.run_pure, Result.andThen_ok]
      rw [ih _ hr]
      congr 2
      simp [ByteArray.push, u8of]
    | _ => simp [u8cell] at hc
theorem aConvert_sound (hR : Rel W0 C nx H w) {src dst : TypeId} {x x' v : Value} {e : Eff} (h : aConvert P nx H src dst x = some (v, e)) (hx : VR nx H C x x') : Snd W0 C nx H ((convert src dst x').run P w) v e := by
  unfold aConvert at h
  split at h
  · rename_i sd k kk n hs hd
    cases h
    cases hx
    refine Snd.same hR (v' := .int k (k.wrap n)) ?_ (.int _ _)
    cases sd <;> simp [convert, run_underlying hs, run_underlying hd, Conv.intToInt]
  · rename_i sd s hs hd
    cases h
    cases hx
    refine Snd.same hR (v' := .string s) ?_ (.string _)
    cases sd <;> simp [convert, run_underlying hs, run_underlying hd]
  · rename_i sd el s hs hd
    split at h
    · rename_i hu8
      cases h
      cases hx
      have hu := isU8_spec hu8
      have hv : VRs nx H C (s.data.toList.map bcell) (s.data.toList.map bcell) := ⟨rfl, fun i a b => by simp only [List.getElem_map]; exact .int _ _⟩
      have hss : s.size = s.data.toList.length := by rw [Array.length_toList]; rfl
      generalize hc : (Question.appendCap s.size 0 el).cut (w.tape w.drawn (.appendCap s.size 0 el)) = c
      have hcn : s.size ≤ c := by rw [← hc]; simp [Question.cut]
      obtain ⟨C', hC, h1, h2⟩ := new_sound_fr hR.drew hv el 1 (List.replicate (c - s.size) (.int .u8 0)) (some nx) (by simp) (by simp) (c, c + 1) (by
        intro i hi
        simp only [List.length_map, List.length_replicate, ← hss] at hi
        omega) (.inl rfl)
      refine ⟨.slice (some ⟨w.heap.size, 0, none⟩) s.size c, _, C', ?_, by simpa [Eff.H, Eff.nx] using h1, h2, ?_⟩
      · have hforced : (Question.appendCap s.size 0 el).forced = false := rfl
        have hcells : (s.data.map bcell ++ Array.replicate (c - s.size) (Value.int .u8 0)) = ((s.data.toList.map bcell) ++ List.replicate (c - s.size) (Value.int .u8 0)).toArray := by
          apply Array.ext'; simp
        have hshape : (w.drew.alloc (.cells ((s.data.toList.map bcell) ++ List.replicate (c - s.size) (Value.int .u8 0)).toArray el)).shape? w.heap.size = some (el, c) := by
          simp only [World.shape?]
          rw [show (w.drew.alloc (.cells ((s.data.toList.map bcell) ++ List.replicate (c - s.size) (Value.int .u8 0)).toArray el)).heap[w.heap.size]? = _ from heap_alloc_new w.drew _]
          simp only [List.size_toArray, List.length_append, List.length_map, List.length_replicate, ← hss]
          congr 2; omega
        have hfz := freeze_alloc w.drew ((s.data.toList.map bcell) ++ List.replicate (c - s.size) (Value.int .u8 0)).toArray el c
        rw [World.size_drew] at hfz
        have hgoal : (Conv.stringToBytes el s).run P w = .ok (.slice (some ⟨w.heap.size, 0, none⟩) s.size c) (w.drew.alloc (.cells ((s.data.toList.map bcell) ++ List.replicate (c - s.size) (Value.int .u8 0)).toArray el (c, c + 1))) := by
          have hmap : s.data.map (fun b => Value.int .u8 b.toNat) = s.data.map bcell := rfl
          simp only [Conv.stringToBytes, hmap, Sem.run_bind, run_choose, hforced, Bool.false_eq_true, if_false, World.drew_eq, hc, Result.andThen_ok, newRow, run_newObj, World.alloc_eq, Sem.run_pure, World.size_drew, hcells, markStringish, run_shape, hshape, run_freeze, hfz]
        cases sd <;> simp only [convert, Sem.run_bind, run_underlying hs, run_underlying hd, run_underlying hu, Result.andThen_ok, hgoal]
      · rw [hC, ← hss]
        refine .slc _ _ _ _ _ ⟨by simp [Eff.nx], by simp [Eff.nx]⟩ (fun o ho _ => ⟨by simp [Corr.at, Corr.put], ?_⟩)
        simp only [Eff.H, Heap.put, if_true, Option.some.injEq] at ho
        subst ho
        simp only [capOk, Corr.put, if_true, AObj.esz, List.length_map, List.length_replicate, ← hss]
        omega
    · cases h
  · rename_i el l c hs hd
    split at h
    · rename_i hu8
      cases h
      cases hx
      have hu := isU8_spec hu8
      refine Snd.same hR (v' := .string .empty) ?_ (.string _)
      simp [convert, run_underlying hs, run_underlying hd, run_underlying hu, Conv.bytesToString]
    · cases h
  · rename_i el a len c hs hd
    split at h
    · rename_i hu8
      split at h
      · rename_i cs hg
        split at h
        · rename_i hall
          cases h
          have hu := isU8_spec hu8
          cases hx with
          | slc _ _ _ b c' k1 k2 =>
          obtain ⟨o, ho, ht⟩ := getc_live hg
          obtain ⟨rfl, _⟩ := k2 o ho ht
          obtain ⟨vs', hv, hl, hc⟩ := getc_sound hR hg
          have hsame : vs' = cs := by
            apply List.ext_getElem hv.1.symm
            intro i p q
            have := hv.2 i q p
            have hi := List.all_eq_true.1 hall cs[i] (List.getElem_mem q)
            generalize cs[i] = x at this hi
            generalize vs'[i] = y at this
            cases this <;> first | rfl | (simp [u8cell] at hi)
          subst hsame
          refine Snd.same hR (v' := .string ⟨(vs'.map u8of).toArray⟩) ?_ (.string _)
          simp only [convert, Sem.run_bind, run_underlying hs, run_underlying hd, run_underlying hu, Result.andThen_ok, Conv.bytesToString, run_loadCells hl hc]
          rw [← Array.forIn_toList]
          rw [run_bytes_loop (P := P) (w := w) _ (fun n r => rfl) vs'.toArray.toList ByteArray.empty (by simpa using hall)]
          simp only [Result.andThen_ok, Sem.run_pure]
          congr 2
          simp [ByteArray.empty, ByteArray.emptyWithCapacity]
          rfl
        · cases h
      · cases h
    · cases h
  · cases h
end
end Go.Am
namespace Go.Am
open Go.RowKit
section
variable {P : Program} {W0 : World} {C : Corr} {nx : Nat} {H : Heap} {w : World}
def intArith (op : BinOp) (k : IntKind) (x y : Int) : Option Value :=
  match op with
  | .add => some (.int k (k.wrap (x + y)))
  | .sub => some (.int k (k.wrap (x - y)))
  | .mul => some (.int k (k.wrap (x * y)))
  | .quo => if y = 0 then none else some (.int k (k.wrap (x.tdiv y)))
  | .rem => if y = 0 then none else some (.int k (x.tmod y))
  | .and => some (.int k (k.wrap ((BitVec.ofInt k.bits x &&& BitVec.ofInt k.bits y).toNat)))
  | .or => some (.int k (k.wrap ((BitVec.ofInt k.bits x ||| BitVec.ofInt k.bits y).toNat)))
  | .xor => some (.int k (k.wrap ((BitVec.ofInt k.bits x ^^^ BitVec.ofInt k.bits y).toNat)))
  | .andNot => some (.int k (k.wrap ((BitVec.ofInt k.bits x &&& ~~~ BitVec.ofInt k.bits y).toNat)))
  | .shl | .shr => none
  | .eql => some (.bool (x == y))
  | .neq => some (.bool (x != y))
  | .lss => some (.bool (decide (x < y)))
  | .leq => some (.bool (decide (x ≤ y)))
  | .gtr => some (.bool (decide (x > y)))
  | .geq => some (.bool (decide (x ≥ y)))
def aShift (op : BinOp) (k : IntKind) (x y : Int) : Option Value :=
  if y < 0 then none else
  match op with
  | .shl => some (.int k (k.wrap (x * 2 ^ (min y.toNat k.bits))))
  | .shr => some (.int k (x.fdiv (2 ^ (min y.toNat k.bits))))
  | _ => none
def sEq (s r : ByteArray) : Bool := s.data.toList == r.data.toList
def sLt (s r : ByteArray) : Bool := Op.bytesLess s.data.toList r.data.toList
def aString (op : BinOp) (s r : ByteArray) : Option Value :=
  match op with
  | .add => if s.data.toList.length + r.data.toList.length ≤ 1099511627776 then some (.string ⟨(s.data.toList ++ r.data.toList).toArray⟩) else none
  | .eql => some (.bool (sEq s r))
  | .neq => some (.bool (!sEq s r))
  | .lss => some (.bool (sLt s r))
  | .leq => some (.bool (sLt s r || sEq s r))
  | .gtr => some (.bool (!(sLt s r || sEq s r)))
  | .geq => some (.bool (!sLt s r))
  | _ => none
def eqFields (P : Program) (r : TypeId → Value → Value → Option Bool) (xs ys : List Value) : List Field → Option Bool
  | [] => some true
  | f :: fs =>
    if f.name = "_" then eqFields P r xs ys fs
    else
      match getPart P f.type xs f.offset, getPart P f.type ys f.offset with
      | some a, some b =>
        match r f.type a b with
        | some true => eqFields P r xs ys fs
        | some false => some false
        | none => none
      | _, _ => none
def eqItems (P : Program) (r : TypeId → Value → Value → Option Bool) (elem : TypeId) (n : Nat) (xs ys : List Value) : List Nat → Option Bool
  | [] => some true
  | i :: is =>
    match getPart P elem xs (i * n), getPart P elem ys (i * n) with
    | some a, some b =>
      match r elem a b with
      | some true => eqItems P r elem n xs ys is
      | some false => some false
      | none => none
    | _, _ => none
def apartO (a : Addr) (o : AObj) (b : Addr) (o2 : AObj) : Bool :=
  match o, o2 with
  | .cells _ e t false _, .cells _ e2 t2 false _ => decide (t = a.spot) && decide (t2 = b.spot) && !Nat.beq e 1 && !Nat.beq e2 1
  | _, _ => false
theorem apartO_spec {a b : Addr} {o o2 : AObj} (h : apartO a o b o2 = true) : ∃ c e q c2 e2 q2, o = .cells c e a.spot false q ∧ o2 = .cells c2 e2 b.spot false q2 ∧ e ≠ 1 ∧ e2 ≠ 1 := by
  unfold apartO at h
  split at h
  · rename_i c e t q c2 e2 t2 q2
    simp only [Bool.and_eq_true, decide_eq_true_eq, Bool.not_eq_true'] at h
    obtain ⟨⟨⟨rfl, rfl⟩, h1⟩, h2⟩ := h
    exact ⟨c, e, q, c2, e2, q2, rfl, rfl, fun x => (by subst x; cases h1), fun x => (by subst x; cases h2)⟩
  · cases h
theorem run_sameAddr_apart {a b : Addr} {ca cb : Array Value} {ta tb : TypeId} (hbl : a.block ≠ b.block) (ha : w.heap[a.block]? = some (.cells ca ta (0, 0))) (hb : w.heap[b.block]? = some (.cells cb tb (0, 0))) :
    (sameAddr a b).run P w = .ok false w := by
  simp [sameAddr, hbl, World.frozen?, ha, hb, noView, viewAt, World.shape?, mayBeOne, stringish]
def aEq (P : Program) (H : Heap) : Nat → TypeId → Value → Value → Option Bool
  | 0, _, _, _ => none
  | d + 1, t, x, y =>
    match P.underlying t with
    | none => none
    | some u =>
      match u, x, y with
      | .bool, .bool a, .bool b => some (a == b)
      | .int _, .int k a, .int k' b => if k = k' then some (a == b) else none
      | .string, .string a, .string b => some (sEq a b)
      | .pointer _, .pointer none, .pointer b => some b.isNone
      | .pointer _, .pointer (some _), .pointer none => some false
      | .pointer e, .pointer (some a), .pointer (some b) =>
        match szOf P e, H a.block with
        | some n, some o =>
          if n ≠ 0 ∧ a.block = b.block ∧ o.tag = a.spot ∧ b.spot = a.spot then some (a.off == b.off)
          else if n ≠ 0 ∧ a.block ≠ b.block then (match H b.block with | some o2 => if apartO a o b o2 then some false else none | none => none)
          else none
        | _, _ => none
      | .interface _, .nilIface, .nilIface => some true
      | .interface _, .nilIface, .iface _ _ => some false
      | .interface _, .iface _ _, .nilIface => some false
      | .slice _, .slice none _ _, .slice b _ _ => some b.isNone
      | .slice _, .slice (some _) _ _, .slice none _ _ => some false
      | .map _ _, .map none, .map b => some b.isNone
      | .map _ _, .map (some _), .map none => some false
      | .func _ _ _, .nilFunc, .nilFunc => some true
      | .func _ _ _, .nilFunc, .func _ _ _ => some false
      | .func _ _ _, .func _ _ _, .nilFunc => some false
      | .struct fields, .agg xs, .agg ys => if P.stoodInHeld t then none else eqFields P (aEq P H d) xs.toList ys.toList fields.toList
      | .array len elem, .agg xs, .agg ys =>
        match szOf P elem with
        | some n => eqItems P (aEq P H d) elem n xs.toList ys.toList (List.range len)
        | none => none
      | _, _, _ => none
theorem sEq_toList (s r : ByteArray) : (s == r) = sEq s r := by
  rw [beq_toListBytes, ByteArray.toList_eq, ByteArray.toList_eq]; rfl
theorem agg_VRs {xs xs' : Array Value} (ha : xs.size = xs'.size) (h1 : ∀ (i : Nat) (h : i < xs.size) (h' : i < xs'.size), VR nx H C xs[i] xs'[i]) : VRs nx H C xs.toList xs'.toList :=
  ⟨by simpa using ha, fun i p q => h1 i (by simpa using p) (by simpa using q)⟩
theorem eqFields_sound {r : TypeId → Value → Value → Option Bool} {d : Nat} (hr : ∀ t x y x' y' b, r t x y = some b → VR nx H C x x' → VR nx H C y y' → (Op.equalIn d t x' y').run P w = .ok b w)
    {xs ys : List Value} {xs' ys' : Array Value} (hx : VRs nx H C xs xs'.toList) (hy : VRs nx H C ys ys'.toList) : ∀ (fs : List Field) (b : Bool), eqFields P r xs ys fs = some b → (Op.eqFields d xs' ys' fs).run P w = .ok b w := by
  intro fs
  induction fs with
  | nil => intro b h; simp only [eqFields, Option.some.injEq] at h; simp [Op.eqFields, h]
  | cons f fs ih =>
    intro b h
    simp only [eqFields] at h
    split at h
    · rename_i hn
      simp only [Op.eqFields, hn, ne_eq, not_true_eq_false, if_false]
      exact ih b h
    · rename_i hn
      split at h
      · rename_i a c ha hc
        obtain ⟨a', ea, va⟩ := getPart_sound ha hx
        obtain ⟨c', ec, vc⟩ := getPart_sound hc hy
        simp only [Array.toArray_toList] at ea ec
        simp only [Op.eqFields, hn, ne_eq, not_false_eq_true, if_true, Sem.run_bind, ea, ec, Result.andThen_ok]
        split at h
        · rename_i hq
          rw [hr _ _ _ _ _ _ hq va vc]
          simpa using ih b h
        · rename_i hq
          rw [hr _ _ _ _ _ _ hq va vc]
          simp only [Option.some.injEq] at h
          simp [← h]
        · cases h
      · cases h
theorem eqItems_sound {r : TypeId → Value → Value → Option Bool} {d : Nat} (hr : ∀ t x y x' y' b, r t x y = some b → VR nx H C x x' → VR nx H C y y' → (Op.equalIn d t x' y').run P w = .ok b w)
    {xs ys : List Value} {xs' ys' : Array Value} (hx : VRs nx H C xs xs'.toList) (hy : VRs nx H C ys ys'.toList) (elem : TypeId) (n : Nat) : ∀ (is : List Nat) (b : Bool), eqItems P r elem n xs ys is = some b → (Op.eqItems d elem n xs' ys' is).run P w = .ok b w := by
  intro is
  induction is with
  | nil => intro b h; simp only [eqItems, Option.some.injEq] at h; simp [Op.eqItems, h]
  | cons i is ih =>
    intro b h
    simp only [eqItems] at h
    split at h
    · rename_i a c ha hc
      obtain ⟨a', ea, va⟩ := getPart_sound ha hx
      obtain ⟨c', ec, vc⟩ := getPart_sound hc hy
      simp only [Array.toArray_toList] at ea ec
      simp only [Op.eqItems, Sem.run_bind, ea, ec, Result.andThen_ok]
      split at h
      · rename_i hq
        rw [hr _ _ _ _ _ _ hq va vc]
        simpa using ih b h
      · rename_i hq
        rw [hr _ _ _ _ _ _ hq va vc]
        simp only [Option.some.injEq] at h
        simp [← h]
      · cases h
    · cases h
theorem aEq_sound (hR : Rel W0 C nx H w) : ∀ (d d' : Nat) (t : TypeId) (x y x' y' : Value) (b : Bool), d ≤ d' → aEq P H d t x y = some b → VR nx H C x x' → VR nx H C y y' → (Op.equalIn d' t x' y').run P w = .ok b w := by
  intro d
  induction d with
  | zero => intro d' t x y x' y' b _ h; simp [aEq] at h
  | succ d ih =>
    intro d' t x y x' y' b hd h hx hy
    obtain ⟨d', rfl⟩ : ∃ k, d' = k + 1 := ⟨d' - 1, by omega⟩
    have ih' := fun t x y x' y' b => ih d' t x y x' y' b (by omega)
    simp only [aEq] at h
    split at h
    · cases h
    · rename_i u hu
      split at h
      · cases hx; cases hy; simp only [Option.some.injEq] at h; simp [Op.equalIn, run_underlying hu, h]
      · split at h
        · rename_i hk
          subst hk
          cases hx; cases hy; simp only [Option.some.injEq] at h; simp [Op.equalIn, run_underlying hu, h]
        · cases h
      · cases hx; cases hy; simp only [Option.some.injEq] at h; simp [Op.equalIn, run_underlying hu, h, sEq_toList]
      · cases hx; cases hy <;> (simp only [Option.some.injEq] at h; simp [Op.equalIn, run_underlying hu, ← h])
      · cases hx; cases hy; simp only [Option.some.injEq] at h; simp [Op.equalIn, run_underlying hu, ← h]
      · rename_i e a c
        split at h
        · rename_i n o hn ho
          split at h
          · rename_i hc
            obtain ⟨h1, h2, h3, h4⟩ := hc
            simp only [Option.some.injEq] at h
            cases hx with
            | ptr _ a' k1 k2 =>
            cases hy with
            | ptr _ c' m1 m2 =>
            obtain rfl := k2 ⟨o, ho, h3⟩
            obtain rfl := m2 ⟨o, h2 ▸ ho, h3.trans h4.symm⟩
            have hblk : ((C.at a).block == (C.at c).block) = true := by simp [Corr.at, h2]
            have hres : (C.at a == C.at c) = b := by
              rw [← h]
              simp only [Corr.at, ← h2]
              by_cases e1 : a.off = c.off
              · simp [e1]
              · have : (a.off == c.off) = false := by simpa using e1
                rw [this, beq_eq_false_iff_ne]
                intro e2
                simp only [Addr.mk.injEq] at e2
                omega
            simp only [Op.equalIn, Sem.run_bind, run_underlying hu, Result.andThen_ok, run_sizeOf' hn, h1, ne_eq, not_false_eq_true, if_true, sameAddr, hblk, Sem.run_pure, hres]
          · split at h
            · rename_i hc
              obtain ⟨h1, hne⟩ := hc
              split at h
              · rename_i o2 ho2
                split at h
                · rename_i hap
                  cases h
                  obtain ⟨c1, e1, q1, c2, e2, q2, rfl, rfl, x1, x2⟩ := apartO_spec hap
                  cases hx with
                  | ptr _ a' k1 k2 =>
                  cases hy with
                  | ptr _ c' m1 m2 =>
                  obtain rfl := k2 ⟨_, ho, rfl⟩
                  obtain rfl := m2 ⟨_, ho2, rfl⟩
                  obtain ⟨Ca, ea, fa, g1, _, _, _, _, _, _, g8⟩ := hR.obj _ _ ho
                  obtain ⟨Cb, eb, fb, j1, _, _, _, _, _, _, j8⟩ := hR.obj _ _ ho2
                  obtain rfl := (g8 rfl).resolve_left x1
                  obtain rfl := (j8 rfl).resolve_left x2
                  have hsep := hR.sep _ _ _ _ ho ho2 hne rfl
                  have := run_sameAddr_apart (P := P) (a := C.at a) (b := C.at c) hsep g1 j1
                  simp only [Op.equalIn, Sem.run_bind, run_underlying hu, Result.andThen_ok, run_sizeOf' hn, h1, ne_eq, not_false_eq_true, if_true, this]
                · cases h
              · cases h
            · cases h
        · cases h
      · cases hx; cases hy; simp only [Option.some.injEq] at h; simp [Op.equalIn, run_underlying hu, h]
      · cases hx; cases hy; simp only [Option.some.injEq] at h; simp [Op.equalIn, run_underlying hu, h]
      · cases hx; cases hy; simp only [Option.some.injEq] at h; simp [Op.equalIn, run_underlying hu, h]
      · cases hx; cases hy <;> (simp only [Option.some.injEq] at h; simp [Op.equalIn, run_underlying hu, ← h])
      · cases hx; cases hy; simp only [Option.some.injEq] at h; simp [Op.equalIn, run_underlying hu, ← h]
      · cases hx; cases hy <;> (simp only [Option.some.injEq] at h; simp [Op.equalIn, run_underlying hu, ← h])
      · cases hx; cases hy; simp only [Option.some.injEq] at h; simp [Op.equalIn, run_underlying hu, ← h]
      · cases hx; cases hy; simp only [Option.some.injEq] at h; simp [Op.equalIn, run_underlying hu, h]
      · cases hx; cases hy; simp only [Option.some.injEq] at h; simp [Op.equalIn, run_underlying hu, h]
      · cases hx; cases hy; simp only [Option.some.injEq] at h; simp [Op.equalIn, run_underlying hu, h]
      · split at h
        · cases h
        · rename_i fields xs ys hst
          cases hx with
          | agg _ xs' hxa hx1 =>
          cases hy with
          | agg _ ys' hya hy1 =>
          have hf : P.fieldsOf t = fields := by simp [Program.fieldsOf, hu]
          rw [run_equalIn_struct w d' t xs' ys' (by rw [hf]; exact hu) (by simpa using hst), hf]
          exact eqFields_sound ih' (agg_VRs hxa hx1) (agg_VRs hya hy1) _ b h
      · split at h
        · rename_i len elem xs ys _ n hn
          cases hx with
          | agg _ xs' hxa hx1 =>
          cases hy with
          | agg _ ys' hya hy1 =>
          unfold szOf at hn
          cases hi : P.info? elem with
          | none => simp [hi] at hn
          | some i =>
            rw [run_equalIn_array w d' xs' ys' hu hi]
            have hcs : P.cellsOf elem = n := by simp [Program.cellsOf, hi] at hn ⊢; exact hn
            rw [hcs]
            exact eqItems_sound ih' (agg_VRs hxa hx1) (agg_VRs hya hy1) elem n _ b h
        · cases h
      · cases h
end
end Go.Am
namespace Go.Am
open Go.RowKit
section
variable {P : Program} {W0 : World} {C : Corr} {nx : Nat} {H : Heap} {w : World}
def aCheckKey (P : Program) : Nat → TypeId → Value → Bool
  | 0, _, _ => false
  | d + 1, t, v =>
    match P.underlying t with
    | none => false
    | some u =>
      match u, v with
      | .interface _, _ => false
      | .array len elem, .agg cs =>
        match szOf P elem with
        | some n => (List.range len).all fun i => match getPart P elem cs.toList (i * n) with | some p => aCheckKey P d elem p | none => false
        | none => false
      | .struct fs, .agg cs => fs.toList.all fun f => decide (f.name = "_") || (match getPart P f.type cs.toList f.offset with | some p => aCheckKey P d f.type p | none => false)
      | .array _ _, _ => false
      | .struct _, _ => false
      | _, _ => true
theorem run_forIn_unit {α : Type} (g : α → PUnit → Sem (ForInStep PUnit)) : ∀ (l : List α), (∀ x ∈ l, ∀ w, (g x ⟨⟩).run P w = .ok (.yield ⟨⟩) w) → ∀ w, (forIn l PUnit.unit g).run P w = .ok ⟨⟩ w := by
  intro l
  induction l with
  | nil => intro _ w; simp
  | cons x l ih =>
    intro h w
    simp only [List.forIn_cons, Sem.run_bind, h x (List.mem_cons_self ..), Result.andThen_ok]
    exact ih (fun y hy => h y (List.mem_cons_of_mem _ hy)) w
theorem aCheckKey_sound : ∀ (d d' : Nat) (t : TypeId) (v v' : Value) (e : Bool), d ≤ d' → aCheckKey P d t v = true → VR nx H C v v' → ∀ w, (Instr.checkKey e d' t v').run P w = .ok () w := by
  intro d
  induction d with
  | zero => intro d' t v v' e _ h; simp [aCheckKey] at h
  | succ d ih =>
    intro d' t v v' e hd h hv w
    obtain ⟨d', rfl⟩ : ∃ k, d' = k + 1 := ⟨d' - 1, by omega⟩
    simp only [aCheckKey] at h
    split at h
    · cases h
    · rename_i u hu
      split at h
      · cases h
      · rename_i len elem cs
        split at h
        · rename_i n hn
          cases hv with
          | agg _ cs' ha h1 =>
          simp only [Instr.checkKey, Sem.run_bind, run_underlying hu, Result.andThen_ok]
          simp only [Std.Legacy.Range.forIn_eq_forIn_range', Std.Legacy.Range.size, Nat.sub_zero, Nat.add_one_sub_one, Nat.div_one, ← List.range_eq_range']
          rw [run_forIn_unit]
          · rfl
          · intro i hi w
            rw [List.all_eq_true] at h
            have := h i hi
            split at this
            · rename_i p hp
              obtain ⟨p', ep, vp⟩ := getPart_sound hp (agg_VRs ha h1)
              simp only [Array.toArray_toList] at ep
              simp only [Sem.run_bind, run_sizeOf' hn, Result.andThen_ok, ep, ih d' elem p p' e (by omega) this vp, Sem.run_pure]
            · cases this
        · cases h
      · rename_i fs cs
        cases hv with
        | agg _ cs' ha h1 =>
        simp only [Instr.checkKey, Sem.run_bind, run_underlying hu, Result.andThen_ok]
        rw [← Array.forIn_toList, run_forIn_unit]
        · rfl
        · intro f hf w
          rw [List.all_eq_true] at h
          have := h f hf
          by_cases hn : f.name = "_"
          · simp [hn]
          · simp only [hn, decide_false, Bool.false_or] at this
            split at this
            · rename_i p hp
              obtain ⟨p', ep, vp⟩ := getPart_sound hp (agg_VRs ha h1)
              simp only [Array.toArray_toList] at ep
              simp only [hn, ne_eq, not_false_eq_true, if_true, Sem.run_bind, ep, Result.andThen_ok, ih d' f.type p p' e (by omega) this vp, Sem.run_pure]
            · cases this
      · cases h
      · cases h
      · rename_i h1 h2 h3 h4 h5
        simp only [Instr.checkKey, Sem.run_bind, run_underlying hu, Result.andThen_ok]
        cases u <;> first | rfl | (exfalso; first | exact h1 _ rfl | exact h2 _ _ rfl | exact h3 _ rfl | exact h4 _ _ rfl | exact h5 _ rfl | exact h4 _ rfl)
def scal : Value → Bool
  | .bool _ | .int _ _ | .string _ => true
  | _ => false
def plainKey : Value → Bool
  | .agg cs => cs.toList.all scal
  | v => scal v
theorem scal_eq {v v' : Value} (h : scal v = true) (hv : VR nx H C v v') : v' = v := by cases hv <;> first | rfl | (simp [scal] at h)
theorem scals_eq {l l' : List Value} (h : l.all scal = true) (hv : VRs nx H C l l') : l' = l := by
  apply List.ext_getElem hv.1.symm
  intro i p q
  exact scal_eq (List.all_eq_true.1 h _ (List.getElem_mem q)) (hv.2 i q p)
theorem plainKey_eq {v v' : Value} (h : plainKey v = true) (hv : VR nx H C v v') : v' = v := by
  cases hv with
  | agg a a' ha h1 =>
    have := scals_eq (by simpa [plainKey] using h) (agg_VRs ha h1)
    congr 1
    exact Array.toList_inj.1 this
  | _ => first | rfl | (simp [plainKey, scal] at h)
theorem scal_bits (n : Nat) {v : Value} (h : scal v = true) : Instr.sameBits n v v = true := by
  cases v <;> first | (simp [scal] at h; done) | (cases n <;> simp [Instr.sameBits, sEq_toList, sEq])
theorem plainKey_bits (n : Nat) {v : Value} (h : plainKey v = true) : Instr.sameBits (n + 1) v v = true := by
  cases v with
  | agg cs =>
    simp only [Instr.sameBits, beq_self_eq_true, Bool.true_and, List.all_eq_true]
    rintro ⟨x, y⟩ hxy
    have hxy' : x = y := by
      rw [List.zip_eq_zipWith] at hxy
      obtain ⟨i, h1, h2⟩ := List.getElem_of_mem hxy
      simp at h2
      exact h2.1.symm.trans h2.2
    subst hxy'
    have hm : x ∈ cs.toList := (List.of_mem_zip hxy).1
    exact scal_bits n (List.all_eq_true.1 (by simpa [plainKey] using h) x hm)
  | _ => exact scal_bits (n + 1) (by simpa [plainKey] using h)
def liveP (H : Heap) : Value → Bool
  | .pointer (some a) => match H a.block with | some o => decide (o.tag = a.spot) | none => false
  | _ => false
def keyOk (H : Heap) (k : Value) : Bool := plainKey k || liveP H k
theorem keyOk_uniq {k v v' : Value} (h : keyOk H k = true) (hv : VR nx H C k v) (hv' : VR nx H C k v') : v = v' := by
  unfold keyOk at h
  rw [Bool.or_eq_true] at h
  rcases h with h | h
  · rw [plainKey_eq h hv, plainKey_eq h hv']
  · unfold liveP at h
    split at h
    · rename_i a
      split at h
      · rename_i o ho
        have ht : o.tag = a.spot := by simpa using h
        cases hv with
        | ptr _ b h1 h2 =>
        cases hv' with
        | ptr _ b' k1 k2 =>
        rw [h2 ⟨o, ho, ht⟩, k2 ⟨o, ho, ht⟩]
      · cases h
    · cases h
theorem keyOk_bits (n : Nat) {k v : Value} (h : keyOk H k = true) (hv : VR nx H C k v) : Instr.sameBits (n + 1) v v = true := by
  unfold keyOk at h
  rw [Bool.or_eq_true] at h
  rcases h with h | h
  · rw [plainKey_eq h hv]; exact plainKey_bits n h
  · unfold liveP at h
    split at h
    · cases hv with
      | ptr _ b h1 h2 => simp [Instr.sameBits]
    · cases h
def aFind (P : Program) (H : Heap) (kt : TypeId) (k : Value) : List (Value × Value) → Nat → Option (Option (Nat × Value))
  | [], _ => some none
  | (k', v) :: l, i =>
    match aEq P H 60 kt k k' with
    | some true => some (some (i, v))
    | some false => aFind P H kt k l (i + 1)
    | none => none
def ERs (nx : Nat) (H : Heap) (C : Corr) : List (Value × Value) → List MapEntry → Prop
  | [], [] => True
  | (k, v) :: l, e :: l' => VR nx H C k e.key ∧ VR nx H C v e.val ∧ ERs nx H C l l'
  | _, _ => False
def FRel (nx : Nat) (H : Heap) (C : Corr) : Option (Nat × Value) → Option (Nat × Value) → Prop
  | none, none => True
  | some (j, v), some (j', v') => j = j' ∧ VR nx H C v v'
  | _, _ => False
def isNow : TypeDesc → Bool
  | .int _ | .string | .bool => true
  | _ => false
theorem findAsking_sound (hR : Rel W0 C nx H w) {kt : TypeId} {k k' : Value} (hk : VR nx H C k k') : ∀ (l : List (Value × Value)) (l' : List MapEntry) (i : Nat) (r : Option (Nat × Value)), aFind P H kt k l i = some r → ERs nx H C l l' →
    ∃ r', (Instr.findAsking kt k' l' i).run P w = .ok r' w ∧ FRel nx H C r r' := by
  intro l
  induction l with
  | nil =>
    intro l' i r h he
    cases l' with
    | nil => simp only [aFind, Option.some.injEq] at h; subst h; exact ⟨none, by simp [Instr.findAsking], trivial⟩
    | cons e l' => exact he.elim
  | cons x l ih =>
    obtain ⟨kx, vx⟩ := x
    intro l' i r h he
    cases l' with
    | nil => exact he.elim
    | cons e l' =>
      obtain ⟨h1, h2, h3⟩ := he
      simp only [aFind] at h
      split at h
      · rename_i hq
        simp only [Option.some.injEq] at h
        subst h
        have := aEq_sound (P := P) (w := w) hR 60 10000 kt k kx k' e.key true (by omega) hq hk h1
        exact ⟨some (i, e.val), by simp only [Instr.findAsking, Op.equal, Op.maxDepth, Sem.run_bind, this, Result.andThen_ok, if_true, Sem.run_pure], rfl, h2⟩
      · rename_i hq
        have := aEq_sound (P := P) (w := w) hR 60 10000 kt k kx k' e.key false (by omega) hq hk h1
        obtain ⟨r', e1, e2⟩ := ih l' (i + 1) r h h3
        exact ⟨r', by simp only [Instr.findAsking, Op.equal, Op.maxDepth, Sem.run_bind, this, Result.andThen_ok, Bool.false_eq_true, if_false, e1], e2⟩
      · cases h
theorem sameNow_of_aEq {kt : TypeId} {u : TypeDesc} (hu : P.underlying kt = some u) {k kx k' kx' : Value} {b : Bool} {d : Nat} (h : aEq P H (d + 1) kt k kx = some b) (hk : VR nx H C k k') (hx : VR nx H C kx kx') (hn : isNow u = true) : Instr.sameNow u k' kx' = some b := by
  simp only [aEq, hu] at h
  split at h <;> first | (simp [isNow] at hn; done) | skip
  · cases hk; cases hx; simpa [Instr.sameNow] using h
  · split at h
    · rename_i he; subst he; cases hk; cases hx; simpa [Instr.sameNow] using h
    · cases h
  · cases hk; cases hx
    simp only [Option.some.injEq] at h
    simp [Instr.sameNow, sEq_toList, h]
  · cases h
theorem findNow_sound {kt : TypeId} {u : TypeDesc} (hu : P.underlying kt = some u) (hn : isNow u = true) {k k' : Value} (hk : VR nx H C k k') : ∀ (l : List (Value × Value)) (l' : List MapEntry) (i : Nat) (r : Option (Nat × Value)), aFind P H kt k l i = some r → ERs nx H C l l' →
    ∃ r', Instr.findNow u k' l' i = some r' ∧ FRel nx H C r r' := by
  intro l
  induction l with
  | nil =>
    intro l' i r h he
    cases l' with
    | nil => simp only [aFind, Option.some.injEq] at h; subst h; exact ⟨none, by simp [Instr.findNow], trivial⟩
    | cons e l' => exact he.elim
  | cons x l ih =>
    obtain ⟨kx, vx⟩ := x
    intro l' i r h he
    cases l' with
    | nil => exact he.elim
    | cons e l' =>
      obtain ⟨h1, h2, h3⟩ := he
      simp only [aFind] at h
      split at h
      · rename_i hq
        simp only [Option.some.injEq] at h
        subst h
        exact ⟨some (i, e.val), by simp [Instr.findNow, sameNow_of_aEq (d := 59) hu hq hk h1 hn], rfl, h2⟩
      · rename_i hq
        obtain ⟨r', e1, e2⟩ := ih l' (i + 1) r h h3
        exact ⟨r', by simp [Instr.findNow, sameNow_of_aEq (d := 59) hu hq hk h1 hn, e1], e2⟩
      · cases h
theorem findNow_none {u : TypeDesc} (hn : isNow u = false) (k : Value) (e : MapEntry) (l : List MapEntry) (i : Nat) : Instr.findNow u k (e :: l) i = none := by
  simp only [Instr.findNow]
  have : Instr.sameNow u k e.key = none := by
    unfold Instr.sameNow
    split <;> first | rfl | (simp [isNow] at hn)
  rw [this]
theorem findKey_sound (hR : Rel W0 C nx H w) {kt : TypeId} {k k' : Value} (hk : VR nx H C k k') {l : List (Value × Value)} {l' : List MapEntry} {r : Option (Nat × Value)} (h : aFind P H kt k l 0 = some r) (he : ERs nx H C l l') {u : TypeDesc} (hu : P.underlying kt = some u) :
    ∃ r', (Instr.findKey kt k' l').run P w = .ok r' w ∧ FRel nx H C r r' := by
  cases hn : isNow u with
  | true =>
    obtain ⟨r', e1, e2⟩ := findNow_sound hu hn hk l l' 0 r h he
    exact ⟨r', by simp only [Instr.findKey, Sem.run_bind, run_underlying hu, Result.andThen_ok, e1, Sem.run_pure], e2⟩
  | false =>
    cases l' with
    | nil =>
      cases l with
      | nil =>
        simp only [aFind, Option.some.injEq] at h
        subst h
        exact ⟨none, by simp [Instr.findKey, run_underlying hu, Instr.findNow], trivial⟩
      | cons x l => exact he.elim
    | cons e l' =>
      obtain ⟨r', e1, e2⟩ := findAsking_sound (w := w) hR hk l (e :: l') 0 r h he
      exact ⟨r', by simp only [Instr.findKey, Sem.run_bind, run_underlying hu, Result.andThen_ok, findNow_none hn, e1], e2⟩
theorem ERs.of_index : ∀ {l : List (Value × Value)} {l' : List MapEntry}, l'.length = l.length → (∀ (i : Nat) (h : i < l.length) (h' : i < l'.length), VR nx H C l[i].1 l'[i].key ∧ VR nx H C l[i].2 l'[i].val) → ERs nx H C l l' := by
  intro l
  induction l with
  | nil => intro l' h _; have : l' = [] := List.length_eq_zero_iff.1 h; subst this; trivial
  | cons x l ih =>
    intro l' h h2
    cases l' with
    | nil => simp at h
    | cons e l' =>
      have h0 := h2 0 (by simp) (by simp)
      exact ⟨h0.1, h0.2, ih (by simpa using h) (fun i a b => h2 (i + 1) (by simpa using a) (by simpa using b))⟩
def mapOf (H : Heap) (x : Value) : Option (List (Value × Value)) :=
  match x with
  | .map none => some []
  | .map (some r) =>
    match H r with
    | some (.map es _ _) => some es
    | _ => none
  | _ => none
def zeroV (P : Program) (t : TypeId) : Option Value :=
  match (P.info? t).bind (·.zero) with
  | some (.agg cs) => if cs.toList.all plain1 then some (.agg cs) else none
  | some z => if plain1 z then some z else none
  | none => none
theorem run_zeroV {t : TypeId} {z : Value} (h : zeroV P t = some z) : (∀ w, (zeroValue t).run P w = .ok z w) ∧ VR nx H C z z := by
  unfold zeroV at h
  cases hi : P.info? t with
  | none => simp [hi] at h
  | some i =>
    cases hz : i.zero with
    | none => simp [hi, hz] at h
    | some u =>
      simp only [hi, hz, Option.bind_some] at h
      have hrun : ∀ w, (zeroValue t).run P w = .ok u w := fun w => by simp [zeroValue, typeInfo, hi, hz]
      split at h
      · rename_i cs hu
        split at h
        · rename_i hp
          cases h
          cases hu
          refine ⟨hrun, ?_⟩
          have := (plain_VRs (nx := nx) (H := H) (C := C) hp).agg
          simpa using this
        · cases h
      · rename_i hu
        split at h
        · rename_i hp
          cases h
          cases hu
          exact ⟨hrun, plain1_VR hp⟩
        · cases h
      · cases h
def aLookup (P : Program) (H : Heap) (t : TypeId) (x k : Value) (ok : Bool) : Option Value :=
  match P.underlying t with
  | some (.map kt et) =>
    match mapOf H x, zeroV P et with
    | some es, some z =>
      if aCheckKey P 60 kt k ∧ (P.underlying kt).isSome then
        match aFind P H kt k es 0 with
        | some (some (_, v)) => some (if ok then .tuple #[v, .bool true] else v)
        | some none => some (if ok then .tuple #[z, .bool false] else z)
        | none => none
      else none
    | _, _ => none
  | _ => none
theorem pair_VR {a a' : Value} {b : Bool} (h : VR nx H C a a') : VR nx H C (.tuple #[a, .bool b]) (.tuple #[a', .bool b]) := (VRs.cons h (VRs.cons (.bool b) VRs.nil)).tuple
theorem aLookup_sound (hR : Rel W0 C nx H w) {t : TypeId} {x x' k k' v : Value} {ok : Bool} (h : aLookup P H t x k ok = some v) (hx : VR nx H C x x') (hk : VR nx H C k k') : Snd W0 C nx H ((Instr.lookup t x' k' ok).run P w) v .none := by
  unfold aLookup at h
  split at h
  case h_2 => cases h
  rename_i kt et hu
  split at h
  case h_2 => cases h
  rename_i es z hes hz
  split at h
  case isFalse => cases h
  rename_i hc
  obtain ⟨hck, hkt⟩ := hc
  obtain ⟨u, hku⟩ := Option.isSome_iff_exists.1 hkt
  obtain ⟨zr, zv⟩ := run_zeroV (nx := nx) (H := H) (C := C) hz
  have hcheck := fun e => aCheckKey_sound (P := P) 60 10000 kt k k' e (by omega) hck hk
  -- the entries
  have hent : ∃ es' : Array MapEntry, ERs nx H C es es'.toList ∧ (Instr.lookup t x' k' ok).run P w = ((do
      Instr.checkKey es'.isEmpty 10000 kt k'
      let (v, ok') ← match ← Instr.findKey kt k' es'.toList with
        | some (_, v) => pure (v, true)
        | none => pure (← zeroValue et, false)
      pure (if ok then .tuple #[v, .bool ok'] else v) : Sem Value)).run P w := by
    unfold mapOf at hes
    split at hes
    · cases hes
      cases hx
      refine ⟨#[], trivial, ?_⟩
      simp only [Instr.lookup, Sem.run_bind, run_underlying hu, Result.andThen_ok, Sem.run_pure]
      rfl
    · rename_i r
      split at hes
      · rename_i es0 bs clock hr
        cases hes
        cases hx with
        | map _ r' m1 m2 =>
        obtain rfl := m2 _ hr rfl
        obtain ⟨es', e1, e2, e3, e4⟩ := hR.obj _ _ hr
        refine ⟨es', ERs.of_index (by simpa using e2) (fun i a b => by simpa using e3 i a (by simpa using b)), ?_⟩
        have hg : (getObj (C.loc r).1).run P w = .ok (.map es' clock) w := by simp [getObj, Sem.run, e1]
        simp only [Instr.lookup, Sem.run_bind, run_underlying hu, Result.andThen_ok, hg, Sem.run_pure]
        rfl
      · cases hes
    · cases hes
  obtain ⟨es', hers, hrun⟩ := hent
  split at h
  · rename_i j v0 hf
    cases h
    obtain ⟨r', e1, e2⟩ := findKey_sound (w := w) hR hk hf hers hku
    cases r' with
    | none => exact e2.elim
    | some jv =>
      obtain ⟨j', v'⟩ := jv
      obtain ⟨_, hv⟩ := e2
      refine Snd.same hR (v' := if ok then .tuple #[v', .bool true] else v') ?_ (by cases ok with | false => exact hv | true => exact pair_VR hv)
      rw [hrun]
      simp only [Sem.run_bind, hcheck, Result.andThen_ok, e1, Sem.run_pure]
  · rename_i hf
    cases h
    obtain ⟨r', e1, e2⟩ := findKey_sound (w := w) hR hk hf hers hku
    cases r' with
    | some jv => exact e2.elim
    | none =>
      refine Snd.same hR (v' := if ok then .tuple #[z, .bool false] else z) ?_ (by cases ok with | false => exact zv | true => exact pair_VR zv)
      rw [hrun]
      simp only [Sem.run_bind, hcheck, Result.andThen_ok, e1, Sem.run_pure, zr]
  · cases h
theorem setMap_sound (hR : Rel W0 C nx H w) {r : Nat} {es es1 : List (Value × Value)} {bs bs1 : List Nat} {clk : Nat} (hr : H r = some (.map es bs clk)) {es1' : Array MapEntry} {clock : Nat} (hb : es1'.toList.map (·.born) = bs1) (hs : es1'.size = es1.length)
    (hv : ∀ (i : Nat) (h : i < es1.length) (h' : i < es1'.size), VR nx H C es1[i].1 es1'[i].key ∧ VR nx H C es1[i].2 es1'[i].val) :
    ∃ w', (setObj (C.loc r).1 (.map es1' clock)).run P w = .ok () w' ∧ Rel W0 C nx (H.put r (.map es1 bs1 clock)) w' ∧ Stp nx H C nx (H.put r (.map es1 bs1 clock)) C := by
  obtain ⟨es', e1, _⟩ := hR.obj _ _ hr
  have hlt := (hR.obj _ _ hr).blk
  refine ⟨{ w with heap := w.heap.setIfInBounds (C.loc r).1 (.map es1' clock) }, by simp [setObj, Sem.run, e1], ?_⟩
  have hown := hR.own _ _ hr rfl
  have hbel : BelD W0.heap.size W0 { w with heap := w.heap.setIfInBounds (C.loc r).1 (.map es1' clock) } := hR.below.trans ⟨rfl, rfl, rfl, by simp, fun k hk => by
    show (w.heap.setIfInBounds (C.loc r).1 (.map es1' clock))[k]? = _
    rw [Array.getElem?_setIfInBounds_ne (by omega)], Nat.le_refl _⟩
  have hC : C.put r (C.loc r) (C.siz r) = C := by
    unfold Corr.put
    cases C with
    | mk l s => congr 1 <;> (funext i; simp; intro h; rw [h])
  have key := hR.set (w' := { w with heap := w.heap.setIfInBounds (C.loc r).1 (.map es1' clock) }) r _ (.map es1 bs1 clock) (C.loc r) (C.siz r) hr rfl (Nat.le_refl _) (.inl ⟨rfl, rfl, rfl, rfl⟩) (.inl rfl) (fun _ => rfl) hbel
    (fun k _ hk => by
      show (w.heap.setIfInBounds (C.loc r).1 (.map es1' clock))[k]? = _
      rw [Array.getElem?_setIfInBounds_ne (Ne.symm hk)]) ?_
  · rw [hC] at key; exact key
  · rintro C' rfl hst
    rw [hC] at hst ⊢
    refine ⟨es1', ?_, hs, fun i a b => ⟨(hv i a b).1.mono hst, (hv i a b).2.mono hst⟩, hb⟩
    show (w.heap.setIfInBounds (C.loc r).1 (.map es1' clock))[(C.loc r).1]? = _
    rw [Array.getElem?_setIfInBounds_self_of_lt hlt]
def aMapUpdate (P : Program) (H : Heap) (t : TypeId) (m k v : Value) : Option Eff :=
  match P.underlying t, m with
  | some (.map kt _), .map (some r) =>
    match H r with
    | some (.map es bs clk) =>
      if aCheckKey P 60 kt k ∧ (P.underlying kt).isSome ∧ keyOk H k then
        match aFind P H kt k es 0 with
        | some (some (i, _)) =>
          match es[i]? with
          | some (k0, _) => if veqk k0 k then some (.upd r (.map (es.set i (k, v)) bs clk)) else none
          | none => none
        | some none => some (.upd r (.map (es ++ [(k, v)]) (bs ++ [clk]) (clk + 1)))
        | none => none
      else none
    | _ => none
  | _, _ => none
where
  veqk : Value → Value → Bool
    | .agg a, .agg b => eqs a.toList b.toList
    | a, b => eq1 a b
  eqs : List Value → List Value → Bool
    | [], [] => true
    | a :: l, b :: l' => eq1 a b && eqs l l'
    | _, _ => false
  eq1 : Value → Value → Bool
    | .bool a, .bool b => a == b
    | .int k a, .int k' b => decide (k = k') && decide (a = b)
    | .string a, .string b => a.data.toList == b.data.toList
    | .pointer (some a), .pointer (some b) => Nat.beq a.block b.block && Nat.beq a.off b.off && decide (a.spot = b.spot)
    | _, _ => false
theorem eq1_spec {a b : Value} (h : aMapUpdate.eq1 a b = true) : a = b := by
  cases a <;> cases b <;> simp only [aMapUpdate.eq1, Bool.and_eq_true, decide_eq_true_eq, beq_iff_eq] at h <;> try (cases h; done)
  case bool => rw [h]
  case int => obtain ⟨rfl, rfl⟩ := h; rfl
  case string x y =>
    obtain ⟨⟨x⟩⟩ := x
    obtain ⟨⟨y⟩⟩ := y
    simp only at h
    rw [h]
  case pointer x y =>
    cases x with
    | none => simp [aMapUpdate.eq1] at h
    | some x =>
      cases y with
      | none => simp [aMapUpdate.eq1] at h
      | some y =>
        simp only [aMapUpdate.eq1, Bool.and_eq_true, decide_eq_true_eq] at h
        obtain ⟨x1, x2, x3⟩ := x
        obtain ⟨y1, y2, y3⟩ := y
        obtain ⟨⟨h1, h2⟩, h3⟩ := h
        simp only at h1 h2 h3
        rw [Nat.eq_of_beq_eq_true h1, Nat.eq_of_beq_eq_true h2, h3]
theorem eqs_spec : ∀ {a b : List Value}, aMapUpdate.eqs a b = true → a = b := by
  intro a
  induction a with
  | nil => intro b h; cases b with
    | nil => rfl
    | cons x y => simp [aMapUpdate.eqs] at h
  | cons x l ih =>
    intro b h
    cases b with
    | nil => simp [aMapUpdate.eqs] at h
    | cons y l' =>
      simp only [aMapUpdate.eqs, Bool.and_eq_true] at h
      rw [eq1_spec h.1, ih h.2]
theorem veqk_spec {a b : Value} (h : aMapUpdate.veqk a b = true) : a = b := by
  unfold aMapUpdate.veqk at h
  split at h
  · rename_i x y; have := eqs_spec h; obtain ⟨x⟩ := x; obtain ⟨y⟩ := y; simp only at this; rw [this]
  · exact eq1_spec h
theorem born_modify (a : Array MapEntry) (i : Nat) (k v : Value) : (a.modify i fun e => { e with key := k, val := v }).toList.map (·.born) = a.toList.map (·.born) := by
  apply List.ext_getElem
  · simp
  · intro j h1 h2
    simp only [List.getElem_map, Array.getElem_toList, Array.getElem_modify]
    split <;> rfl
theorem aMapUpdate_sound (hR : Rel W0 C nx H w) {t : TypeId} {m m' k k' v v' : Value} {e : Eff} (h : aMapUpdate P H t m k v = some e) (hm : VR nx H C m m') (hk : VR nx H C k k') (hv : VR nx H C v v') :
    ∃ w', (Instr.mapUpdate t m' k' v').run P w = .ok () w' ∧ Rel W0 C (e.nx nx) (e.H nx H) w' ∧ Stp nx H C (e.nx nx) (e.H nx H) C := by
  unfold aMapUpdate at h
  split at h
  case h_2 => cases h
  rename_i kt et r hu
  split at h
  case h_2 => cases h
  rename_i es bs clock hr
  split at h
  case isFalse => cases h
  rename_i hc
  obtain ⟨hck, hkt, hpk⟩ := hc
  obtain ⟨u, hku⟩ := Option.isSome_iff_exists.1 hkt
  have hcheck := aCheckKey_sound (P := P) 60 10000 kt k k' false (by omega) hck hk w
  cases hm with
  | map _ r' m1 m2 =>
  obtain rfl := m2 _ hr rfl
  obtain ⟨es', e1, e2, e3, e4⟩ := hR.obj _ _ hr
  have hg : (getObj (C.loc r).1).run P w = .ok (.map es' clock) w := by simp [getObj, Sem.run, e1]
  have hers : ERs nx H C es es'.toList := ERs.of_index (by simpa using e2) (fun i a b => by simpa using e3 i a (by simpa using b))
  split at h
  · rename_i i v0 hf
    split at h
    · rename_i k0 v1 hi
      split at h
      · rename_i heq
        cases h
        have hk0 := veqk_spec heq
        subst hk0
        obtain ⟨r', f1, f2⟩ := findKey_sound (w := w) hR hk hf hers hku
        cases r' with
        | none => exact f2.elim
        | some jv =>
          obtain ⟨j', v2⟩ := jv
          obtain ⟨rfl, _⟩ := f2
          have hilt : i < es.length := (List.getElem?_eq_some_iff.1 hi).1
          have hilt' : i < es'.size := by omega
          have hkey : es'[i].key = k' := by
            have := (e3 i hilt hilt').1
            rw [show es[i].1 = k0 by have := (List.getElem?_eq_some_iff.1 hi).2; rw [this]] at this
            exact keyOk_uniq hpk this hk
          have hstays : ∀ w, (Instr.keyThatStays (((es'[i]?).map (·.key)).getD k') k').run P w = .ok k' w := by
            intro w
            have : ((es'[i]?).map (·.key)).getD k' = k' := by simp [hilt', hkey]
            rw [this]
            simp [Instr.keyThatStays, keyOk_bits 9999 hpk hk]
          obtain ⟨w', g1, g2, g3⟩ := setMap_sound (P := P) hR hr (es1 := es.set i (k0, v)) (es1' := es'.modify i fun e => { e with key := k', val := v' }) (clock := clock) (bs1 := bs) (by rw [← e4, born_modify]) (by simp [e2]) (by
            intro j a b
            simp only [List.length_set] at a
            simp only [Array.size_modify] at b
            by_cases c : i = j
            · subst c
              simp only [List.getElem_set_self, Array.getElem_modify, if_true]
              exact ⟨hk, hv⟩
            · simp only [List.getElem_set_ne c, Array.getElem_modify, c, if_false]
              exact e3 j a b)
          refine ⟨w', ?_, g2, g3⟩
          simp only [Instr.mapUpdate, Sem.run_bind, run_underlying hu, Result.andThen_ok, hg, hcheck, f1, hstays, g1]
      · cases h
    · cases h
  · rename_i hf
    cases h
    obtain ⟨r', f1, f2⟩ := findKey_sound (w := w) hR hk hf hers hku
    cases r' with
    | some jv => exact f2.elim
    | none =>
      obtain ⟨w', g1, g2, g3⟩ := setMap_sound (P := P) hR hr (es1 := es ++ [(k, v)]) (es1' := es'.push { key := k', val := v', born := clock }) (clock := clock + 1) (bs1 := bs ++ [clock]) (by rw [← e4]; simp) (by simp [e2]) (by
        intro j a b
        simp only [List.length_append, List.length_singleton] at a
        simp only [Array.size_push] at b
        by_cases c : j < es.length
        · rw [List.getElem_append_left c, Array.getElem_push_lt (by omega)]
          exact e3 j c (by omega)
        · have : j = es.length := by omega
          subst this
          have h2 : (es'.push { key := k', val := v', born := clock })[es.length]'(by simp; omega) = { key := k', val := v', born := clock } := by
            simp only [← e2, Array.getElem_push_eq]
          rw [h2]
          simp only [List.getElem_append_right (Nat.le_refl _), Nat.sub_self, List.getElem_cons_zero]
          exact ⟨hk, hv⟩)
      refine ⟨w', ?_, g2, g3⟩
      simp only [Instr.mapUpdate, Sem.run_bind, run_underlying hu, Result.andThen_ok, hg, hcheck, f1, g1]
  · cases h
def aMakeMap (P : Program) (nx : Nat) (t : TypeId) (r : Option Value) : Option (Value × Eff) :=
  match r with
  | none => some (.map (some nx), .new (.map [] [] 0))
  | some (.int _ _) => match P.underlying t with | some (.map _ _) => some (.map (some nx), .new (.map [] [] 0)) | _ => none
  | some _ => none
theorem aMakeMap_sound (hR : Rel W0 C nx H w) {t : TypeId} {r r' : Option Value} {v : Value} {e : Eff} (h : aMakeMap P nx t r = some (v, e)) (hr : OVR nx H C r r') : Snd W0 C nx H ((Instr.makeMap t r').run P w) v e := by
  have key : Snd W0 C nx H (.ok (.map (some w.heap.size)) (w.alloc (.map #[] 0))) (.map (some nx)) (.new (.map [] [] 0)) := by
    obtain ⟨h1, h2⟩ := hR.new (.map [] [] 0) (.map #[] 0) 0 0 (by simp [AObj.tag]) (by
      rintro C' rfl hst
      refine ⟨#[], ?_, rfl, fun i a => absurd a (by simp), rfl⟩
      simp only [Corr.put, if_true]
      exact heap_alloc_new w _)
    exact ⟨_, _, _, rfl, h1, h2, .map _ _ (by simp [Eff.nx]) (fun o _ _ => by simp [Corr.put])⟩
  unfold aMakeMap at h
  split at h
  · cases h
    cases r' with
    | some x => exact hr.elim
    | none =>
      have : (Instr.makeMap t none).run P w = .ok (.map (some w.heap.size)) (w.alloc (.map #[] 0)) := by simp [Instr.makeMap]
      rw [this]; exact key
  · rename_i k n
    split at h
    · rename_i kt et hu
      cases h
      cases r' with
      | none => exact hr.elim
      | some x =>
        have hx : VR nx H C (.int k n) x := hr
        cases hx
        have : (Instr.makeMap t (some (.int k n))).run P w = .ok (.map (some w.heap.size)) (w.alloc (.map #[] 0)) := by simp [Instr.makeMap, run_underlying hu, asInt, asIntOf]
        rw [this]; exact key
    · cases h
  · cases h
end
end Go.Am
