/-
  strings.Builder: what it holds, by contracts: copyCheck, WriteByte, WriteString, String.
-/
import Derived.Test.YtngekapiemkgnaaBase1F
import Derived.Test.YtngekapiemkgnaaAmZK
import Derived.Test.YtngekapiemkgnaaAmY
import Derived.Test.YtngekapiemkgnaaAmW
namespace Go.Proofs.Ytngekapiemkgnaa
set_option linter.unusedSimpArgs false
set_option linter.unusedVariables false
open Go.Am Go.RowKit

section
variable {P : Program} {W0 : World} {H : Heap} {nx : Nat} {ev : Operand → Option Value} {dst : Option Tmp} {type : TypeId} {pos : String} {after : Array Edge} {guard : Option (Nat × Bool)}
theorem aop_nilCheck {x : Operand} {a : Addr} (hx : ev x = some (.pointer (some a))) : aop P H nx ev ⟨dst, .nilCheck x, type, pos, after, guard⟩ = some (.pointer (some a), .none) := by simp [aop, hx]
theorem aop_eqlP {t u : TypeId} {x y : Operand} {a b : Option Addr} {r : Bool} (hx : ev x = some (.pointer a)) (hy : ev y = some (.pointer b)) (he : aEq P H 60 t (.pointer a) (.pointer b) = some r) :
    aop P H nx ev ⟨dst, .binOp .eql t x y u, type, pos, after, guard⟩ = some (.bool r, .none) := by simp [aop, hx, hy, aBin, eqOk, he]
theorem aop_neqP {t u : TypeId} {x y : Operand} {a b : Option Addr} {r : Bool} (hx : ev x = some (.pointer a)) (hy : ev y = some (.pointer b)) (he : aEq P H 60 t (.pointer a) (.pointer b) = some r) :
    aop P H nx ev ⟨dst, .binOp .neq t x y u, type, pos, after, guard⟩ = some (.bool !r, .none) := by simp [aop, hx, hy, aBin, eqOk, he]
theorem aop_convP {s t : TypeId} {x : Operand} {a b : Addr} (hx : ev x = some (.pointer (some a))) (h0 : aConvert P nx H s t (.pointer (some a)) = none) (h : aConvPtr P H s t (.pointer (some a)) = some (.pointer (some b))) :
    aop P H nx ev ⟨dst, .convert s t x, type, pos, after, guard⟩ = some (.pointer (some b), .none) := by simp [aop, hx, h0, h]
theorem aop_sliceData {t : TypeId} {x : Operand} {v r : Value} (hx : ev x = some v) (h : aSliceData H v = some r) :
    aop P H nx ev ⟨dst, .call ⟨.builtin .unsafeSliceData, #[x], #[t]⟩, type, pos, after, guard⟩ = some (r, .none) := by simp [aop, evAll, hx, aBuiltin, h]
theorem aop_unsafeString {ts : Array TypeId} {x y : Operand} {v u : Value} {r : Value × Eff} (hx : ev x = some v) (hy : ev y = some u) (h : aUnsafeString P H ts v u = some r) :
    aop P H nx ev ⟨dst, .call ⟨.builtin .unsafeString, #[x, y], ts⟩, type, pos, after, guard⟩ = some r := by simp [aop, evAll, hx, hy, aBuiltin, h]
theorem aop_append0 {ob : Option (Nat × Nat)} {el : TypeId} {sz bytes k : Nat} {v u : Value} {cs z xs : List Value} {x y : Operand} {st xt : TypeId} {xd : TypeDesc} (hx : ev x = some v) (hy : ev y = some u) (hv : OwnRow H ob el sz v cs k)
    (hs : source H sz u none = some (0, xs)) (h1 : xs.all (·.oneCell') = true) (hst : P.underlying st = some (.slice el)) (hxt : P.underlying xt = some xd) (hxd : notInt xd = true)
    (hsz : szOf P el = some sz) (hby : bytesOfT P el = some bytes) (hz : zeroOf P el = some z) (hzl : z.length = sz) :
    aop P H nx ev ⟨dst, .call ⟨.builtin .append, #[x, y], #[st, xt]⟩, type, pos, after, guard⟩ = some (v, .none) := by
  cases ob with
  | none =>
    obtain ⟨rfl, rfl, rfl⟩ := hv
    simp [aop, hx, hy, evAll, aBuiltin, aAppend, hst, hxt, hsz, hby, hz, hxd, hzl, hs]
    rw [if_pos (by simpa using h1)]
  | some bt =>
    obtain ⟨b, t⟩ := bt
    obtain ⟨rfl, hc, rest, ho⟩ := hv
    simp [aop, hx, hy, evAll, aBuiltin, aAppend, hst, hxt, hsz, hby, hz, hxd, hzl, hs, ho]
    rw [if_pos (by simpa using h1)]
end

section
variable {P : Program} {W0 : World}
theorem OpsL.mono' {ops : Array Oper} {Q R : ASt → Prop} (hq : ∀ s, Q s → R s) : ∀ (l : List Oper) (st : ASt), OpsL P W0 ops l st Q → OpsL P W0 ops l st R := by
  intro l
  induction l with
  | nil => intro st h; exact hq _ h
  | cons o l ih =>
    intro st h
    obtain ⟨hd, h⟩ := h
    refine ⟨hd, ?_⟩
    rcases h with ⟨hw, h⟩ | ⟨hw, ⟨v, e, hop, h⟩ | ⟨f, args, R', hc, hf, hcall, h⟩⟩
    · exact .inl ⟨hw, ih _ h⟩
    · exact .inr ⟨hw, .inl ⟨v, e, hop, ih _ h⟩⟩
    · exact .inr ⟨hw, .inr ⟨f, args, R', hc, hf, hcall, fun v nx' H' hr => ih _ (h v nx' H' hr)⟩⟩

/-- The operations of a region, up to one that hands its argument through, and behind it. -/
theorem OpsL.opsX {ops : Array Oper} {Q : ASt → Prop} : ∀ (l l2 : List Oper) (k : Nat) (st : ASt), ops.toList.drop k = l ++ l2 → OpsL P W0 ops l st (fun s => Ops P W0 ops (List.range' (k + l.length) l2.length) s Q) → Ops P W0 ops (List.range' k (l.length + l2.length)) st Q := by
  intro l
  induction l with
  | nil =>
    intro l2 k st _ h
    have h' : Ops P W0 ops (List.range' (k + 0) l2.length) st Q := h
    simpa using h'
  | cons o l ih =>
    intro l2 k st hk h
    have ho : ops[k]? = some o := by
      have : (ops.toList.drop k)[0]? = some o := by rw [hk]; rfl
      rw [List.getElem?_drop] at this
      simpa using this
    have hk' : ops.toList.drop (k + 1) = l ++ l2 := by
      rw [← List.drop_drop, hk]; rfl
    rw [show (o :: l).length + l2.length = (l.length + l2.length) + 1 by simp; omega, List.range'_succ]
    have e : k + (o :: l).length = k + 1 + l.length := by simp; omega
    rw [e] at h
    obtain ⟨hd, h⟩ := h
    rcases h with ⟨hw, h⟩ | ⟨hw, ⟨v, e, hop, h⟩ | ⟨f, args, R, hc, hf, hcall, h⟩⟩
    · exact Ops.skip ho hw hd (ih _ _ _ hk' h)
    · exact Ops.step ho hw hd hop (ih _ _ _ hk' h)
    · exact Ops.call ho hw hd hc hf hcall fun v nx' H' hr => ih _ _ _ hk' (h v nx' H' hr)

theorem Trip.opsX {id : Nat} {ops : Array Oper} {l1 l2 : List Oper} {o : Oper} {st : ASt} {Q : AExit → ASt → Prop} (he : ops.toList = l1 ++ o :: l2)
    (h : OpsL P W0 ops l1 st fun s => dstOk s o = true ∧ wants ops s o = true ∧ ∃ f x, callee s o = some (f, [x]) ∧ IdExt P f ∧ OpsL P W0 ops l2 (s.put o.dst x .none) (Q .normal)) : Trip P W0 (.region id ops false) st Q := by
  refine Trip.region ?_
  have hlen : ops.size = l1.length + (o :: l2).length := by rw [← Array.length_toList, he, List.length_append]
  rw [hlen, List.range_eq_range']
  refine OpsL.opsX l1 (o :: l2) 0 st he (OpsL.mono' ?_ _ _ h)
  rintro s ⟨hd, hw, f, x, hc, hf, h2⟩
  rw [Nat.zero_add, List.length_cons, List.range'_succ]
  have ho : ops[l1.length]? = some o := by
    have : ops.toList[l1.length]? = some o := by rw [he, List.getElem?_append_right (Nat.le_refl _)]; simp
    simpa using this
  refine Ops.ext ho hw hd hc hf ?_
  exact OpsL.ops l2 (l1.length + 1) _ (by rw [he, ← List.drop_drop, List.drop_left]; rfl) h2
end

attribute [local irreducible] aop OpsL Trip blockExit OpsD OpsK

theorem bldNoEscape : IdExt Try.prog 40 := by
  intro x w
  have h : Try.prog.funcs[40]? = some Try.f40 := Try.func40
  simp only [callFunc, Sem.run_bind, run_program, Result.andThen_ok, h]
  rfl

/-- What a builder holds: its own address or none, and a row of bytes of its own; all that was there at (nx0, H0) is there. -/
def BldAt (nx0 : Nat) (H0 : Heap) (nx : Nat) (H : Heap) (b : Nat) (txt : List Int) : Prop :=
  Ext nx0 H0 nx H ∧ nx0 ≤ b ∧ b < nx ∧ (∀ x ∈ txt, 0 ≤ x ∧ x < 256) ∧ ∃ (av bv : Value) (ob : Option (Nat × Nat)), H b = some (.cells [av, bv] 0 none false (some 51)) ∧ (av = .pointer none ∨ av = .pointer (some ⟨b, 0, none⟩)) ∧
    OwnRow H ob 5 1 bv (txt.map (.int .u8 ·)) txt.length ∧ (∀ k t, ob = some (k, t) → nx0 ≤ k ∧ k < nx ∧ k ≠ b) ∧ (txt = [] → ob = none)

theorem bytes_src (H : Heap) (s : ByteArray) : source H 1 (.string s) none = some ((bs s).length, (bs s).map (.int .u8 ·)) := by
  have h1 : s.size = s.data.toList.length := by rw [Array.length_toList]; rfl
  simp only [source, cut, if_true, Option.some.injEq, Prod.mk.injEq]
  refine ⟨by rw [bs_length, h1], ?_⟩
  rw [h1, List.take_length]
  simp [bs, bcell]
theorem bytes_one (l : List Int) : (l.map (Value.int .u8 ·)).all (·.oneCell') = true := by simp [Value.oneCell']

theorem entersCopyCheck : Enters Try.prog 35 := ⟨Try.f35, Try.func35, by kernel_rfl, by kernel_rfl⟩
theorem entersWriteByte : Enters Try.prog 23 := ⟨Try.f23, Try.func23, by kernel_rfl, by kernel_rfl⟩
theorem entersWriteString : Enters Try.prog 36 := ⟨Try.f36, Try.func36, by kernel_rfl, by kernel_rfl⟩
theorem entersBString : Enters Try.prog 26 := ⟨Try.f26, Try.func26, by kernel_rfl, by kernel_rfl⟩

theorem conv_to (H : Heap) (nx : Nat) (b : Nat) (av bv : Value) (h : H b = some (.cells [av, bv] 0 none false (some 51))) : aConvPtr Try.prog H 49 71 (.pointer (some ⟨b, 0, none⟩)) = some (.pointer (some ⟨b, 0, none⟩)) := by
  have h1 : Try.prog.underlying 49 = some (.pointer 51) := rfl
  have h2 : Try.prog.underlying 71 = some .unsafePointer := rfl
  have h3 : szOf Try.prog 51 = some 2 := rfl
  simp [aConvPtr, h1, h2, h3, h]
theorem conv_from (H : Heap) (nx : Nat) (b : Nat) (av bv : Value) (h : H b = some (.cells [av, bv] 0 none false (some 51))) : aConvPtr Try.prog H 71 49 (.pointer (some ⟨b, 0, none⟩)) = some (.pointer (some ⟨b, 0, none⟩)) := by
  have h1 : Try.prog.underlying 49 = some (.pointer 51) := rfl
  have h2 : Try.prog.underlying 71 = some .unsafePointer := rfl
  have h3 : szOf Try.prog 51 = some 2 := rfl
  have h4 : liesAt Try.prog Try.prog.depth 51 (2 / Try.prog.cellsOf 51) 0 51 1 = true := by kernel_rfl
  simp [aConvPtr, h1, h2, h3, h, h4]
theorem conv_no (nx : Nat) (H : Heap) (a : Addr) : aConvert Try.prog nx H 49 71 (.pointer (some a)) = none ∧ aConvert Try.prog nx H 71 49 (.pointer (some a)) = none := by
  have h1 : Try.prog.underlying 49 = some (.pointer 51) := rfl
  have h2 : Try.prog.underlying 71 = some .unsafePointer := rfl
  exact ⟨by simp [aConvert, h1, h2], by simp [aConvert, h1, h2]⟩

theorem BldAt.cell0 {nx0 nx b : Nat} {H0 H : Heap} {av bv : Value} (h : H b = some (.cells [av, bv] 0 none false (some 51))) : cellAt H ⟨b, 0 + 0, none⟩ av := by
  simp [cellAt, getc, h]
theorem BldAt.cell1 {nx0 nx b : Nat} {H0 H : Heap} {av bv : Value} (h : H b = some (.cells [av, bv] 0 none false (some 51))) : cellAt H ⟨b, 0 + 1, none⟩ bv := by
  simp [cellAt, getc, h]

set_option maxRecDepth 20000 in
set_option maxHeartbeats 4000000 in
theorem copyCheckC (W0 : World) {nx0 nx b : Nat} {H0 H : Heap} {txt : List Int} (hb : BldAt nx0 H0 nx H b txt) :
    ACalls Try.prog W0 35 [.pointer (some ⟨b, 0, none⟩)] nx H fun v nx' H' => BldAt nx0 H0 nx' H' b txt := by
  obtain ⟨hx, hb0, hb1, htx, av, bv, ob, hH, hav, hrow, hob, hnil⟩ := hb
  refine ACalls.by_trip (fn := Try.f35) (c := _) Try.func35 rfl (fun tm n hn0 htm => ?_)
  have e0 : tm 0 = .pointer (some ⟨b, 0, none⟩) := htm 0
  clear htm
  replace hn0 : n = 20 := hn0
  have c0 := BldAt.cell0 (nx0 := nx0) (nx := nx) (H0 := H0) hH
  have h3 : szOf Try.prog 51 = some 2 := rfl
  have h1 : Try.prog.underlying 49 = some (.pointer 51) := rfl
  repeat (first | (refine OpsL.p (by subst_vars; decide) (by (first | (exact aop_move (by (first | (simp only [ASt.ev, tmPut, ↓reduceIte, reduceIte, Nat.reduceEqDiff, plain1, *]; rfl) | fail))) | fail)) ?_) | (refine Trip.seq ?_) | (refine Trip.ops ?_) | fail)
  refine OpsL.p (by subst_vars; decide) (aop_nilCheck (by (first | (simp only [ASt.ev, tmPut, ↓reduceIte, reduceIte, Nat.reduceEqDiff, plain1, *]; rfl) | fail))) ?_
  repeat (first | (refine OpsL.p (by subst_vars; decide) (by (first | (exact aop_fieldAddr (by (first | (simp only [ASt.ev, tmPut, ↓reduceIte, reduceIte, Nat.reduceEqDiff, plain1, *]; rfl) | fail)) (by exact rfl)) | (exact aop_load (by (first | (simp only [ASt.ev, tmPut, ↓reduceIte, reduceIte, Nat.reduceEqDiff, plain1, *]; rfl) | fail)) (by exact rfl) rfl (by assumption)) | fail)) ?_) | fail)
  rcases hav with rfl | rfl
  · refine OpsL.p (by subst_vars; decide) (aop_eqlP (a := none) (b := none) (r := true) (by (first | (simp only [ASt.ev, tmPut, ↓reduceIte, reduceIte, Nat.reduceEqDiff, plain1, *]; done) | fail)) (by (first | (simp only [ASt.ev, tmPut, ↓reduceIte, reduceIte, Nat.reduceEqDiff, plain1, *]; rfl) | fail)) (by simp [aEq, h1])) ?_
    repeat (first | (refine OpsL.nil ?_; ((repeat (first | refine blockExit_eq ?_ | refine blockExit_ne (by decide) ?_ | refine blockExit_normal ?_ | refine blockExit_ret ?_ | refine blockExit_goto ?_)); first | (change Trip _ _ _ _ _) | dsimp only | skip)) | fail)
    refine Trip.iteB (b := true) (by (first | (simp only [ASt.ev, tmPut, ↓reduceIte, reduceIte, Nat.reduceEqDiff, decide_true, decide_false, not_true_eq_false, not_false_eq_true, Bool.not_true, Bool.not_false, *]; done) | fail)) (fun _ => ?_) (fun h => absurd h (by decide))
    refine Trip.opsX (l1 := [_, _, _]) (o := _) (l2 := [_, _, _, _]) rfl ?_
    repeat (first | (refine OpsL.p (by subst_vars; decide) (by (first | (exact aop_move (by (first | (simp only [ASt.ev, tmPut, ↓reduceIte, reduceIte, Nat.reduceEqDiff, plain1, *]; rfl) | fail))) | fail)) ?_) | fail)
    refine OpsL.p (by subst_vars; decide) (aop_convP (by (first | (simp only [ASt.ev, tmPut, ↓reduceIte, reduceIte, Nat.reduceEqDiff, plain1, *]; done) | fail)) (conv_no _ _ _).1 (conv_to H nx b _ _ hH)) ?_
    refine OpsL.nil ?_
    refine ⟨by simp [dstOk, hn0], rfl, 40, .pointer (some ⟨b, 0, none⟩), by simp [callee, evAll, ASt.ev, tmPut], bldNoEscape, ?_⟩
    dsimp only [ASt.put, Eff.H, Eff.nx]
    refine OpsL.p (by subst_vars; decide) (aop_convP (by (first | (simp only [ASt.ev, tmPut, ↓reduceIte, reduceIte, Nat.reduceEqDiff, plain1, *]; done) | fail)) (conv_no _ _ _).2 (conv_from H nx b _ _ hH)) ?_
    refine OpsL.p (by subst_vars; decide) (aop_nilCheck (by (first | (simp only [ASt.ev, tmPut, ↓reduceIte, reduceIte, Nat.reduceEqDiff, plain1, *]; rfl) | fail))) ?_
    repeat (first | (refine OpsL.p (by subst_vars; decide) (by (first | (exact aop_fieldAddr (by (first | (simp only [ASt.ev, tmPut, ↓reduceIte, reduceIte, Nat.reduceEqDiff, plain1, *]; rfl) | fail)) (by exact rfl)) | fail)) ?_) | fail)
    refine OpsL.storeAt (j := 0) (cs := [.pointer none, bv]) (by (first | (simp only [ASt.ev, tmPut, ↓reduceIte, reduceIte, Nat.reduceEqDiff, plain1, *]; rfl) | fail)) (by (first | (simp only [ASt.ev, tmPut, ↓reduceIte, reduceIte, Nat.reduceEqDiff, plain1, *]; rfl) | fail)) (by exact rfl) rfl rfl hH rfl (by simp) rfl ?_
    repeat (first | (refine OpsL.nil ?_; ((repeat (first | refine blockExit_eq ?_ | refine blockExit_ne (by decide) ?_ | refine blockExit_normal ?_ | refine blockExit_ret ?_ | refine blockExit_goto ?_)); first | (change Trip _ _ _ _ _) | dsimp only | skip)) | fail)
    refine ⟨.inl rfl, _, rfl, ?_⟩
    refine ⟨hx.put hb0, hb0, hb1, htx, .pointer (some ⟨b, 0, none⟩), bv, ob, Heap.put_eq, .inr rfl, OwnRow.put_ne hrow (fun k t h => (hob k t h).2.2), hob, hnil⟩
  · refine OpsL.p (by subst_vars; decide) (aop_eqlP (a := some ⟨b, 0, none⟩) (b := none) (r := false) (by (first | (simp only [ASt.ev, tmPut, ↓reduceIte, reduceIte, Nat.reduceEqDiff, plain1, *]; done) | fail)) (by (first | (simp only [ASt.ev, tmPut, ↓reduceIte, reduceIte, Nat.reduceEqDiff, plain1, *]; rfl) | fail)) (by simp [aEq, h1])) ?_
    repeat (first | (refine OpsL.nil ?_; ((repeat (first | refine blockExit_eq ?_ | refine blockExit_ne (by decide) ?_ | refine blockExit_normal ?_ | refine blockExit_ret ?_ | refine blockExit_goto ?_)); first | (change Trip _ _ _ _ _) | dsimp only | skip)) | fail)
    refine Trip.iteB (b := false) (by (first | (simp only [ASt.ev, tmPut, ↓reduceIte, reduceIte, Nat.reduceEqDiff, decide_true, decide_false, not_true_eq_false, not_false_eq_true, Bool.not_true, Bool.not_false, *]; done) | fail)) (fun h => absurd h (by decide)) (fun _ => ?_)
    repeat (first | (refine OpsL.p (by subst_vars; decide) (by (first | (exact aop_move (by (first | (simp only [ASt.ev, tmPut, ↓reduceIte, reduceIte, Nat.reduceEqDiff, plain1, *]; rfl) | fail))) | fail)) ?_) | (refine Trip.seq ?_) | (refine Trip.ops ?_) | fail)
    refine OpsL.p (by subst_vars; decide) (aop_nilCheck (by (first | (simp only [ASt.ev, tmPut, ↓reduceIte, reduceIte, Nat.reduceEqDiff, plain1, *]; rfl) | fail))) ?_
    repeat (first | (refine OpsL.p (by subst_vars; decide) (by (first | (exact aop_move (by (first | (simp only [ASt.ev, tmPut, ↓reduceIte, reduceIte, Nat.reduceEqDiff, plain1, *]; rfl) | fail))) | (exact aop_fieldAddr (by (first | (simp only [ASt.ev, tmPut, ↓reduceIte, reduceIte, Nat.reduceEqDiff, plain1, *]; rfl) | fail)) (by exact rfl)) | (exact aop_load (by (first | (simp only [ASt.ev, tmPut, ↓reduceIte, reduceIte, Nat.reduceEqDiff, plain1, *]; rfl) | fail)) (by exact rfl) rfl (by assumption)) | fail)) ?_) | fail)
    refine OpsL.p (by subst_vars; decide) (aop_neqP (a := some ⟨b, 0, none⟩) (b := some ⟨b, 0, none⟩) (r := true) (by (first | (simp only [ASt.ev, tmPut, ↓reduceIte, reduceIte, Nat.reduceEqDiff, plain1, *]; done) | fail)) (by (first | (simp only [ASt.ev, tmPut, ↓reduceIte, reduceIte, Nat.reduceEqDiff, plain1, *]; done) | fail)) (by simp [aEq, h1, h3, hH, AObj.tag])) ?_
    repeat (first | (refine OpsL.nil ?_; ((repeat (first | refine blockExit_eq ?_ | refine blockExit_ne (by decide) ?_ | refine blockExit_normal ?_ | refine blockExit_ret ?_ | refine blockExit_goto ?_)); first | (change Trip _ _ _ _ _) | dsimp only | skip)) | fail)
    refine Trip.iteB (b := false) (by (first | (simp only [ASt.ev, tmPut, ↓reduceIte, reduceIte, Nat.reduceEqDiff, decide_true, decide_false, not_true_eq_false, not_false_eq_true, Bool.not_true, Bool.not_false, *]; done) | fail)) (fun h => absurd h (by decide)) (fun _ => ?_)
    repeat (first | (refine Trip.skip ?_; ((repeat (first | refine blockExit_eq ?_ | refine blockExit_ne (by decide) ?_ | refine blockExit_normal ?_ | refine blockExit_ret ?_ | refine blockExit_goto ?_)); first | (change Trip _ _ _ _ _) | dsimp only | skip)) | fail)
    exact ⟨.inl rfl, _, rfl, hx, hb0, hb1, htx, _, bv, ob, hH, .inr rfl, hrow, hob, hnil⟩

theorem OwnRow.grown {H : Heap} {nx k m sz : Nat} {ob : Option (Nat × Nat)} {el : TypeId} {v : Value} {cs xs : List Value} (hv : OwnRow H ob el sz v cs k) (hm : xs.length = m * sz) :
    OwnRow (H.put (blkOf nx ob) (.cells (cs ++ xs) sz (some nx) false (some el))) (some (blkOf nx ob, nx)) el sz (.slice (some ⟨blkOf nx ob, 0, some nx⟩) (k + m) (k + m)) (cs ++ xs) (k + m) := by
  refine ⟨rfl, ?_, [], by rw [Heap.put_eq, List.append_nil]⟩
  rw [List.length_append, hm, Nat.add_mul]
  cases ob with
  | none => obtain ⟨_, rfl, rfl⟩ := hv; simp
  | some bt => rw [hv.2.1]

theorem blkOf_facts {nx0 nx b : Nat} {ob : Option (Nat × Nat)} (h0 : nx0 ≤ nx) (hb : b < nx) (hob : ∀ k t, ob = some (k, t) → nx0 ≤ k ∧ k < nx ∧ k ≠ b) : nx0 ≤ blkOf nx ob ∧ blkOf nx ob < nx + 1 ∧ blkOf nx ob ≠ b := by
  cases ob with
  | none => simp only [blkOf]; omega
  | some bt => have := hob bt.1 bt.2 rfl; simp only [blkOf]; omega

set_option maxRecDepth 20000 in
set_option maxHeartbeats 4000000 in
theorem writeByteC (W0 : World) {nx0 nx b : Nat} {H0 H : Heap} {txt : List Int} {c : Int} (hb : BldAt nx0 H0 nx H b txt) (hc : 0 ≤ c ∧ c < 256) (hl : txt.length ≤ 1000000000) :
    ACalls Try.prog W0 23 [.pointer (some ⟨b, 0, none⟩), .int .u8 c] nx H fun v nx' H' => BldAt nx0 H0 nx' H' b (txt ++ [c]) := by
  refine ACalls.by_trip (fn := Try.f23) (c := _) Try.func23 rfl (fun tm n hn0 htm => ?_)
  have e0 : tm 0 = .pointer (some ⟨b, 0, none⟩) := htm 0
  have e1 : tm 1 = .int .u8 c := htm 1
  clear htm
  replace hn0 : n = 17 := hn0
  repeat (first | (refine OpsL.p (by subst_vars; decide) (by (first | (exact aop_move (by (first | (simp only [ASt.ev, tmPut, ↓reduceIte, reduceIte, Nat.reduceEqDiff, plain1, *]; rfl) | fail))) | (exact aop_assign (by (first | (simp only [ASt.ev, tmPut, ↓reduceIte, reduceIte, Nat.reduceEqDiff, plain1, *]; rfl) | fail))) | fail)) ?_) | (refine Trip.seq ?_) | (refine Trip.ops ?_) | (refine OpsL.nil ?_; ((repeat (first | refine blockExit_eq ?_ | refine blockExit_ne (by decide) ?_ | refine blockExit_normal ?_ | refine blockExit_ret ?_ | refine blockExit_goto ?_)); first | (change Trip _ _ _ _ _) | dsimp only | skip)) | fail)
  refine OpsL.call1 (by subst_vars; decide) (by (first | (simp only [ASt.ev, tmPut, ↓reduceIte, reduceIte, Nat.reduceEqDiff, plain1, *]; done) | fail)) entersCopyCheck (copyCheckC W0 hb) ?_
  rintro v1 nx1 H1 ⟨hx, hb0, hb1, htx, av, bv, ob, hH, hav, hrow, hob, hnil⟩
  have c1 := BldAt.cell1 (nx0 := nx0) (nx := nx) (H0 := H0) hH
  repeat (first | (refine OpsL.p (by subst_vars; decide) (by (first | (exact aop_move (by (first | (simp only [ASt.ev, tmPut, ↓reduceIte, reduceIte, Nat.reduceEqDiff, plain1, *]; rfl) | fail))) | fail)) ?_) | (refine Trip.seq ?_) | (refine Trip.ops ?_) | (refine OpsL.nil ?_; ((repeat (first | refine blockExit_eq ?_ | refine blockExit_ne (by decide) ?_ | refine blockExit_normal ?_ | refine blockExit_ret ?_ | refine blockExit_goto ?_)); first | (change Trip _ _ _ _ _) | dsimp only | skip)) | fail)
  refine OpsL.p (by subst_vars; decide) (aop_nilCheck (by (first | (simp only [ASt.ev, tmPut, ↓reduceIte, reduceIte, Nat.reduceEqDiff, plain1, *]; rfl) | fail))) ?_
  repeat (first | (refine OpsL.p (by subst_vars; decide) (by (first | (exact aop_move (by (first | (simp only [ASt.ev, tmPut, ↓reduceIte, reduceIte, Nat.reduceEqDiff, plain1, *]; rfl) | fail))) | (exact aop_fieldAddr (by (first | (simp only [ASt.ev, tmPut, ↓reduceIte, reduceIte, Nat.reduceEqDiff, plain1, *]; rfl) | fail)) (by exact rfl)) | (exact aop_load (by (first | (simp only [ASt.ev, tmPut, ↓reduceIte, reduceIte, Nat.reduceEqDiff, plain1, *]; rfl) | fail)) (by exact rfl) rfl (by assumption)) | fail)) ?_) | fail)
  refine OpsL.new (by subst_vars; decide) (aop_buildSlice1 (k := .u8) (a := c) (b := 0) (by (first | (simp only [ASt.ev, tmPut, ↓reduceIte, reduceIte, Nat.reduceEqDiff, plain1, *]; done) | fail)) (by exact rfl) (by exact rfl) (by exact rfl)) ?_
  obtain ⟨f1, f2, f3⟩ := blkOf_facts (nx0 := nx0) (b := b) (nx := nx1 + 1) (ob := ob) (by have := hx.1; omega) (by omega) (fun k t h => by have := hob k t h; exact ⟨this.1, by omega, this.2.2⟩)
  have hrow1 := OwnRow.put_ne (j := nx1) (o := .cells [.int .u8 c] 1 none false (some 5)) hrow (fun k t h => by have := hob k t h; omega)
  refine OpsL.append (sz := 1) (bytes := 1) (k := txt.length) (m := 1) (cs := txt.map (.int .u8 ·)) (xs := [.int .u8 c]) (ob := ob) (u := .slice (some ⟨nx1, 0, none⟩) 1 1) (xd := .slice 5) (v := bv) (el := 5) (z := [.int .u8 0]) (by subst_vars; decide) (by (first | (simp only [ASt.ev, tmPut, ↓reduceIte, reduceIte, Nat.reduceEqDiff, plain1, *]; done) | fail)) (by (first | (simp only [ASt.ev, tmPut, ↓reduceIte, reduceIte, Nat.reduceEqDiff, plain1, *]; done) | fail))
    hrow1 (source_own (by exact Heap.put_eq) rfl (by omega)) rfl (by omega) (by exact rfl) (by exact rfl) rfl (by exact rfl) (by exact rfl) (by exact rfl) rfl (by omega) (by omega) ?_
  have hgr := OwnRow.grown (nx := nx1 + 1) (m := 1) (xs := [.int .u8 c]) hrow1 rfl
  refine OpsL.p (by subst_vars; decide) (aop_nilCheck (by (first | (simp only [ASt.ev, tmPut, ↓reduceIte, reduceIte, Nat.reduceEqDiff, plain1, *]; rfl) | fail))) ?_
  repeat (first | (refine OpsL.p (by subst_vars; decide) (by (first | (exact aop_fieldAddr (by (first | (simp only [ASt.ev, tmPut, ↓reduceIte, reduceIte, Nat.reduceEqDiff, plain1, *]; rfl) | fail)) (by exact rfl)) | fail)) ?_) | fail)
  refine OpsL.storeAt (j := 1) (cs := [av, bv]) (by (first | (simp only [ASt.ev, tmPut, ↓reduceIte, reduceIte, Nat.reduceEqDiff, plain1, *]; rfl) | fail)) (by (first | (simp only [ASt.ev, tmPut, ↓reduceIte, reduceIte, Nat.reduceEqDiff, plain1, *]; rfl) | fail)) (by exact rfl) rfl rfl (by rw [Heap.put_ne (Ne.symm f3), Heap.put_ne (by show b ≠ nx1; omega)]; exact hH) rfl (by simp) rfl ?_
  repeat (first | (refine OpsL.p (by subst_vars; decide) (by (first | (exact aop_assign (by (first | (simp only [ASt.ev, tmPut, ↓reduceIte, reduceIte, Nat.reduceEqDiff, plain1, *]; rfl) | fail))) | fail)) ?_) | (refine Trip.seq ?_) | (refine Trip.ops ?_) | (refine Trip.ret ?_; ((repeat (first | refine blockExit_eq ?_ | refine blockExit_ne (by decide) ?_ | refine blockExit_normal ?_ | refine blockExit_ret ?_ | refine blockExit_goto ?_)); first | (change Trip _ _ _ _ _) | dsimp only | skip)) | (refine OpsL.nil ?_; ((repeat (first | refine blockExit_eq ?_ | refine blockExit_ne (by decide) ?_ | refine blockExit_normal ?_ | refine blockExit_ret ?_ | refine blockExit_goto ?_)); first | (change Trip _ _ _ _ _) | dsimp only | skip)) | fail)
  refine ⟨.inr rfl, _, rfl, ?_⟩
  refine ⟨(((hx.up (by omega : nx1 ≤ nx1 + 1 + 1)).put (by omega)).put f1).put hb0, hb0, by omega, ?_, av, _, some (blkOf (nx1 + 1) ob, nx1 + 1), Heap.put_eq, hav, ?_, ?_, by simp⟩
  · intro x hx2
    rw [List.mem_append, List.mem_singleton] at hx2
    rcases hx2 with h | rfl
    · exact htx x h
    · exact hc
  · refine OwnRow.put_ne ?_ (fun k t h => by cases h; exact f3)
    rw [List.map_append, List.length_append]
    exact hgr
  · intro k t h
    cases h
    exact ⟨f1, f2, f3⟩

set_option maxRecDepth 20000 in
set_option maxHeartbeats 4000000 in
theorem writeStringC (W0 : World) {nx0 nx b : Nat} {H0 H : Heap} {txt : List Int} {s : ByteArray} (hb : BldAt nx0 H0 nx H b txt) (hl : txt.length ≤ 1000000000) (hs : (bs s).length ≤ 1000000000) :
    ACalls Try.prog W0 36 [.pointer (some ⟨b, 0, none⟩), .string s] nx H fun v nx' H' => BldAt nx0 H0 nx' H' b (txt ++ bs s) := by
  refine ACalls.by_trip (fn := Try.f36) (c := _) Try.func36 rfl (fun tm n hn0 htm => ?_)
  have e0 : tm 0 = .pointer (some ⟨b, 0, none⟩) := htm 0
  have e1 : tm 1 = .string s := htm 1
  clear htm
  replace hn0 : n = 19 := hn0
  repeat (first | (refine OpsL.p (by subst_vars; decide) (by (first | (exact aop_move (by (first | (simp only [ASt.ev, tmPut, ↓reduceIte, reduceIte, Nat.reduceEqDiff, plain1, *]; rfl) | fail))) | (exact aop_assign (by (first | (simp only [ASt.ev, tmPut, ↓reduceIte, reduceIte, Nat.reduceEqDiff, plain1, *]; rfl) | fail))) | fail)) ?_) | (refine Trip.seq ?_) | (refine Trip.ops ?_) | (refine OpsL.nil ?_; ((repeat (first | refine blockExit_eq ?_ | refine blockExit_ne (by decide) ?_ | refine blockExit_normal ?_ | refine blockExit_ret ?_ | refine blockExit_goto ?_)); first | (change Trip _ _ _ _ _) | dsimp only | skip)) | fail)
  refine OpsL.call1 (by subst_vars; decide) (by (first | (simp only [ASt.ev, tmPut, ↓reduceIte, reduceIte, Nat.reduceEqDiff, plain1, *]; done) | fail)) entersCopyCheck (copyCheckC W0 hb) ?_
  rintro v1 nx1 H1 ⟨hx, hb0, hb1, htx, av, bv, ob, hH, hav, hrow, hob, hnil⟩
  have c1 := BldAt.cell1 (nx0 := nx0) (nx := nx) (H0 := H0) hH
  repeat (first | (refine OpsL.p (by subst_vars; decide) (by (first | (exact aop_move (by (first | (simp only [ASt.ev, tmPut, ↓reduceIte, reduceIte, Nat.reduceEqDiff, plain1, *]; rfl) | fail))) | fail)) ?_) | (refine Trip.seq ?_) | (refine Trip.ops ?_) | (refine OpsL.nil ?_; ((repeat (first | refine blockExit_eq ?_ | refine blockExit_ne (by decide) ?_ | refine blockExit_normal ?_ | refine blockExit_ret ?_ | refine blockExit_goto ?_)); first | (change Trip _ _ _ _ _) | dsimp only | skip)) | fail)
  refine OpsL.p (by subst_vars; decide) (aop_nilCheck (by (first | (simp only [ASt.ev, tmPut, ↓reduceIte, reduceIte, Nat.reduceEqDiff, plain1, *]; rfl) | fail))) ?_
  repeat (first | (refine OpsL.p (by subst_vars; decide) (by (first | (exact aop_move (by (first | (simp only [ASt.ev, tmPut, ↓reduceIte, reduceIte, Nat.reduceEqDiff, plain1, *]; rfl) | fail))) | (exact aop_fieldAddr (by (first | (simp only [ASt.ev, tmPut, ↓reduceIte, reduceIte, Nat.reduceEqDiff, plain1, *]; rfl) | fail)) (by exact rfl)) | (exact aop_load (by (first | (simp only [ASt.ev, tmPut, ↓reduceIte, reduceIte, Nat.reduceEqDiff, plain1, *]; rfl) | fail)) (by exact rfl) rfl (by assumption)) | fail)) ?_) | fail)
  by_cases hz : (bs s).length = 0
  · have hz' : bs s = [] := List.eq_nil_of_length_eq_zero hz
    refine OpsL.p (by subst_vars; decide) (aop_append0 (sz := 1) (bytes := 1) (k := txt.length) (cs := txt.map (.int .u8 ·)) (xs := []) (ob := ob) (u := .string s) (xd := .string) (v := bv) (el := 5) (z := [.int .u8 0]) (by (first | (simp only [ASt.ev, tmPut, ↓reduceIte, reduceIte, Nat.reduceEqDiff, plain1, *]; done) | fail)) (by (first | (simp only [ASt.ev, tmPut, ↓reduceIte, reduceIte, Nat.reduceEqDiff, plain1, *]; done) | fail))
      hrow (by rw [bytes_src, hz']; rfl) rfl (by exact rfl) (by exact rfl) rfl (by exact rfl) (by exact rfl) (by exact rfl) rfl) ?_
    refine OpsL.p (by subst_vars; decide) (aop_nilCheck (by (first | (simp only [ASt.ev, tmPut, ↓reduceIte, reduceIte, Nat.reduceEqDiff, plain1, *]; rfl) | fail))) ?_
    repeat (first | (refine OpsL.p (by subst_vars; decide) (by (first | (exact aop_fieldAddr (by (first | (simp only [ASt.ev, tmPut, ↓reduceIte, reduceIte, Nat.reduceEqDiff, plain1, *]; rfl) | fail)) (by exact rfl)) | fail)) ?_) | fail)
    refine OpsL.storeAt (j := 1) (cs := [av, bv]) (by (first | (simp only [ASt.ev, tmPut, ↓reduceIte, reduceIte, Nat.reduceEqDiff, plain1, *]; rfl) | fail)) (by (first | (simp only [ASt.ev, tmPut, ↓reduceIte, reduceIte, Nat.reduceEqDiff, plain1, *]; rfl) | fail)) (by exact rfl) ?_ ?_ hH rfl (by simp) rfl ?_
    · cases ob with
      | none => obtain ⟨rfl, _⟩ := hrow; rfl
      | some bt => obtain ⟨rfl, _⟩ := hrow; rfl
    · cases ob with
      | none => obtain ⟨rfl, _⟩ := hrow; rfl
      | some bt => obtain ⟨rfl, _⟩ := hrow; rfl
    repeat (first | (refine OpsL.p (by subst_vars; decide) (by (first | (exact aop_move (by (first | (simp only [ASt.ev, tmPut, ↓reduceIte, reduceIte, Nat.reduceEqDiff, plain1, *]; rfl) | fail))) | (exact aop_assign (by (first | (simp only [ASt.ev, tmPut, ↓reduceIte, reduceIte, Nat.reduceEqDiff, plain1, *]; rfl) | fail))) | (exact aop_lenB (by (first | (simp only [ASt.ev, tmPut, ↓reduceIte, reduceIte, Nat.reduceEqDiff, plain1, *]; rfl) | fail)) (by exact rfl)) | fail)) ?_) | (refine Trip.seq ?_) | (refine Trip.ops ?_) | (refine Trip.ret ?_; ((repeat (first | refine blockExit_eq ?_ | refine blockExit_ne (by decide) ?_ | refine blockExit_normal ?_ | refine blockExit_ret ?_ | refine blockExit_goto ?_)); first | (change Trip _ _ _ _ _) | dsimp only | skip)) | (refine OpsL.nil ?_; ((repeat (first | refine blockExit_eq ?_ | refine blockExit_ne (by decide) ?_ | refine blockExit_normal ?_ | refine blockExit_ret ?_ | refine blockExit_goto ?_)); first | (change Trip _ _ _ _ _) | dsimp only | skip)) | fail)
    refine ⟨.inr rfl, _, rfl, ?_⟩
    rw [hz', List.append_nil]
    exact ⟨hx.put hb0, hb0, hb1, htx, av, bv, ob, Heap.put_eq, hav, OwnRow.put_ne hrow (fun k t h => (hob k t h).2.2), hob, hnil⟩
  · obtain ⟨f1, f2, f3⟩ := blkOf_facts (nx := nx1) (ob := ob) hx.1 hb1 hob
    refine OpsL.append (sz := 1) (bytes := 1) (k := txt.length) (m := (bs s).length) (cs := txt.map (.int .u8 ·)) (xs := (bs s).map (.int .u8 ·)) (ob := ob) (u := .string s) (xd := .string) (v := bv) (el := 5) (z := [.int .u8 0]) (by subst_vars; decide) (by (first | (simp only [ASt.ev, tmPut, ↓reduceIte, reduceIte, Nat.reduceEqDiff, plain1, *]; done) | fail)) (by (first | (simp only [ASt.ev, tmPut, ↓reduceIte, reduceIte, Nat.reduceEqDiff, plain1, *]; done) | fail))
      hrow (bytes_src _ _) (bytes_one _) hz (by exact rfl) (by exact rfl) rfl (by exact rfl) (by exact rfl) (by exact rfl) rfl (by omega) (by omega) ?_
    have hgr := OwnRow.grown (nx := nx1) (m := (bs s).length) (xs := (bs s).map (.int .u8 ·)) hrow (by simp)
    refine OpsL.p (by subst_vars; decide) (aop_nilCheck (by (first | (simp only [ASt.ev, tmPut, ↓reduceIte, reduceIte, Nat.reduceEqDiff, plain1, *]; rfl) | fail))) ?_
    repeat (first | (refine OpsL.p (by subst_vars; decide) (by (first | (exact aop_fieldAddr (by (first | (simp only [ASt.ev, tmPut, ↓reduceIte, reduceIte, Nat.reduceEqDiff, plain1, *]; rfl) | fail)) (by exact rfl)) | fail)) ?_) | fail)
    refine OpsL.storeAt (j := 1) (cs := [av, bv]) (by (first | (simp only [ASt.ev, tmPut, ↓reduceIte, reduceIte, Nat.reduceEqDiff, plain1, *]; rfl) | fail)) (by (first | (simp only [ASt.ev, tmPut, ↓reduceIte, reduceIte, Nat.reduceEqDiff, plain1, *]; rfl) | fail)) (by exact rfl) rfl rfl (by rw [Heap.put_ne (Ne.symm f3)]; exact hH) rfl (by simp) rfl ?_
    repeat (first | (refine OpsL.p (by subst_vars; decide) (by (first | (exact aop_move (by (first | (simp only [ASt.ev, tmPut, ↓reduceIte, reduceIte, Nat.reduceEqDiff, plain1, *]; rfl) | fail))) | (exact aop_assign (by (first | (simp only [ASt.ev, tmPut, ↓reduceIte, reduceIte, Nat.reduceEqDiff, plain1, *]; rfl) | fail))) | (exact aop_lenB (by (first | (simp only [ASt.ev, tmPut, ↓reduceIte, reduceIte, Nat.reduceEqDiff, plain1, *]; rfl) | fail)) (by exact rfl)) | fail)) ?_) | (refine Trip.seq ?_) | (refine Trip.ops ?_) | (refine Trip.ret ?_; ((repeat (first | refine blockExit_eq ?_ | refine blockExit_ne (by decide) ?_ | refine blockExit_normal ?_ | refine blockExit_ret ?_ | refine blockExit_goto ?_)); first | (change Trip _ _ _ _ _) | dsimp only | skip)) | (refine OpsL.nil ?_; ((repeat (first | refine blockExit_eq ?_ | refine blockExit_ne (by decide) ?_ | refine blockExit_normal ?_ | refine blockExit_ret ?_ | refine blockExit_goto ?_)); first | (change Trip _ _ _ _ _) | dsimp only | skip)) | fail)
    refine ⟨.inr rfl, _, rfl, ?_⟩
    refine ⟨((hx.up (by omega : nx1 ≤ nx1 + 1)).put f1).put hb0, hb0, by omega, ?_, av, _, some (blkOf nx1 ob, nx1), Heap.put_eq, hav, ?_, ?_, ?_⟩
    · intro x hx2
      rw [List.mem_append] at hx2
      rcases hx2 with h | h
      · exact htx x h
      · exact bs_range s x h
    · refine OwnRow.put_ne ?_ (fun k t h => by cases h; exact f3)
      rw [List.map_append, List.length_append]
      exact hgr
    · intro k t h
      cases h
      exact ⟨f1, f2, f3⟩
    · intro h
      exfalso
      apply hz
      have := congrArg List.length h
      simp only [List.length_append, List.length_nil] at this
      omega

theorem u8_back (l : List Int) (h : ∀ x ∈ l, 0 ≤ x ∧ x < 256) : bs ⟨((l.map (Value.int .u8 ·)).map u8of).toArray⟩ = l := by
  unfold bs
  simp only [List.map_map]
  conv => rhs; rw [← List.map_id l]
  refine List.map_congr_left fun x hx => ?_
  have := h x hx
  simp only [Function.comp, u8of, id]
  have h2 : (UInt8.ofNat x.toNat).toNat = x.toNat := by rw [UInt8.toNat_ofNat']; omega
  rw [h2]; omega

theorem ustr_some {H : Heap} {ob t : Nat} {txt : List Int} {rest : List Value} (hH : H ob = some (.cells (txt.map (.int .u8 ·) ++ rest) 1 (some t) false (some 5))) (h0 : txt ≠ []) (hl : txt.length ≤ 1000000000) :
    aUnsafeString Try.prog H #[69, 3] (.pointer (some ⟨ob, 0, some t⟩)) (.int .i64 txt.length) = some (.string ⟨((txt.map (Value.int .u8 ·)).map u8of).toArray⟩, .upd ob (.cells (txt.map (.int .u8 ·) ++ rest) 1 (some t) true (some 5))) := by
  have h1 : Try.prog.underlying 69 = some (.pointer 5) := rfl
  have h2 : sameLayout Try.prog Try.prog.depth 5 5 = true := by kernel_rfl
  have h3 : Try.prog.cellsOf 5 = 1 := by kernel_rfl
  have h4 : getc H ⟨ob, 0, some t⟩ txt.length = some (txt.map (.int .u8 ·)) := by
    unfold getc
    simp [hH]
  have h5 : (txt.map (Value.int .u8 ·)).all u8cell = true := by simp [u8cell]
  have h6 : 0 < txt.length := List.length_pos_iff.2 h0
  have h7 : (#[69, 3] : Array TypeId)[0]? = some 69 := rfl
  have h8 : (0 : Int) < txt.length ∧ (txt.length : Int) ≤ 1099511627776 := by omega
  unfold aUnsafeString
  simp only [h7, hH, h1, h2, h3, h4, h5, Int.toNat_natCast, h8, and_self, if_true]

theorem sdata_some {H : Heap} {ob t k c : Nat} {cs : List Value} (hH : H ob = some (.cells cs 1 (some t) false (some 5))) (h0 : 0 < k) : aSliceData H (.slice (some ⟨ob, 0, some t⟩) k c) = some (.pointer (some ⟨ob, 0, some t⟩)) := by
  simp [aSliceData, hH, h0]

set_option maxRecDepth 20000 in
set_option maxHeartbeats 4000000 in
theorem bstringC (W0 : World) {nx0 nx b : Nat} {H0 H : Heap} {txt : List Int} (hb : BldAt nx0 H0 nx H b txt) (hl : txt.length ≤ 1000000000) :
    ACalls Try.prog W0 26 [.pointer (some ⟨b, 0, none⟩)] nx H fun v nx' H' => ∃ s : ByteArray, v = .string s ∧ bs s = txt ∧ Ext nx0 H0 nx' H' := by
  obtain ⟨hx, hb0, hb1, htx, av, bv, ob, hH, hav, hrow, hob, hnil⟩ := hb
  refine ACalls.by_trip (fn := Try.f26) (c := _) Try.func26 rfl (fun tm n hn0 htm => ?_)
  have e0 : tm 0 = .pointer (some ⟨b, 0, none⟩) := htm 0
  clear htm
  replace hn0 : n = 14 := hn0
  have c1 := BldAt.cell1 (nx0 := nx0) (nx := nx) (H0 := H0) hH
  repeat (first | (refine OpsL.p (by subst_vars; decide) (by (first | (exact aop_assign (by (first | (simp only [ASt.ev, tmPut, ↓reduceIte, reduceIte, Nat.reduceEqDiff, plain1, *]; rfl) | fail))) | fail)) ?_) | (refine Trip.seq ?_) | (refine Trip.ops ?_) | (refine OpsL.nil ?_; ((repeat (first | refine blockExit_eq ?_ | refine blockExit_ne (by decide) ?_ | refine blockExit_normal ?_ | refine blockExit_ret ?_ | refine blockExit_goto ?_)); first | (change Trip _ _ _ _ _) | dsimp only | skip)) | fail)
  refine Trip.mono (Q := fun e st => e = .normal ∧ ∃ (tm' : Nat → Value) (H' : Heap) (s : ByteArray), st = ⟨tm', n, H', nx⟩ ∧ tm' 2 = .string s ∧ bs s = txt ∧ Ext nx0 H0 nx H') ?_ ?_
  · refine OpsK.drawn (K := fun _ H1 => H1 b = H b) fit.mixed (by kernel_rfl) (by kernel_rfl) rfl ?_
    have hcK : ∀ H1 : Heap, H1 b = H b → cellAt H1 ⟨b, 0 + 1, none⟩ bv := fun H1 h1 => BldAt.cell1 (nx0 := nx0) (nx := nx) (H0 := H0) (h1.trans hH)
    refine OpsK.one rfl (by kernel_rfl) ?_
    repeat (first | (refine OpsL.p (by subst_vars; decide) (by (first | (exact aop_move (by (first | (simp only [ASt.ev, tmPut, ↓reduceIte, reduceIte, Nat.reduceEqDiff, plain1, *]; rfl) | fail))) | fail)) ?_) | (refine OpsL.nil ?_; ((repeat (first | refine blockExit_eq ?_ | refine blockExit_ne (by decide) ?_ | refine blockExit_normal ?_ | refine blockExit_ret ?_ | refine blockExit_goto ?_)); first | (change Trip _ _ _ _ _) | dsimp only | skip)) | fail)
    refine OpsK.one rfl (by kernel_rfl) ?_
    refine OpsL.p (by subst_vars; decide) (aop_nilCheck (by (first | (simp only [ASt.ev, tmPut, ↓reduceIte, reduceIte, Nat.reduceEqDiff, plain1, *]; rfl) | fail))) ?_
    repeat (first | (refine OpsL.nil ?_; ((repeat (first | refine blockExit_eq ?_ | refine blockExit_ne (by decide) ?_ | refine blockExit_normal ?_ | refine blockExit_ret ?_ | refine blockExit_goto ?_)); first | (change Trip _ _ _ _ _) | dsimp only | skip)) | fail)
    refine OpsK.one rfl (by kernel_rfl) ?_
    repeat (first | (refine OpsL.p (by subst_vars; decide) (by (first | (exact aop_fieldAddr (by (first | (simp only [ASt.ev, tmPut, ↓reduceIte, reduceIte, Nat.reduceEqDiff, plain1, *]; rfl) | fail)) (by exact rfl)) | fail)) ?_) | (refine OpsL.nil ?_; ((repeat (first | refine blockExit_eq ?_ | refine blockExit_ne (by decide) ?_ | refine blockExit_normal ?_ | refine blockExit_ret ?_ | refine blockExit_goto ?_)); first | (change Trip _ _ _ _ _) | dsimp only | skip)) | fail)
    refine OpsK.sp (by subst_vars; decide) rfl (fun H' nx' hk => aop_load (by (first | (simp only [ASt.ev, tmPut, ↓reduceIte, reduceIte, Nat.reduceEqDiff, plain1, *]; rfl) | fail)) (by exact rfl) rfl (hcK H' hk)) ?_
    by_cases hz : txt = []
    · subst hz
      obtain rfl := hnil rfl
      obtain ⟨rfl, _⟩ := hrow
      refine OpsK.eff (v := .pointer none) (e := .none) (by simp [dstOk, hn0]) rfl (by kernel_rfl) (aop_sliceData (by (first | (simp only [ASt.ev, tmPut, ↓reduceIte, reduceIte, Nat.reduceEqDiff, plain1, *]; rfl) | fail)) rfl) rfl ?_
      dsimp only [ASt.put, Eff.H, Eff.nx]
      refine OpsK.one rfl (by kernel_rfl) ?_
      repeat (first | (refine OpsL.p (by subst_vars; decide) (by (first | (exact aop_move (by (first | (simp only [ASt.ev, tmPut, ↓reduceIte, reduceIte, Nat.reduceEqDiff, plain1, *]; rfl) | fail))) | fail)) ?_) | (refine OpsL.nil ?_; ((repeat (first | refine blockExit_eq ?_ | refine blockExit_ne (by decide) ?_ | refine blockExit_normal ?_ | refine blockExit_ret ?_ | refine blockExit_goto ?_)); first | (change Trip _ _ _ _ _) | dsimp only | skip)) | fail)
      refine OpsK.one rfl (by kernel_rfl) ?_
      refine OpsL.p (by subst_vars; decide) (aop_nilCheck (by (first | (simp only [ASt.ev, tmPut, ↓reduceIte, reduceIte, Nat.reduceEqDiff, plain1, *]; rfl) | fail))) ?_
      repeat (first | (refine OpsL.nil ?_; ((repeat (first | refine blockExit_eq ?_ | refine blockExit_ne (by decide) ?_ | refine blockExit_normal ?_ | refine blockExit_ret ?_ | refine blockExit_goto ?_)); first | (change Trip _ _ _ _ _) | dsimp only | skip)) | fail)
      refine OpsK.one rfl (by kernel_rfl) ?_
      repeat (first | (refine OpsL.p (by subst_vars; decide) (by (first | (exact aop_fieldAddr (by (first | (simp only [ASt.ev, tmPut, ↓reduceIte, reduceIte, Nat.reduceEqDiff, plain1, *]; rfl) | fail)) (by exact rfl)) | fail)) ?_) | (refine OpsL.nil ?_; ((repeat (first | refine blockExit_eq ?_ | refine blockExit_ne (by decide) ?_ | refine blockExit_normal ?_ | refine blockExit_ret ?_ | refine blockExit_goto ?_)); first | (change Trip _ _ _ _ _) | dsimp only | skip)) | fail)
      refine OpsK.sp (by subst_vars; decide) rfl (fun H' nx' hk => aop_load (by (first | (simp only [ASt.ev, tmPut, ↓reduceIte, reduceIte, Nat.reduceEqDiff, plain1, *]; rfl) | fail)) (by exact rfl) rfl (hcK H' hk)) ?_
      refine OpsK.sp (by subst_vars; decide) rfl (fun H' nx' hk => aop_len (by (first | (simp only [ASt.ev, tmPut, ↓reduceIte, reduceIte, Nat.reduceEqDiff, plain1, *]; rfl) | fail)) (by exact rfl)) ?_
      refine OpsK.eff (v := .string ⟨#[]⟩) (e := .none) (by simp [dstOk, hn0]) rfl (by kernel_rfl) (aop_unsafeString (by (first | (simp only [ASt.ev, tmPut, ↓reduceIte, reduceIte, Nat.reduceEqDiff, plain1, *]; rfl) | fail)) (by (first | (simp only [ASt.ev, tmPut, ↓reduceIte, reduceIte, Nat.reduceEqDiff, plain1, *]; rfl) | fail)) rfl) rfl ?_
      dsimp only [ASt.put, Eff.H, Eff.nx]
      refine OpsK.one rfl (by kernel_rfl) ?_
      repeat (first | (refine OpsL.p (by subst_vars; decide) (by (first | (exact aop_assign (by (first | (simp only [ASt.ev, tmPut, ↓reduceIte, reduceIte, Nat.reduceEqDiff, plain1, *]; rfl) | fail))) | fail)) ?_) | (refine OpsL.nil ?_; ((repeat (first | refine blockExit_eq ?_ | refine blockExit_ne (by decide) ?_ | refine blockExit_normal ?_ | refine blockExit_ret ?_ | refine blockExit_goto ?_)); first | (change Trip _ _ _ _ _) | dsimp only | skip)) | fail)
      refine OpsK.nil ?_
      exact ⟨rfl, _, _, ⟨#[]⟩, rfl, by simp [tmPut], rfl, hx⟩
    · cases ob with
      | none =>
        obtain ⟨_, h2, _⟩ := hrow
        exact absurd (by simpa using h2) hz
      | some bt =>
        obtain ⟨ob, t⟩ := bt
        obtain ⟨rfl, hc, rest, hrowH⟩ := hrow
        have hpos : 0 < txt.length := List.length_pos_iff.2 hz
        have hk := hob ob t rfl
        refine OpsK.eff (v := .pointer (some ⟨ob, 0, some t⟩)) (e := .none) (by simp [dstOk, hn0]) rfl (by kernel_rfl) (aop_sliceData (by (first | (simp only [ASt.ev, tmPut, ↓reduceIte, reduceIte, Nat.reduceEqDiff, plain1, *]; rfl) | fail)) (sdata_some hrowH hpos)) rfl ?_
        dsimp only [ASt.put, Eff.H, Eff.nx]
        refine OpsK.one rfl (by kernel_rfl) ?_
        repeat (first | (refine OpsL.p (by subst_vars; decide) (by (first | (exact aop_move (by (first | (simp only [ASt.ev, tmPut, ↓reduceIte, reduceIte, Nat.reduceEqDiff, plain1, *]; rfl) | fail))) | fail)) ?_) | (refine OpsL.nil ?_; ((repeat (first | refine blockExit_eq ?_ | refine blockExit_ne (by decide) ?_ | refine blockExit_normal ?_ | refine blockExit_ret ?_ | refine blockExit_goto ?_)); first | (change Trip _ _ _ _ _) | dsimp only | skip)) | fail)
        refine OpsK.one rfl (by kernel_rfl) ?_
        refine OpsL.p (by subst_vars; decide) (aop_nilCheck (by (first | (simp only [ASt.ev, tmPut, ↓reduceIte, reduceIte, Nat.reduceEqDiff, plain1, *]; rfl) | fail))) ?_
        repeat (first | (refine OpsL.nil ?_; ((repeat (first | refine blockExit_eq ?_ | refine blockExit_ne (by decide) ?_ | refine blockExit_normal ?_ | refine blockExit_ret ?_ | refine blockExit_goto ?_)); first | (change Trip _ _ _ _ _) | dsimp only | skip)) | fail)
        refine OpsK.one rfl (by kernel_rfl) ?_
        repeat (first | (refine OpsL.p (by subst_vars; decide) (by (first | (exact aop_fieldAddr (by (first | (simp only [ASt.ev, tmPut, ↓reduceIte, reduceIte, Nat.reduceEqDiff, plain1, *]; rfl) | fail)) (by exact rfl)) | fail)) ?_) | (refine OpsL.nil ?_; ((repeat (first | refine blockExit_eq ?_ | refine blockExit_ne (by decide) ?_ | refine blockExit_normal ?_ | refine blockExit_ret ?_ | refine blockExit_goto ?_)); first | (change Trip _ _ _ _ _) | dsimp only | skip)) | fail)
        refine OpsK.sp (by subst_vars; decide) rfl (fun H' nx' hk => aop_load (by (first | (simp only [ASt.ev, tmPut, ↓reduceIte, reduceIte, Nat.reduceEqDiff, plain1, *]; rfl) | fail)) (by exact rfl) rfl (hcK H' hk)) ?_
        refine OpsK.sp (by subst_vars; decide) rfl (fun H' nx' hk => aop_len (by (first | (simp only [ASt.ev, tmPut, ↓reduceIte, reduceIte, Nat.reduceEqDiff, plain1, *]; rfl) | fail)) (by exact rfl)) ?_
        refine OpsK.eff (by simp [dstOk, hn0]) rfl (by kernel_rfl) (aop_unsafeString (by (first | (simp only [ASt.ev, tmPut, ↓reduceIte, reduceIte, Nat.reduceEqDiff, plain1, *]; done) | fail)) (by (first | (simp only [ASt.ev, tmPut, ↓reduceIte, reduceIte, Nat.reduceEqDiff, plain1, *]; done) | fail)) (ustr_some hrowH hz hl)) (Heap.put_ne (Ne.symm hk.2.2)) ?_
        dsimp only [ASt.put, Eff.H, Eff.nx]
        refine OpsK.one rfl (by kernel_rfl) ?_
        repeat (first | (refine OpsL.p (by subst_vars; decide) (by (first | (exact aop_assign (by (first | (simp only [ASt.ev, tmPut, ↓reduceIte, reduceIte, Nat.reduceEqDiff, plain1, *]; rfl) | fail))) | fail)) ?_) | (refine OpsL.nil ?_; ((repeat (first | refine blockExit_eq ?_ | refine blockExit_ne (by decide) ?_ | refine blockExit_normal ?_ | refine blockExit_ret ?_ | refine blockExit_goto ?_)); first | (change Trip _ _ _ _ _) | dsimp only | skip)) | fail)
        refine OpsK.nil ?_
        exact ⟨rfl, _, _, _, rfl, by simp [tmPut], u8_back txt htx, hx.put hk.1⟩
  · rintro e st ⟨rfl, tm', H', s, rfl, e2, hs, hx'⟩
    dsimp only
    repeat (first | (refine Trip.ret ?_; ((repeat (first | refine blockExit_eq ?_ | refine blockExit_ne (by decide) ?_ | refine blockExit_normal ?_ | refine blockExit_ret ?_ | refine blockExit_goto ?_)); first | (change Trip _ _ _ _ _) | dsimp only | skip)) | fail)
    exact ⟨.inr rfl, _, res_tmp, s, e2, hs, hx'⟩

end Go.Proofs.Ytngekapiemkgnaa
