/-
  The abstract machine's operations on memory: load, store, new variables, structs and arrays by value, addresses.
-/
import Derived.Test.YtdeiphgjcmmeoaaAmB
namespace Go.Am
set_option linter.unusedSimpArgs false
set_option linter.unusedVariables false
open Go.RowKit

def szOf (P : Program) (t : TypeId) : Option Nat := (P.info? t).map (·.size)

def isAggD : TypeDesc → Bool
  | .struct _ | .array _ _ => true
  | _ => false

section
variable {P : Program} {W0 : World} {C : Corr} {nx : Nat} {H : Heap} {w : World}

theorem run_sizeOf' {t : TypeId} {n : Nat} (h : szOf P t = some n) (w : World) : (sizeOf t).run P w = .ok n w := by
  unfold szOf at h
  cases hi : P.info? t with
  | none => simp [hi] at h
  | some i => simp [hi] at h; simp [sizeOf, typeInfo, hi, h]

theorem run_isAgg' {t : TypeId} {d : TypeDesc} (h : P.underlying t = some d) (w : World) : (isAgg t).run P w = .ok (isAggD d) w := by
  simp only [isAgg, Sem.run_bind, run_underlying h, Result.andThen_ok]
  cases d <;> rfl

/-- What lies at an address, by its type. -/
def readAt (P : Program) (H : Heap) (t : TypeId) (a : Addr) : Option Value :=
  match P.underlying t with
  | none => none
  | some d =>
    if isAggD d then
      match szOf P t with
      | some n => (getc H a n).map fun l => .agg l.toArray
      | none => none
    else
      match getc H a 1 with
      | some (v :: _) => some v
      | _ => none

theorem readAt_live {t : TypeId} {a : Addr} {v : Value} (h : readAt P H t a = some v) : live H a := by
  unfold readAt at h
  split at h
  · cases h
  · split at h
    · split at h
      · simp only [Option.map_eq_some_iff] at h
        obtain ⟨l, h1, _⟩ := h
        exact getc_live h1
      · cases h
    · split at h
      · rename_i v' r h1; exact getc_live h1
      · cases h

theorem readAt_sound (hR : Rel W0 C nx H w) {t : TypeId} {a : Addr} {v : Value} (h : readAt P H t a = some v) :
    ∃ v', (loadVar t (C.at a)).run P w = .ok v' w ∧ VR nx H C v v' := by
  unfold readAt at h
  split at h
  · cases h
  · rename_i d hd
    split at h
    · rename_i hagg
      split at h
      · rename_i n hn
        simp only [Option.map_eq_some_iff] at h
        obtain ⟨l, h1, rfl⟩ := h
        obtain ⟨vs', hv, hl, hc⟩ := getc_sound hR h1
        refine ⟨.agg vs'.toArray, ?_, hv.agg⟩
        simp only [loadVar, Sem.run_bind, run_isAgg' hd, Result.andThen_ok, hagg, if_true, run_sizeOf' hn, run_loadCells hl hc, Sem.run_pure]
      · cases h
    · rename_i hagg
      split at h
      · rename_i v' r h1
        simp only [Option.some.injEq] at h
        subst h
        obtain ⟨vs', hv, hl, hc⟩ := getc_sound hR h1
        obtain ⟨u, hu, hvu⟩ := hv.get? (i := 0) (v := v') rfl
        refine ⟨u, ?_, hvu⟩
        have h0 := hc 0 (by omega)
        rw [hu] at h0
        have : (C.at a).add 0 = C.at a := by simp [Corr.at, add_none]
        rw [this] at h0
        simp only [Bool.not_eq_true] at hagg
        simp only [loadVar, Sem.run_bind, run_isAgg' hd, Result.andThen_ok, hagg, Bool.false_eq_true, if_false, run_load, h0]
      · cases h

def aLoad (P : Program) (H : Heap) (t : TypeId) : Value → Option Value
  | .pointer (some a) => readAt P H t a
  | _ => none

theorem aLoad_sound (hR : Rel W0 C nx H w) {t : TypeId} {x x' v : Value} (h : aLoad P H t x = some v) (hx : VR nx H C x x') : Snd W0 C nx H ((Instr.loadAt t x').run P w) v .none := by
  cases hx with
  | ptr a b h1 h2 =>
    simp only [aLoad] at h
    obtain rfl := h2 (readAt_live h)
    obtain ⟨v', e, hv⟩ := readAt_sound hR h
    refine Snd.same hR (v' := v') ?_ hv
    simpa [Instr.loadAt, Instr.sureAddr] using e
  | _ => simp [aLoad] at h

def writeAt (P : Program) (H : Heap) (t : TypeId) (a : Addr) (v : Value) : Option Eff :=
  if szOf P t = some v.cells.size then (setc H a v.cells.toList).map (.upd a.block ·) else none

theorem setc_live {a : Addr} {vs : List Value} {o : AObj} (h : setc H a vs = some o) : live H a := by
  unfold setc at h
  split at h
  · rename_i c e t r q ho
    split at h
    · rename_i hc; exact ⟨_, ho, hc.1⟩
    · cases h
  · cases h

def aStore (P : Program) (H : Heap) (t : TypeId) (x v : Value) : Option Eff :=
  match x with
  | .pointer (some a) => writeAt P H t a v
  | _ => none

theorem aStore_sound (hR : Rel W0 C nx H w) {t : TypeId} {x x' v v' : Value} {e : Eff} (h : aStore P H t x v = some e) (hx : VR nx H C x x') (hv : VR nx H C v v') :
    ∃ w', (Instr.storeAt t x' v').run P w = .ok () w' ∧ Rel W0 C (e.nx nx) (e.H nx H) w' ∧ Stp nx H C (e.nx nx) (e.H nx H) C := by
  cases hx with
  | ptr a b h1 h2 =>
    simp only [aStore, writeAt] at h
    split at h
    · rename_i hs
      simp only [Option.map_eq_some_iff] at h
      obtain ⟨o, h3, rfl⟩ := h
      obtain rfl := h2 (setc_live h3)
      obtain ⟨w', e1, e2, e3⟩ := setc_sound (P := P) hR h3 hv.cells
      refine ⟨w', ?_, e2, e3⟩
      have hsz : v'.cells.size = v.cells.size := by have := hv.cells.1; simp at this; omega
      simp only [Instr.storeAt, Instr.sureAddr, Sem.run_bind, Sem.run_pure, Result.andThen_ok, storeVar, run_sizeOf' hs, hsz, ne_eq, not_true_eq_false, if_false, e1]
    · cases h
  | _ => simp [aStore] at h

/-! ### new variables -/

def plain1 : Value → Bool
  | .bool _ | .int _ _ | .string _ | .nilFunc | .nilIface | .pointer none | .slice none _ _ | .map none => true
  | _ => false

theorem plain1_VR {v : Value} (h : plain1 v = true) : VR nx H C v v := by
  cases v with
  | bool b => exact .bool b
  | int k n => exact .int k n
  | string s => exact .string s
  | nilFunc => exact .nilFunc
  | nilIface => exact .nilIface
  | pointer a => cases a with
    | none => exact .nilp
    | some a => simp [plain1] at h
  | slice a l c => cases a with
    | none => exact .nils l c
    | some a => simp [plain1] at h
  | map r => cases r with
    | none => exact .nilm
    | some r => simp [plain1] at h
  | _ => simp [plain1] at h

theorem plain_VRs {l : List Value} (h : l.all plain1 = true) : VRs nx H C l l := ⟨rfl, fun _ a _ => plain1_VR (List.all_eq_true.1 h _ (List.getElem_mem a))⟩

def zeroOf (P : Program) (t : TypeId) : Option (List Value) :=
  match (P.info? t).bind (·.zero) with
  | some z => if z.cells.toList.all plain1 then some z.cells.toList else none
  | none => none

theorem run_zeroOf {t : TypeId} {l : List Value} (h : zeroOf P t = some l) : ∃ z, (∀ w, (zeroValue t).run P w = .ok z w) ∧ z.cells = l.toArray ∧ l.all plain1 = true := by
  unfold zeroOf at h
  cases hi : P.info? t with
  | none => simp [hi] at h
  | some i =>
    cases hz : i.zero with
    | none => simp [hi, hz] at h
    | some z =>
      simp only [hi, hz, Option.bind_some] at h
      split at h
      · rename_i hp
        simp only [Option.some.injEq] at h
        subst h
        exact ⟨z, fun w => by simp [zeroValue, typeInfo, hi, hz], by simp, hp⟩
      · cases h

/-- A new variable that holds these cells: its address. -/
theorem newVar_sound (hR : Rel W0 C nx H w) {v v' : Value} (hv : VR nx H C v v') (t : TypeId) :
    Snd W0 C nx H ((do pure (Value.pointer (some (← newVar t v'))) : Sem Value).run P w) (.pointer (some ⟨nx, 0, none⟩)) (.new (.cells v.cells.toList 0 none false (some t))) := by
  obtain ⟨C', hC, h1, h2⟩ := new_sound hR hv.cells t 0 [] none (by simp) (fun _ => rfl)
  refine ⟨_, _, C', by simp [newVar, newRow]; exact ⟨rfl, rfl⟩, ?_, h2, ?_⟩
  · simpa [Eff.H, Eff.nx] using h1
  · rw [hC]; exact ptr_new _ _ _ _

def aAlloc (P : Program) (nx : Nat) (t : TypeId) : Option (Value × Eff) :=
  (zeroOf P t).map fun l => (.pointer (some ⟨nx, 0, none⟩), .new (.cells l 0 none false (some t)))

theorem aAlloc_sound (hR : Rel W0 C nx H w) {t : TypeId} {v : Value} {e : Eff} (h : aAlloc P nx t = some (v, e)) : Snd W0 C nx H ((Instr.alloc t true (.tuple #[])).run P w) v e := by
  simp only [aAlloc, Option.map_eq_some_iff, Prod.mk.injEq] at h
  obtain ⟨l, hl, rfl, rfl⟩ := h
  obtain ⟨z, hz, hzl, hp⟩ := run_zeroOf hl
  have hv : VRs nx H C l z.cells.toList := by rw [hzl]; exact plain_VRs hp
  obtain ⟨C', hC, h1, h2⟩ := new_sound hR hv t 0 [] none (by simp) (fun _ => rfl)
  refine ⟨_, _, C', by simp [Instr.alloc, hz, newVar, newRow]; exact ⟨rfl, rfl⟩, ?_, h2, ?_⟩
  · simpa [Eff.H, Eff.nx] using h1
  · rw [hC]; exact ptr_new _ _ _ _

/-! ### structs, arrays by value -/

def getPart (P : Program) (t : TypeId) (cs : List Value) (off : Nat) : Option Value :=
  match P.underlying t with
  | none => none
  | some d =>
    if isAggD d then
      match szOf P t with
      | some n => if off + n ≤ cs.length then some (.agg ((cs.drop off).take n).toArray) else none
      | none => none
    else cs[off]?

theorem getPart_sound {t : TypeId} {cs cs' : List Value} {off : Nat} {v : Value} (h : getPart P t cs off = some v) (hv : VRs nx H C cs cs') :
    ∃ v', (∀ w, (part t cs'.toArray off).run P w = .ok v' w) ∧ VR nx H C v v' := by
  unfold getPart at h
  split at h
  · cases h
  · rename_i d hd
    split at h
    · rename_i hagg
      split at h
      · rename_i n hn
        split at h
        · rename_i hle
          simp only [Option.some.injEq] at h
          subst h
          refine ⟨_, fun w => ?_, ((hv.drop off).take n).agg⟩
          simp only [part, Sem.run_bind, run_isAgg' hd, Result.andThen_ok, hagg, if_true, run_sizeOf' hn, Sem.run_pure]
          congr 2
          apply Array.ext'
          simp
        · cases h
      · cases h
    · rename_i hagg
      obtain ⟨v', h1, h2⟩ := hv.get? h
      refine ⟨v', fun w => ?_, h2⟩
      simp only [Bool.not_eq_true] at hagg
      simp only [part, Sem.run_bind, run_isAgg' hd, Result.andThen_ok, hagg, Bool.false_eq_true, if_false, List.getElem?_toArray, h1, Sem.run_pure]

def aField (P : Program) (t : TypeId) (x : Value) (f : Nat) : Option Value :=
  match P.underlying t, x with
  | some (.struct fields), .agg cs =>
    match fields[f]? with
    | some fd => getPart P fd.type cs.toList fd.offset
    | none => none
  | _, _ => none

theorem aField_sound (hR : Rel W0 C nx H w) {t : TypeId} {x x' v : Value} {f : Nat} (h : aField P t x f = some v) (hx : VR nx H C x x') : Snd W0 C nx H ((Instr.field t x' f).run P w) v .none := by
  unfold aField at h
  split at h
  · rename_i fields cs hu
    split at h
    · rename_i fd hf
      cases hx with
      | agg a a' ha h1 =>
        have hv : VRs nx H C cs.toList a'.toList := ⟨by simpa using ha, fun i p q => h1 i (by simpa using p) (by simpa using q)⟩
        obtain ⟨v', e, hvv⟩ := getPart_sound h hv
        refine Snd.same hR (v' := v') ?_ hvv
        have e' := e w
        simp only [Array.toArray_toList] at e'
        simp only [Instr.field, Sem.run_bind, run_underlying hu, Result.andThen_ok, hf, asAgg, Sem.run_pure]
        exact e'
    · cases h
  · cases h

def aFieldAddr (P : Program) (s : TypeId) (x : Value) (f : Nat) : Option Value :=
  match P.underlying s, x with
  | some (.struct fields), .pointer (some a) =>
    match fields[f]? with
    | some fd =>
      match szOf P fd.type with
      | some n => if n = 0 then none else some (.pointer (some ⟨a.block, a.off + fd.offset, a.spot⟩))
      | none => none
    | none => none
  | _, _ => none

theorem at_add {a b : Addr} (n : Nat) (h : live H a → b = C.at a) : live H ⟨a.block, a.off + n, a.spot⟩ → b.add n = C.at ⟨a.block, a.off + n, a.spot⟩ := by
  intro hl
  rw [h hl]
  simp [Corr.at, add_none, Nat.add_assoc]

theorem aFieldAddr_sound (hR : Rel W0 C nx H w) {s : TypeId} {x x' v : Value} {f : Nat} (h : aFieldAddr P s x f = some v) (hx : VR nx H C x x') : Snd W0 C nx H ((Instr.fieldAt s x' f).run P w) v .none := by
  unfold aFieldAddr at h
  split at h
  · rename_i fields a hu
    split at h
    · rename_i fd hf
      split at h
      · rename_i n hn
        split at h
        · cases h
        · rename_i hn0
          simp only [Option.some.injEq] at h
          subst h
          cases hx with
          | ptr _ b h1 h2 =>
            refine Snd.same hR (v' := .pointer (some (b.add fd.offset))) ?_ (.ptr _ _ h1 (at_add _ h2))
            simp only [Instr.fieldAt, Sem.run_bind, run_underlying hu, Result.andThen_ok, hf, Instr.sureAddr, Sem.run_pure, fieldPlace, run_sizeOf' hn, hn0, if_false]
      · cases h
    · cases h
  · cases h

def aIndexAddr (P : Program) (t : TypeId) (x i : Value) : Option Value :=
  match P.underlying t, x, i with
  | some (.array len elem), .pointer (some a), .int _ i =>
    match szOf P elem with
    | some n => if 0 ≤ i ∧ i < len then some (.pointer (some ⟨a.block, a.off + i.toNat * n, a.spot⟩)) else none
    | none => none
  | some (.slice elem), .slice (some a) len _, .int _ i =>
    match szOf P elem with
    | some n => if 0 ≤ i ∧ i < len then some (.pointer (some ⟨a.block, a.off + i.toNat * n, a.spot⟩)) else none
    | none => none
  | _, _, _ => none

theorem aIndexAddr_sound (hR : Rel W0 C nx H w) {t : TypeId} {x x' i i' v : Value} (h : aIndexAddr P t x i = some v) (hx : VR nx H C x x') (hi : VR nx H C i i') : Snd W0 C nx H ((Instr.indexAt t x' i').run P w) v .none := by
  unfold aIndexAddr at h
  split at h
  · rename_i len elem a k i hu
    split at h
    · rename_i n hn
      split at h
      · rename_i hb
        simp only [Option.some.injEq] at h
        subst h
        cases hi with
        | int =>
        cases hx with
        | ptr _ b h1 h2 =>
          refine Snd.same hR (v' := .pointer (some (b.add (i.toNat * n)))) ?_ (.ptr _ _ h1 (at_add _ h2))
          simp only [Instr.indexAt, asIntOf, Sem.run_bind, Sem.run_pure, run_underlying hu, Result.andThen_ok, Instr.sureAddr, Sem.run_ite, run_sizeOf' hn]
          rw [if_pos hb]
      · cases h
    · cases h
  · rename_i elem a len c k i hu
    split at h
    · rename_i n hn
      split at h
      · rename_i hb
        simp only [Option.some.injEq] at h
        subst h
        cases hi with
        | int =>
        cases hx with
        | slc _ _ _ b _ h1 h2 =>
          refine Snd.same hR (v' := .pointer (some (b.add (i.toNat * n)))) ?_ (.ptr _ _ h1 (at_add _ (fun ⟨o, ho, ht⟩ => (h2 o ho ht).1)))
          simp only [Instr.indexAt, asIntOf, Sem.run_bind, Sem.run_pure, run_underlying hu, Result.andThen_ok, Sem.run_ite, run_sizeOf' hn]
          rw [if_pos hb]
      · cases h
    · cases h
  · cases h

def aIndex (P : Program) (t : TypeId) (x i : Value) : Option Value :=
  match P.underlying t, x, i with
  | some (.array len elem), .agg cs, .int _ i =>
    match szOf P elem with
    | some n => if 0 ≤ i ∧ i < len then getPart P elem cs.toList (i.toNat * n) else none
    | none => none
  | some .string, .string s, .int _ i => if 0 ≤ i then (s.data.toList[i.toNat]?).map fun b => .int .u8 b.toNat else none
  | _, _, _ => none

theorem aIndex_sound (hR : Rel W0 C nx H w) {t : TypeId} {x x' i i' v : Value} (h : aIndex P t x i = some v) (hx : VR nx H C x x') (hi : VR nx H C i i') : Snd W0 C nx H ((Instr.index t x' i').run P w) v .none := by
  unfold aIndex at h
  split at h
  · rename_i len elem cs k i hu
    split at h
    · rename_i n hn
      split at h
      · rename_i hb
        cases hi with
        | int =>
        cases hx with
        | agg a a' ha h1 =>
          have hv : VRs nx H C cs.toList a'.toList := ⟨by simpa using ha, fun i p q => h1 i (by simpa using p) (by simpa using q)⟩
          obtain ⟨v', e, hvv⟩ := getPart_sound h hv
          refine Snd.same hR (v' := v') ?_ hvv
          have e' := e w
          simp only [Array.toArray_toList] at e'
          simp only [Instr.index, asIntOf, Sem.run_bind, Sem.run_pure, run_underlying hu, Result.andThen_ok, Sem.run_ite, run_sizeOf' hn]
          rw [if_pos hb]
          exact e'
      · cases h
    · cases h
  · rename_i s k i hu
    split at h
    · rename_i hb
      simp only [Option.map_eq_some_iff] at h
      obtain ⟨b, hb2, rfl⟩ := h
      cases hi with
      | int =>
      cases hx with
      | string =>
        refine Snd.same hR (v' := .int .u8 b.toNat) ?_ (.int _ _)
        have hs : s[i.toNat]? = some b := by
          have hlt : i.toNat < s.data.size := by
            have := (List.getElem?_eq_some_iff.1 hb2).1; simpa using this
          have : s[i.toNat]? = some (s[i.toNat]'hlt) := getElem?_pos s i.toNat hlt
          rw [this]
          obtain ⟨h1, h2⟩ := List.getElem?_eq_some_iff.1 hb2
          rw [← h2]
          rfl
        simp only [Instr.index, asIntOf, Sem.run_bind, Sem.run_pure, run_underlying hu, Result.andThen_ok, hb, if_true, hs]
    · cases h
  · cases h

end
end Go.Am
