import Derived.Test.YtmijhkclfoadaaaDoorQEM15
import Derived.MakeChecks
import Derived.ChangeArms
import Derived.OpenShut
import Derived.FnData
import Derived.Test.YtmijhkclfoadaaaDoorQEM45
import Derived.Lib.Bytealg
import Derived.Test.YtmijhkclfoadaaaDoorRows
import Derived.Lib.Hide
namespace Go.Am
set_option linter.unusedSimpArgs false
set_option linter.unusedVariables false
open Go.RowKit
section
variable {P : Program}
def flatFs (P : Program) (r : TypeId → DataW Unit → Option (List Value)) : List Field → List (DataW Unit) → Nat → Option (List Value)
  | [], [], _ => some []
  | f :: fs, d :: ds, off =>
    if f.offset = off then
      match r f.type d with
      | some v => if v.length = P.cellsOf f.type then (flatFs P r fs ds (off + v.length)).map (v ++ ·) else none
      | none => none
    else none
  | _, _, _ => none
def flatAs (P : Program) (r : DataW Unit → Option (List Value)) (sz : Nat) : List (DataW Unit) → Option (List Value)
  | [] => some []
  | d :: ds =>
    match r d with
    | some v => if v.length = sz then (flatAs P r sz ds).map (v ++ ·) else none
    | none => none
def flatD (P : Program) : Nat → TypeId → DataW Unit → Option (List Value)
  | 0, _, _ => none
  | f + 1, t, d =>
    match P.underlying t, d with
    | some .bool, .lit (.bool b) => some [.bool b]
    | some (.int _), .lit (.int k n) => some [.int k n]
    | some .string, .lit (.string s) => some [.string ⟨s.toArray⟩]
    | some (.struct fs), .agg ds => (flatFs P (flatD P f) fs.toList ds 0).bind fun v => if v.length = P.cellsOf t then some v else none
    | some (.array n e), .agg ds => (flatAs P (flatD P f e) (P.cellsOf e) ds).bind fun v => if v.length = P.cellsOf t then some v else none
    | _, _ => none
theorem flatFs_sound {r : TypeId → DataW Unit → Option (List Value)} {g : TypeId → List Value → Option (DataW Unit × List MemPlace)} (hr : ∀ t d vs cs p, r t d = some vs → g t cs = some (d, p) → cs = vs) {cs : List Value} :
    ∀ (fs : List Field) (ds : List (DataW Unit)) (off : Nat) (vs : List Value) (xs : List (DataW Unit × List MemPlace)), flatFs P r fs ds off = some vs → xs.map (·.1) = ds →
      (∀ (i : Nat) (f : Field), fs[i]? = some f → g f.type ((cs.drop f.offset).take (P.cellsOf f.type)) = xs[i]?) → (cs.drop off).take vs.length = vs := by
  intro fs
  induction fs with
  | nil =>
    intro ds off vs xs h hx hf
    cases ds with
    | nil => simp only [flatFs, Option.some.injEq] at h; subst h; simp
    | cons d ds => simp [flatFs] at h
  | cons f fs ih =>
    intro ds off vs xs h hx hf
    cases ds with
    | nil => simp [flatFs] at h
    | cons d ds =>
      cases xs with
      | nil => simp at hx
      | cons x xs =>
        simp only [List.map_cons, List.cons.injEq] at hx
        obtain ⟨rfl, hx⟩ := hx
        simp only [flatFs] at h
        split at h
        case isFalse => cases h
        rename_i ho
        subst ho
        split at h
        case h_2 => cases h
        rename_i v hv
        split at h
        case isFalse => cases h
        rename_i hlen
        rw [Option.map_eq_some_iff] at h
        obtain ⟨rest, hrest, rfl⟩ := h
        have h0 := hf 0 f rfl
        simp only [List.getElem?_cons_zero] at h0
        have e0 := hr _ _ _ _ x.2 hv h0
        have e1 := ih ds (f.offset + v.length) rest xs hrest hx (fun i f' hf' => by
          have := hf (i + 1) f' (by simpa using hf')
          simpa using this)
        rw [← hlen] at e0
        rw [List.length_append, List.take_add, e0, List.drop_drop, e1]
theorem flatAs_sound {r : DataW Unit → Option (List Value)} {g : List Value → Option (DataW Unit × List MemPlace)} (hr : ∀ d vs cs p, r d = some vs → g cs = some (d, p) → cs = vs) {cs : List Value} {sz : Nat} :
    ∀ (ds : List (DataW Unit)) (k : Nat) (vs : List Value) (xs : List (DataW Unit × List MemPlace)), flatAs P r sz ds = some vs → xs.map (·.1) = ds →
      (∀ (i : Nat), i < xs.length → g ((cs.drop ((k + i) * sz)).take sz) = xs[i]?) → (cs.drop (k * sz)).take vs.length = vs := by
  intro ds
  induction ds with
  | nil => intro k vs xs h hx hf; simp only [flatAs, Option.some.injEq] at h; subst h; simp
  | cons d ds ih =>
    intro k vs xs h hx hf
    cases xs with
    | nil => simp at hx
    | cons x xs =>
      simp only [List.map_cons, List.cons.injEq] at hx
      obtain ⟨rfl, hx⟩ := hx
      simp only [flatAs] at h
      split at h
      case h_2 => cases h
      rename_i v hv
      split at h
      case isFalse => cases h
      rename_i hlen
      rw [Option.map_eq_some_iff] at h
      obtain ⟨rest, hrest, rfl⟩ := h
      have h0 := hf 0 (by simp)
      simp only [List.getElem?_cons_zero, Nat.add_zero] at h0
      have e0 := hr _ _ _ x.2 hv h0
      have e1 := ih (k + 1) rest xs hrest hx (fun i hi => by
        have := hf (i + 1) (by simpa using hi)
        rw [show k + (i + 1) = k + 1 + i by omega] at this
        simpa using this)
      have e2 : k * sz + v.length = (k + 1) * sz := by rw [hlen, Nat.succ_mul]
      subst hlen
      rw [List.length_append, List.take_add, e0, List.drop_drop, e2, e1]
theorem flatD_sound {w : World} {held : Bool} {sp : Nat → Bool} : ∀ (f : Nat) (t : TypeId) (d : DataW Unit) (vs cs : List Value) (fuel : Nat) (p : List MemPlace), flatD P f t d = some vs → DataW.trod (fun _ => ()) P w 0 sp held fuel t cs = some (d, p) → cs = vs := by
  intro f
  induction f with
  | zero => intro t d vs cs fuel p h; simp [flatD] at h
  | succ f ih =>
    intro t d vs cs fuel p h ht
    simp only [flatD] at h
    split at h
    · rename_i b hu
      obtain ⟨b', rfl, e⟩ := DataW.trod_bool hu ht
      simp only [Prod.mk.injEq, DataW.lit.injEq, Lit.bool.injEq] at e
      cases h
      rw [e.1]
    · rename_i k k' n hu
      obtain ⟨n', rfl, e, _⟩ := DataW.trod_int hu ht
      simp only [Prod.mk.injEq, DataW.lit.injEq, Lit.int.injEq] at e
      cases h
      obtain ⟨⟨rfl, rfl⟩, _⟩ := e
      rfl
    · rename_i s hu
      obtain ⟨s', rfl, e, _⟩ := DataW.trod_string hu ht
      simp only [Prod.mk.injEq, DataW.lit.injEq, Lit.string.injEq] at e
      cases h
      obtain ⟨rfl, _⟩ := e
      obtain ⟨⟨s'⟩⟩ := s'
      rfl
    · rename_i fs ds hu
      obtain ⟨xs, m, rfl, e, hlen, hxl, hf⟩ := DataW.trod_struct hu ht
      simp only [Prod.mk.injEq, DataW.agg.injEq] at e
      rw [Option.bind_eq_some_iff] at h
      obtain ⟨v, hv, h⟩ := h
      split at h
      case isFalse => cases h
      rename_i hl
      cases h
      have := flatFs_sound (P := P) (g := fun t cs => DataW.trod (fun _ => ()) P w 0 sp held m t cs) (fun t d vs cs p h1 h2 => ih t d vs cs m p h1 h2) (cs := cs) fs.toList ds 0 _ xs hv e.1.symm (fun i f hi => hf i f (by simpa using hi))
      rw [List.drop_zero, hl, ← hlen, List.take_length] at this
      exact this
    · rename_i n el ds hu
      obtain ⟨xs, m, rfl, e, hlen, hxl, hf⟩ := DataW.trod_array hu ht
      simp only [Prod.mk.injEq, DataW.agg.injEq] at e
      rw [Option.bind_eq_some_iff] at h
      obtain ⟨v, hv, h⟩ := h
      split at h
      case isFalse => cases h
      rename_i hl
      cases h
      have := flatAs_sound (P := P) (g := fun cs => DataW.trod (fun _ => ()) P w 0 sp held m el cs) (fun d vs cs p h1 h2 => ih el d vs cs m p h1 h2) (cs := cs) (sz := P.cellsOf el) ds 0 _ xs hv e.1.symm (fun i hi => by rw [Nat.zero_add]; exact hf i (by omega))
      rw [Nat.zero_mul, List.drop_zero, hl, ← hlen, List.take_length] at this
      exact this
    · cases h
def flatAll (P : Program) : List (String × DataW Unit) → Option Tables
  | [] => some []
  | (n, d) :: r =>
    match P.globalNamed n with
    | some g =>
      match (P.globals[g]?).map (·.type) with
      | some t =>
        match flatD P 20 t d with
        | some vs => if g < NG ∧ vs.all plain1 then (flatAll P r).map ((g, vs) :: ·) else none
        | none => none
      | none => none
    | none => none
theorem Tabs.of_vars {w : World} : ∀ (laid : List (String × DataW Unit)) (T : Tables) (ps : List MemPlace), flatAll P laid = some T → DataW.LaidVars P w laid ps → Tabs T w := by
  intro laid
  induction laid with
  | nil => intro T ps h _; simp only [flatAll, Option.some.injEq] at h; subst h; exact Tabs.nil
  | cons x laid ih =>
    obtain ⟨n, d⟩ := x
    intro T ps h hv
    simp only [flatAll] at h
    split at h
    case h_2 => cases h
    rename_i g hg
    split at h
    case h_2 => cases h
    rename_i t ht
    split at h
    case h_2 => cases h
    rename_i vs hvs
    split at h
    case isFalse => cases h
    rename_i hc
    rw [Option.map_eq_some_iff] at h
    obtain ⟨T', hT', rfl⟩ := h
    obtain ⟨g', t', cs, fuel, p, q, hg', ht', hvar, htr, hrest, _⟩ := hv
    rw [hg] at hg'
    cases hg'
    rw [ht] at ht'
    cases ht'
    have e := flatD_sound 20 t d vs cs.toList fuel p hvs htr
    intro y hy
    rcases List.mem_cons.1 hy with rfl | hy
    · refine ⟨hc.1, hc.2, cs, ?_⟩
      simp only [World.var?, hg, Option.bind_some] at hvar
      split at hvar
      · rename_i c el fr hcell
        cases hvar
        exact ⟨el, fr, hcell, by rw [← e]; simp, fun i hi => by rw [← e]; simp⟩
      · cases hvar
    · exact ih T' q hT' hrest y hy
theorem Tabs.of_laid {laid : List (String × DataW Unit)} {T : Tables} {w : World} (h : laidMetH P laid w) (hp : (laid.all fun x => x.2.handleName?.isNone) = true) (hf : flatAll P laid = some T) : Tabs T w := by
  rw [MakeChecks.laidMetH_plain _ _ _ hp] at h
  obtain ⟨ps, hv, _⟩ := h
  exact Tabs.of_vars laid T ps hf hv
end
end Go.Am
namespace Go.Am
set_option linter.unusedSimpArgs false
set_option linter.unusedVariables false
open Go.RowKit
section
variable {P : Program} {xs : List Nat} {ov : Nat → FuncId → List Value → Option Value} {W0 : World}
end
end Go.Am
namespace Go.Proofs.YtmijhkclfoadaaaDoor
set_option linter.unusedSimpArgs false
set_option linter.unusedVariables false
open Go.Am Go.RowKit
theorem names_ok : (Tryd.prog.funcs.toList.all fun fn => !(fn.name == "runtime.NumGoroutine")) = true := by kernel_rfl
theorem extNoEscape : IdExt Tryd.prog 129 := by
  intro x w
  have h : Tryd.prog.funcs[129]? = some Tryd.f129 := Tryd.func129
  simp only [callFunc, Sem.run_bind, run_program, Result.andThen_ok, h]
  rfl
theorem idxEntry : IdxExt Tryd.prog 130 := by
  intro s c w
  rw [run_callFunc_extern Tryd.func130 (by kernel_rfl) (by kernel_rfl) (by kernel_rfl) (e := Extern.BytealgIndexByte.indexByte) (by kernel_rfl), Lib.run_indexByteString]
  rfl
def XS : List Nat := [129, 1500000000 + 130]
theorem XS_mem {f : Nat} (h : XS.contains f = true) : f = 129 ∨ f = 1500000000 + 130 := by
  simpa [XS] using h
theorem fit : Fit Tryd.prog XS := ⟨fun f fn hf => by
    have := List.all_eq_true.1 names_ok fn (by simpa using Array.mem_of_getElem? hf)
    simpa using this,
  fun f hl hf => by
    have hl' : f < 1500000000 := hl
    rcases XS_mem hf with e | e
    · subst e; exact extNoEscape
    · exfalso; omega,
  fun f hl hf => by
    have hl' : f < 1500000000 := hl
    have hf' : XS.contains (1500000000 + f) = true := hf
    rcases XS_mem hf' with e | e
    · exfalso; omega
    · have : f = 130 := by omega
      subst this; exact idxEntry,
  by kernel_rfl,
  Nat.le_of_ble_eq_true (by kernel_rfl),
  fun f hf => by
    show f < 2000000000
    rcases XS_mem hf with e | e <;> omega⟩
def noOv : Nat → FuncId → List Value → Option Value := fun _ _ _ => none
noncomputable def T5 : Go.Am.Tables := [(0, [.string ⟨#[]⟩, .string ⟨#[]⟩, .int .i64 2, .int .i64 3, .string ⟨#[60]⟩, .string ⟨#[62]⟩, .int .i64 2, .int .i64 1, .string ⟨#[60, 47]⟩, .string ⟨#[62]⟩, .int .i64 2, .int .i64 2, .string ⟨#[60]⟩, .string ⟨#[91]⟩, .int .i64 3, .int .i64 1, .string ⟨#[93]⟩, .string ⟨#[62]⟩, .int .i64 4, .int .i64 2])]
theorem flat5 : flatAll Tryd.prog [("canopy/expr.frames", Rows.laid_canopy_expr_frames)] = some T5 := by kernel_rfl
theorem plain5 : (([("canopy/expr.frames", Rows.laid_canopy_expr_frames)] : List (String × DataW Unit)).all fun x => x.2.handleName?.isNone) = true := by kernel_rfl
theorem known_run : chkS (execF Tryd.prog XS noOv 1000000 (.call 11 []) .leaf 0 (tabTree T5) NG []) = some (true, []) := by kernel_rfl
theorem known_told (W0 : World) (hT : Tabs T5 W0) : AsTold Tryd.prog W0 (11, [], .bool true) :=
  fit.toldS rfl (chk_fast known_run) (fun _ _ _ hx => by cases hx) hT
end Go.Proofs.YtmijhkclfoadaaaDoor
