/-
  The library's sort at pairs and at numbers, over trees: its contract of the shelf, the program's own order.
-/
import Derived.Test.YtigincejpjajpaaSort2
import Derived.Test.YtigincejpjajpaaRows
import Derived.Shelf.SlicesG.Cmp
import Derived.Shelf.Lay
import Derived.Ground.SlsfProg
import Derived.Ground.SlgcProg
namespace Go.Proofs.Ytigincejpjajpaa
set_option linter.unusedSimpArgs false
set_option linter.unusedVariables false
open Go.Shelf Go.RowKit Go.Lib Go.Am
open Go.Sort hiding Below

shelf_lay_g SlLaysF0.n6 Slsf 6 at Try 52 as sortPairsL
shelf_lay_g SlLaysF.n6 Slsf 6 at Try 48 as sortIntsL
shelf_lay_g SlLaysC2.n5 Slgc 5 at Try 40 as cmpIntL

/-- A pair's two cells. -/
def encP (x : Int × Int) : List Value := [.int .i64 x.1, .int .i64 x.2]
def cmpP (x y : Int × Int) : Int := if x.1 = y.1 then Lib.compareInt x.2 y.2 else Lib.compareInt x.1 y.1
def ltP (x y : Int × Int) : Prop := x.1 < y.1 ∨ (x.1 = y.1 ∧ x.2 < y.2)
instance (x y : Int × Int) : Decidable (ltP x y) := by unfold ltP; infer_instance

theorem cmpP_lt (x y : Int × Int) : cmpP x y < 0 ↔ ltP x y := by
  unfold cmpP Lib.compareInt ltP
  split <;> (repeat' split) <;> constructor <;> intro h <;> first | omega | (simp at h; done) | (simp; omega) | skip
theorem swoP : Sort.SWO (ltOf cmpP) where
  irrefl x := by
    have := cmpP_lt x x
    unfold ltOf
    simp only [decide_eq_false_iff_not]
    rw [this]; unfold ltP; omega
  trans x y z h1 h2 := by
    unfold ltOf at *
    simp only [decide_eq_true_eq, cmpP_lt] at *
    unfold ltP at *; omega
  ntrans x y z h1 h2 := by
    unfold ltOf at *
    simp only [decide_eq_false_iff_not, cmpP_lt] at *
    unfold ltP at *; omega

theorem isAggP (w : World) : (isAgg 27).run Try.prog w = .ok true w := run_isAgg' Try.underlying27 w
theorem sizeOfP (w : World) : (Go.sizeOf 27).run Try.prog w = .ok 2 w := run_sizeOf' rfl w

set_option maxHeartbeats 1000000 in
/-- The program's own order of pairs, in whatever world: blocks are laid. -/
theorem byAThenB_calls (x y : Int × Int) (W : World) : Calls Try.prog 42 #[.agg #[.int .i64 x.1, .int .i64 x.2], .agg #[.int .i64 y.1, .int .i64 y.2]] W fun e w' => e = .returned (.int .i64 (cmpP x y)) ∧ ∃ q os', w' = grow (W.drewN q) os' := by
  have h1 := fun W' => AnyG.cmp_Compare_int cmpIntL x.1 y.1 W'
  have h2 := fun W' => AnyG.cmp_Compare_int cmpIntL x.2 y.2 W'
  change ∀ W', Calls Try.prog 40 _ _ _ at h1
  change ∀ W', Calls Try.prog 40 _ _ _ at h2
  unfold cmpP
  generalize Lib.compareInt x.1 y.1 = r1 at h1 ⊢
  generalize Lib.compareInt x.2 y.2 = r2 at h2 ⊢
  obtain ⟨x1, x2⟩ := x
  obtain ⟨y1, y2⟩ := y
  dsimp only at *
  by_cases he : x1 = y1
  · subst he
    rw [if_pos rfl]
    go_enter Try.func42, Try.ntmps42
    go_wp2_with (go_at_call 40; refine (h2 _).mono ?_; rintro e w' ⟨rfl, rfl⟩)
    go_ret
    exact ⟨rfl, 0, _, by rw [alloc_eq_grow, alloc_eq_grow, grow_grow]; rfl⟩
  · rw [if_neg he]
    have hb : (x1 == y1) = false := by simpa using he
    go_enter Try.func42, Try.ntmps42
    go_wp2_with (go_at_call 40; refine (h1 _).mono ?_; rintro e w' ⟨rfl, rfl⟩)
    go_ret
    exact ⟨rfl, 0, _, by rw [alloc_eq_grow, alloc_eq_grow, grow_grow]; rfl⟩


theorem entersSortP : Am.Enters Try.prog 52 := ⟨Try.f52, Try.func52, by kernel_rfl, by kernel_rfl⟩
theorem entersSortI : Am.Enters Try.prog 48 := ⟨Try.f48, Try.func48, by kernel_rfl, by kernel_rfl⟩

/-- Sorted pairs. -/
def SortedP (l : List (Int × Int)) : Prop := l.Pairwise fun x y => ¬ ltP y x
def SortedI (l : List Int) : Prop := l.Pairwise fun x y => ¬ y < x

theorem sortPairsC (W0 : World) {nx b t e c : Nat} {H : Heap} {q : Option TypeId} {l : List (Int × Int)} {rest : List Value} (ho : H b = some (.cells (l.flatMap encP ++ rest) e (some t) false q)) (hl : l.length < 1000000000000) :
    ACalls Try.prog W0 52 [.slice (some ⟨b, 0, some t⟩) l.length c, .func (.func 42) #[] #[]] nx H fun v nx' H' => v = .tuple #[] ∧ nx' = nx ∧ ∃ l' : List (Int × Int), l'.Perm l ∧ SortedP l' ∧ H' = H.put b (.cells (l'.flatMap encP ++ rest) e (some t) false q) := by
  have eg : ∀ args w, (callFunc 42 args).run Try.prog w = .ok (.enter 42 args) w := enters_of Try.func42 (by kernel_rfl) rfl
  have := sort_callsK (P := Try.prog) (W0 := W0) (nx := nx) (H := H) (enc := encP) (k := 2) (cf := cmpP) (f := 52) (g := 42) (fun _ => rfl) (fun x v hv => by simp [encP] at hv; rcases hv with rfl | rfl <;> exact ⟨_, _, rfl⟩)
    (fun blk off cap d w hH hb hsz => AnyQ.slices_SortFunc sortPairsL 2 isAggP sizeOfP encP (fun _ => rfl) (fun x v hv => by simp [encP] at hv; rcases hv with rfl | rfl <;> rfl) cmpP swoP 42 #[] blk off cap d w eg (fun _ _ _ _ x y => byAThenB_calls x y _) hH hb hsz) (c := c) ho (by omega)
  refine ACalls.weaken this ?_
  rintro v nx' H' ⟨h1, h2, l', h3, h4, h5⟩
  exact ⟨h1, h2, l', h3, h4.imp (fun {x y} h hlt => h ((cmpP_lt y x).2 hlt)), h5⟩

theorem cmpI_calls (x y : Int) (W : World) : Calls Try.prog 40 #[.int .i64 x, .int .i64 y] W fun e w' => e = .returned (.int .i64 (Lib.compareInt x y)) ∧ ∃ q os', w' = grow (W.drewN q) os' := by
  have h1 := AnyG.cmp_Compare_int cmpIntL x y W
  refine h1.mono ?_
  rintro e w' ⟨h2, h3⟩
  exact ⟨h2, 0, #[], by rw [h3]; simp [grow, World.drewN]⟩
theorem swoI : Sort.SWO (ltOf Lib.compareInt) where
  irrefl x := by unfold ltOf Lib.compareInt; simp
  trans x y z h1 h2 := by
    have key : ∀ a b : Int, ltOf Lib.compareInt a b = decide (a < b) := fun a b => by
      unfold ltOf Lib.compareInt
      by_cases h : a < b
      · simp [h]
      · by_cases h2 : b < a <;> simp [h, h2]
    rw [key] at *; simp at *; omega
  ntrans x y z h1 h2 := by
    have key : ∀ a b : Int, ltOf Lib.compareInt a b = decide (a < b) := fun a b => by
      unfold ltOf Lib.compareInt
      by_cases h : a < b
      · simp [h]
      · by_cases h2 : b < a <;> simp [h, h2]
    rw [key] at *; simp at *; omega

theorem sortIntsC (W0 : World) {nx b t e c : Nat} {H : Heap} {q : Option TypeId} {l : List Int} {rest : List Value} (ho : H b = some (.cells (l.map (.int .i64 ·) ++ rest) e (some t) false q)) (hl : l.length < 1000000000000) :
    ACalls Try.prog W0 48 [.slice (some ⟨b, 0, some t⟩) l.length c, .func (.func 40) #[] #[]] nx H fun v nx' H' => v = .tuple #[] ∧ nx' = nx ∧ ∃ l' : List Int, l'.Perm l ∧ SortedI l' ∧ H' = H.put b (.cells (l'.map (.int .i64 ·) ++ rest) e (some t) false q) := by
  have eg : ∀ args w, (callFunc 40 args).run Try.prog w = .ok (.enter 40 args) w := enters_of Try.func40 (by kernel_rfl) rfl
  have := sort_calls1 (P := Try.prog) (W0 := W0) (nx := nx) (H := H) (enc := fun x : Int => .int .i64 x) (cf := Lib.compareInt) (f := 48) (g := 40) (fun x => ⟨_, _, rfl⟩)
    (fun blk off cap d w hH hb hsz => Any.slices_SortFunc sortIntsL (fun x : Int => .int .i64 x) (fun _ => rfl) Lib.compareInt swoI 40 #[] blk off cap d w eg (fun _ _ _ _ x y => cmpI_calls x y _) hH hb hsz) (c := c) ho (by omega)
  refine ACalls.weaken this ?_
  rintro v nx' H' ⟨h1, h2, l', h3, h4, h5⟩
  refine ⟨h1, h2, l', h3, h4.imp (fun {x y} h hlt => h ?_), h5⟩
  unfold Lib.compareInt
  rw [if_pos hlt]
  decide

end Go.Proofs.Ytigincejpjajpaa
