/-
  Chapter 1: the program's reader of a word's text: blanks passed over, a symbol's text read.
-/
import Derived.Test.YtngekapiemkgnaaParse1
import Derived.Test.YtngekapiemkgnaaFind1
namespace Go.Proofs.Ytngekapiemkgnaa
set_option linter.unusedSimpArgs false
set_option linter.unusedVariables false
open Go.Am Go.RowKit
attribute [local irreducible] aop OpsL Trip blockExit OpsD

/-- The first place from i on where no blank stands. -/
def skipF (l : List Int) (i : Nat) : Nat := i + ((l.drop i).takeWhile fun b => decide (b = 32)).length

theorem skipF_blank {l : List Int} {i : Nat} (h : classF l i = 1) : l[i]? = some 32 ∧ i < l.length ∧ skipF l i = skipF l (i + 1) := by
  unfold classF at h
  cases hb : l[i]? with
  | none => rw [hb] at h; simp at h
  | some b =>
    rw [hb] at h
    have hb32 := classI_blank.1 h
    subst hb32
    have hlt := (List.getElem?_eq_some_iff.1 hb).1
    refine ⟨rfl, hlt, ?_⟩
    unfold skipF
    have e : l.drop i = 32 :: l.drop (i + 1) := by rw [List.drop_eq_getElem_cons hlt]; congr 1; exact (List.getElem?_eq_some_iff.1 hb).2
    rw [e, List.takeWhile_cons, if_pos (by simp), List.length_cons]
    omega

theorem skipF_else {l : List Int} {i : Nat} (h : classF l i ≠ 1) : skipF l i = i := by
  unfold classF at h
  unfold skipF
  cases hb : l[i]? with
  | none => rw [List.drop_eq_nil_of_le (List.getElem?_eq_none_iff.1 hb)]; simp
  | some b =>
    rw [hb] at h
    have hb32 : b ≠ 32 := fun e => h (classI_blank.2 e)
    have hlt := (List.getElem?_eq_some_iff.1 hb).1
    have e : l.drop i = b :: l.drop (i + 1) := by rw [List.drop_eq_getElem_cons hlt]; congr 1; exact (List.getElem?_eq_some_iff.1 hb).2
    rw [e, List.takeWhile_cons, if_neg (by simpa using hb32)]
    rfl

theorem skipF_le {l : List Int} {i : Nat} (h : i ≤ l.length) : i ≤ skipF l i ∧ skipF l i ≤ l.length := by
  unfold skipF
  have := (List.takeWhile_sublist (fun b => decide (b = 32)) (l := l.drop i)).length_le
  rw [List.length_drop] at this
  omega

theorem skipF_end {l : List Int} (i : Nat) : classF l (skipF l i) ≠ 1 := by
  have : ∀ n i, l.length - i ≤ n → classF l (skipF l i) ≠ 1 := by
    intro n
    induction n with
    | zero =>
      intro i hn h
      by_cases hc : classF l i = 1
      · have := (skipF_blank hc).2.1; omega
      · rw [skipF_else hc] at h; exact hc h
    | succ n ih =>
      intro i hn
      by_cases hc : classF l i = 1
      · obtain ⟨_, hlt, e⟩ := skipF_blank hc
        rw [e]
        exact ih (i + 1) (by omega)
      · rw [skipF_else hc]; exact hc
  exact this (l.length - i) i (Nat.le_refl _)

theorem parseAt_skip {ss : List (List Int × Int)} {l : List Int} {w : List Int} (i : Nat) : parseAt ss l (skipF l i) w = parseAt ss l i w := by
  have : ∀ n i, l.length - i ≤ n → parseAt ss l (skipF l i) w = parseAt ss l i w := by
    intro n
    induction n with
    | zero =>
      intro i hn
      by_cases hc : classF l i = 1
      · have := (skipF_blank hc).2.1; omega
      · rw [skipF_else hc]
    | succ n ih =>
      intro i hn
      by_cases hc : classF l i = 1
      · obtain ⟨hb, hlt, e⟩ := skipF_blank hc
        rw [e, ih (i + 1) (by omega), ← parseAt_blank hb]
      · rw [skipF_else hc]
  exact this (l.length - i) i (Nat.le_refl _)

theorem entersSkip : Enters Try.prog 27 := ⟨Try.f27, Try.func27, by kernel_rfl, by kernel_rfl⟩

set_option maxRecDepth 20000 in
set_option maxHeartbeats 4000000 in
theorem skipC (W0 : World) {nx : Nat} {H : Heap} {s : ByteArray} {i : Nat} (hs : (bs s).length ≤ 9223372036854775806) (hi : i ≤ (bs s).length) :
    ACalls Try.prog W0 27 [.string s, .int .i64 i] nx H fun v nx' H' => v = .int .i64 (skipF (bs s) i) ∧ nx' = nx ∧ H' = H := by
  refine ACalls.by_trip (fn := Try.f27) (c := _) Try.func27 rfl (fun tm n hn0 htm => ?_)
  have e0 : tm 0 = .string s := htm 0
  have e1 : tm 1 = .int .i64 i := htm 1
  clear htm
  replace hn0 : n = 12 := hn0
  repeat (first | (refine OpsL.p (by subst_vars; decide) (by (first | (exact aop_assign (by (first | (simp only [ASt.ev, tmPut, ↓reduceIte, reduceIte, Nat.reduceEqDiff, plain1, *]; rfl) | fail))) | fail)) ?_) | (refine Trip.seq ?_) | (refine Trip.ops ?_) | (refine Trip.block ?_) | (refine OpsL.nil ?_; ((repeat (first | refine blockExit_eq ?_ | refine blockExit_ne (by decide) ?_ | refine blockExit_normal ?_ | refine blockExit_ret ?_ | refine blockExit_goto ?_)); first | (change Trip _ _ _ _ _) | dsimp only | skip)) | fail)
  refine Trip.inv (fun (j : Nat) st => ∃ tm : Nat → Value, st = ⟨tm, n, H, nx⟩ ∧ tm 0 = .string s ∧ tm 1 = .int .i64 j ∧ j ≤ (bs s).length ∧ skipF (bs s) i = skipF (bs s) j) (fun j => (bs s).length - j) i ?_ ?_
  · exact ⟨_, rfl, e0, e1, hi, rfl⟩
  · rintro j st ⟨tm, rfl, e0, e1, hj, hsk⟩
    repeat (first | (refine OpsL.p (by subst_vars; decide) (by (first | (exact aop_move (by (first | (simp only [ASt.ev, tmPut, ↓reduceIte, reduceIte, Nat.reduceEqDiff, plain1, *]; rfl) | fail))) | fail)) ?_) | (refine Trip.seq ?_) | (refine Trip.ops ?_) | fail)
    refine OpsL.call2 (by subst_vars; decide) (by (first | (simp only [ASt.ev, tmPut, ↓reduceIte, reduceIte, Nat.reduceEqDiff, plain1, *]; rfl) | fail)) (by (first | (simp only [ASt.ev, tmPut, ↓reduceIte, reduceIte, Nat.reduceEqDiff, plain1, *]; rfl) | fail)) entersClass (classC W0) ?_
    rintro v nx1 H1 ⟨rfl, rfl, rfl⟩
    repeat' (first | (refine OpsL.p (by subst_vars; decide) (by (first | (exact aop_move (by (first | (simp only [ASt.ev, tmPut, ↓reduceIte, reduceIte, Nat.reduceEqDiff, plain1, *]; rfl) | fail))) | (exact aop_assign (by (first | (simp only [ASt.ev, tmPut, ↓reduceIte, reduceIte, Nat.reduceEqDiff, plain1, *]; rfl) | fail))) | (exact aop_eql (by (first | (simp only [ASt.ev, tmPut, ↓reduceIte, reduceIte, Nat.reduceEqDiff, plain1, *]; rfl) | fail)) (by (first | (simp only [ASt.ev, tmPut, ↓reduceIte, reduceIte, Nat.reduceEqDiff, plain1, *]; rfl) | fail))) | (exact aop_add (by (first | (simp only [ASt.ev, tmPut, ↓reduceIte, reduceIte, Nat.reduceEqDiff, plain1, *]; rfl) | fail)) (by (first | (simp only [ASt.ev, tmPut, ↓reduceIte, reduceIte, Nat.reduceEqDiff, plain1, *]; rfl) | fail)) (by omega)) | fail)) ?_) | (refine Trip.seq ?_) | (refine Trip.ops ?_) | (refine Trip.block ?_) | (refine Trip.ite (by (first | (simp only [ASt.ev, tmPut, ↓reduceIte, reduceIte, Nat.reduceEqDiff, plain1, *]; rfl) | fail)) (fun _ => ?_) (fun _ => ?_)) | (refine Trip.skip ?_; ((repeat (first | refine blockExit_eq ?_ | refine blockExit_ne (by decide) ?_ | refine blockExit_normal ?_ | refine blockExit_ret ?_ | refine blockExit_goto ?_)); first | (change Trip _ _ _ _ _) | dsimp only | skip)) | (refine Trip.exit ?_; ((repeat (first | refine blockExit_eq ?_ | refine blockExit_ne (by decide) ?_ | refine blockExit_normal ?_ | refine blockExit_ret ?_ | refine blockExit_goto ?_)); first | (change Trip _ _ _ _ _) | dsimp only | skip)) | (refine Trip.ret ?_; ((repeat (first | refine blockExit_eq ?_ | refine blockExit_ne (by decide) ?_ | refine blockExit_normal ?_ | refine blockExit_ret ?_ | refine blockExit_goto ?_)); first | (change Trip _ _ _ _ _) | dsimp only | skip)) | (refine OpsL.nil ?_; ((repeat (first | refine blockExit_eq ?_ | refine blockExit_ne (by decide) ?_ | refine blockExit_normal ?_ | refine blockExit_ret ?_ | refine blockExit_goto ?_)); first | (change Trip _ _ _ _ _) | dsimp only | skip)) | fail)
    · rename_i hc
      obtain ⟨_, hlt, e⟩ := skipF_blank hc
      refine ⟨j + 1, ⟨_, rfl, e0, by simp [tmPut], by omega, by rw [hsk, e]⟩, by omega⟩
    · rename_i hc
      refine ⟨.inr rfl, _, res_tmp, ?_, rfl, rfl⟩
      rw [hsk, skipF_else hc]
      simp [tmPut, e1]

/-! ### the reader of a symbol's text: its parts by their labels -/

noncomputable def scopeOf : Code → Code
  | .seq _ c => scopeOf c
  | .scope b => b
  | c => c
noncomputable def scB : Code := scopeOf (bodyOf Try.f28)
noncomputable def scL (l : Nat) : Code := (findLabel scB l).getD .skip
theorem scB_find (l : Nat) (h : l < 4) : findLabel scB l = some (scL l) := by
  rcases (by omega : l = 0 ∨ l = 1 ∨ l = 2 ∨ l = 3) with rfl | rfl | rfl | rfl <;> kernel_rfl

/-- What is told of a symbol's text. -/
def scanV (s : ByteArray) (x : Option (Nat × Nat × Int × Nat)) : Value :=
  match x with
  | some (a, b, k, c) => .tuple #[.agg #[.string (esubstr s a b), .int .i64 k], .int .i64 c, .bool true]
  | none => .tuple #[.agg #[.string ⟨#[]⟩, .int .i64 0], .int .i64 0, .bool false]

abbrev ScQ (nx : Nat) (H : Heap) (v : Value) : AExit → ASt → Prop := fun x s' => (x = .normal ∨ x = .ret) ∧ ∃ u, aResults Try.prog s' Try.f28.results = some u ∧ u = v ∧ s'.nx = nx + 1 ∧ Ext nx H (nx + 1) s'.H

theorem Scp.of {P : Program} {W0 : World} {b c : Code} {Q : AExit → ASt → Prop} {n : Nat} {st : ASt} (h : Trip P W0 c st fun e s => match e with
    | .goto l => (match findLabel b l with | some rest => Scp P W0 b Q n rest s | none => Q (.goto l) s)
    | e => Q e s) : Scp P W0 b Q (n + 1) c st := h

/-- What follows a part of the scope. -/
abbrev ScK (W0 : World) (N : Nat) (Q : AExit → ASt → Prop) : AExit → ASt → Prop := fun e s => match e with
    | .goto l => (match findLabel scB l with | some rest => Scp Try.prog W0 scB Q N rest s | none => Q (.goto l) s)
    | e => Q e s

def boxAt (nx : Nat) (H : Heap) : Heap := H.put nx (boxO (⟨#[]⟩, 0))

theorem res_c2 {P : Program} {st : ASt} {t : Tmp} {ty : TypeId} {a : Addr} {v : Value} {x y : Tmp} (ht : st.tm t = .pointer (some a)) (hr : readAt P st.H ty a = some v) : aResults P st #[.cell t ty, .tmp x, .tmp y] = some (.tuple #[v, st.tm x, st.tm y]) := by simp [aResults, aResultL, aResult, ht, hr]

set_option maxRecDepth 20000 in
set_option maxHeartbeats 4000000 in
theorem wrongL (W0 : World) {nx : Nat} {H : Heap} {n : Nat} {tm : Nat → Value} (hn : n = 63) (e4 : tm 4 = .pointer (some ⟨nx, 0, none⟩)) (s : ByteArray) (N : Nat) : Scp Try.prog W0 scB (ScQ nx H (scanV s none)) (N + 1) (scL 2) ⟨tm, n, boxAt nx H, nx + 1⟩ := by
  refine Scp.of ?_
  unfold boxAt
  repeat (first | (refine Trip.seq ?_) | (refine Trip.ops ?_) | (refine Trip.skip ?_; ((repeat (first | refine blockExit_eq ?_ | refine blockExit_ne (by decide) ?_ | refine blockExit_normal ?_ | refine blockExit_ret ?_ | refine blockExit_goto ?_)); first | (change Trip _ _ _ _ _) | dsimp only | skip)) | fail)
  refine OpsL.p (by subst_vars; decide) (aop_build (l := []) (by rfl) (by exact rfl)) ?_
  refine OpsL.upd (aop_store (by (first | (simp only [ASt.ev, tmPut, ↓reduceIte, reduceIte, Nat.reduceEqDiff, plain1, *]; rfl) | fail)) (by (first | (simp only [ASt.ev, tmPut, ↓reduceIte, reduceIte, Nat.reduceEqDiff, plain1, *]; rfl) | fail)) (by exact rfl) rfl (by simp [setc, Heap.put_eq, Value.cells, boxO]; exact ⟨⟨rfl, rfl⟩, rfl⟩)) ?_
  repeat (first | (refine OpsL.p (by subst_vars; decide) (by (first | (exact aop_assign (by (first | (simp only [ASt.ev, tmPut, ↓reduceIte, reduceIte, Nat.reduceEqDiff, plain1, *]; rfl) | fail))) | fail)) ?_) | (refine Trip.ret ?_; ((repeat (first | refine blockExit_eq ?_ | refine blockExit_ne (by decide) ?_ | refine blockExit_normal ?_ | refine blockExit_ret ?_ | refine blockExit_goto ?_)); first | (change Trip _ _ _ _ _) | dsimp only | skip)) | (refine OpsL.nil ?_; ((repeat (first | refine blockExit_eq ?_ | refine blockExit_ne (by decide) ?_ | refine blockExit_normal ?_ | refine blockExit_ret ?_ | refine blockExit_goto ?_)); first | (change Trip _ _ _ _ _) | dsimp only | skip)) | fail)
  refine ⟨.inr rfl, _, res_c2 (by (first | (simp only [ASt.ev, tmPut, ↓reduceIte, reduceIte, Nat.reduceEqDiff, plain1, *]; rfl) | fail)) (readAt_agg (k := 2) (by exact rfl) rfl (by exact rfl) (getc_own (by simp))), ?_, rfl, ?_⟩
  · simp [scanV, tmPut]
  · refine ⟨by omega, fun i hi => ?_⟩
    show (Heap.put (Heap.put H nx _) nx _) i = H i
    rw [Heap.put_ne (by omega), Heap.put_ne (by omega)]

theorem aSlice_str {P : Program} {H : Heap} {ty : TypeId} {s : ByteArray} {f t : Nat} (hu : P.underlying ty = some .string) (hf : f ≤ t) (ht : t ≤ (bs s).length) : aSlice P H ty (.string s) (some (.int .i64 f)) (some (.int .i64 t)) none = some (.string (esubstr s f t)) := by
  have hsz : (bs s).length = s.size := by rw [bs_length]; rfl
  have hb : bounds s.size s.size (some (.int .i64 f)) (some (.int .i64 t)) none = some (f, t, s.size) := by
    unfold bounds bound
    simp
    omega
  unfold aSlice
  simp only [hu, hb, Option.isSome_none, Bool.false_eq_true, if_false, Option.map_some]

set_option maxRecDepth 20000 in
set_option maxHeartbeats 4000000 in
theorem behindT (W0 : World) {nx : Nat} {H : Heap} {n : Nat} {tm : Nat → Value} {s : ByteArray} {k : Int} {i f t : Nat} (hn : n = 63) (e0 : tm 0 = .string s) (e4 : tm 4 = .pointer (some ⟨nx, 0, none⟩)) (e7 : tm 7 = .int .i64 k) (e8 : tm 8 = .int .i64 i) (e9 : tm 9 = .int .i64 f) (e10 : tm 10 = .int .i64 t)
    (hf : f ≤ t) (ht : t ≤ (bs s).length) (hs : (bs s).length ≤ 1000000) (N : Nat) :
    Trip Try.prog W0 (tlC (scL 3)) ⟨tm, n, boxAt nx H, nx + 1⟩ (ScK W0 N (ScQ nx H (if endAt (bs s) i ∧ 1 ≤ t - f ∧ t - f ≤ 8 then scanV s (some (f, t, k, i)) else scanV s none))) := by
  unfold boxAt ScK
  repeat (first | (refine OpsL.p (by subst_vars; decide) (by (first | (exact aop_move (by (first | (simp only [ASt.ev, tmPut, ↓reduceIte, reduceIte, Nat.reduceEqDiff, plain1, *]; rfl) | fail))) | fail)) ?_) | (refine Trip.seq ?_) | (refine Trip.ops ?_) | fail)
  refine OpsL.call2 (by subst_vars; decide) (by (first | (simp only [ASt.ev, tmPut, ↓reduceIte, reduceIte, Nat.reduceEqDiff, plain1, *]; rfl) | fail)) (by (first | (simp only [ASt.ev, tmPut, ↓reduceIte, reduceIte, Nat.reduceEqDiff, plain1, *]; rfl) | fail)) entersClass (classC W0) ?_
  rintro v nx1 H1 ⟨rfl, rfl, rfl⟩
  repeat' (first | (refine OpsL.p (by subst_vars; decide) (by (first | (exact aop_move (by (first | (simp only [ASt.ev, tmPut, ↓reduceIte, reduceIte, Nat.reduceEqDiff, plain1, *]; rfl) | fail))) | (exact aop_assign (by (first | (simp only [ASt.ev, tmPut, ↓reduceIte, reduceIte, Nat.reduceEqDiff, plain1, *]; rfl) | fail))) | (exact aop_eql (by (first | (simp only [ASt.ev, tmPut, ↓reduceIte, reduceIte, Nat.reduceEqDiff, plain1, *]; rfl) | fail)) (by (first | (simp only [ASt.ev, tmPut, ↓reduceIte, reduceIte, Nat.reduceEqDiff, plain1, *]; rfl) | fail))) | (exact aop_sub (by (first | (simp only [ASt.ev, tmPut, ↓reduceIte, reduceIte, Nat.reduceEqDiff, plain1, *]; rfl) | fail)) (by (first | (simp only [ASt.ev, tmPut, ↓reduceIte, reduceIte, Nat.reduceEqDiff, plain1, *]; rfl) | fail)) (by omega)) | fail)) ?_) | (refine Trip.seq ?_) | (refine Trip.ops ?_) | (refine Trip.block ?_) | (refine Trip.ite (by (first | (simp only [ASt.ev, tmPut, ↓reduceIte, reduceIte, Nat.reduceEqDiff, plain1, *]; rfl) | fail)) (fun _ => ?_) (fun _ => ?_)) | (refine Trip.skip ?_; ((repeat (first | refine blockExit_eq ?_ | refine blockExit_ne (by decide) ?_ | refine blockExit_normal ?_ | refine blockExit_ret ?_ | refine blockExit_goto ?_)); first | (change Trip _ _ _ _ _) | dsimp only | skip)) | (refine OpsL.nil ?_; ((repeat (first | refine blockExit_eq ?_ | refine blockExit_ne (by decide) ?_ | refine blockExit_normal ?_ | refine blockExit_ret ?_ | refine blockExit_goto ?_)); first | (change Trip _ _ _ _ _) | dsimp only | skip)) | fail)
  · rename_i hc _
    refine OpsL.call1 (by subst_vars; decide) (by (first | (simp only [ASt.ev, tmPut, ↓reduceIte, reduceIte, Nat.reduceEqDiff, plain1, *]; rfl) | fail)) entersNameLong (nameLongC W0) ?_
    rintro v nx1 H1 ⟨rfl, rfl, rfl⟩
    repeat' (first | (refine OpsL.p (by subst_vars; decide) (by (first | (exact aop_move (by (first | (simp only [ASt.ev, tmPut, ↓reduceIte, reduceIte, Nat.reduceEqDiff, plain1, *]; rfl) | fail))) | fail)) ?_) | (refine Trip.seq ?_) | (refine Trip.ops ?_) | (refine Trip.ite (by (first | (simp only [ASt.ev, tmPut, ↓reduceIte, reduceIte, Nat.reduceEqDiff, plain1, *]; rfl) | fail)) (fun _ => ?_) (fun _ => ?_)) | (refine Trip.skip ?_; ((repeat (first | refine blockExit_eq ?_ | refine blockExit_ne (by decide) ?_ | refine blockExit_normal ?_ | refine blockExit_ret ?_ | refine blockExit_goto ?_)); first | (change Trip _ _ _ _ _) | dsimp only | skip)) | (refine OpsL.nil ?_; ((repeat (first | refine blockExit_eq ?_ | refine blockExit_ne (by decide) ?_ | refine blockExit_normal ?_ | refine blockExit_ret ?_ | refine blockExit_goto ?_)); first | (change Trip _ _ _ _ _) | dsimp only | skip)) | fail)
    · rename_i hl
      have hpos : endAt (bs s) i ∧ 1 ≤ t - f ∧ t - f ≤ 8 := by
        refine ⟨Or.inl hc, ?_⟩
        omega
      refine OpsL.p (by subst_vars; decide) (aop_slice (a := some (.int .i64 f)) (b := some (.int .i64 t)) (c := none) (by (first | (simp only [ASt.ev, tmPut, ↓reduceIte, reduceIte, Nat.reduceEqDiff, plain1, *]; done) | fail)) (by simp only [evOpt, ASt.ev, tmPut, ↓reduceIte, reduceIte, Option.some.injEq, Nat.reduceEqDiff, Option.map_some]) (by simp only [evOpt, ASt.ev, tmPut, ↓reduceIte, reduceIte, Option.some.injEq, Nat.reduceEqDiff, Option.map_some]) rfl (aSlice_str (by exact rfl) hf ht)) ?_
      repeat (first | (refine OpsL.p (by subst_vars; decide) (by (first | (exact aop_move (by (first | (simp only [ASt.ev, tmPut, ↓reduceIte, reduceIte, Nat.reduceEqDiff, plain1, *]; rfl) | fail))) | fail)) ?_) | fail)
      refine OpsL.p (by subst_vars; decide) (aop_build (v := .agg #[.string (esubstr s f t), .int .i64 k]) (l := [(0, .string (esubstr s f t)), (1, .int .i64 k)]) (by simp only [evParts, ASt.ev, tmPut, ↓reduceIte, reduceIte, Option.some.injEq, Nat.reduceEqDiff, *]) (by exact rfl)) ?_
      repeat (first | (refine OpsL.p (by subst_vars; decide) (by (first | (exact aop_move (by (first | (simp only [ASt.ev, tmPut, ↓reduceIte, reduceIte, Nat.reduceEqDiff, plain1, *]; rfl) | fail))) | fail)) ?_) | fail)
      refine OpsL.upd (aop_store (by (first | (simp only [ASt.ev, tmPut, ↓reduceIte, reduceIte, Nat.reduceEqDiff, plain1, *]; rfl) | fail)) (by (first | (simp only [ASt.ev, tmPut, ↓reduceIte, reduceIte, Nat.reduceEqDiff, plain1, *]; rfl) | fail)) (by exact rfl) rfl (by simp [setc, Heap.put_eq, Value.cells, boxO]; exact ⟨⟨rfl, rfl⟩, rfl⟩)) ?_
      repeat (first | (refine OpsL.p (by subst_vars; decide) (by (first | (exact aop_assign (by (first | (simp only [ASt.ev, tmPut, ↓reduceIte, reduceIte, Nat.reduceEqDiff, plain1, *]; rfl) | fail))) | fail)) ?_) | (refine Trip.ret ?_; ((repeat (first | refine blockExit_eq ?_ | refine blockExit_ne (by decide) ?_ | refine blockExit_normal ?_ | refine blockExit_ret ?_ | refine blockExit_goto ?_)); first | (change Trip _ _ _ _ _) | dsimp only | skip)) | (refine OpsL.nil ?_; ((repeat (first | refine blockExit_eq ?_ | refine blockExit_ne (by decide) ?_ | refine blockExit_normal ?_ | refine blockExit_ret ?_ | refine blockExit_goto ?_)); first | (change Trip _ _ _ _ _) | dsimp only | skip)) | fail)
      refine ⟨.inr rfl, _, res_c2 (by (first | (simp only [ASt.ev, tmPut, ↓reduceIte, reduceIte, Nat.reduceEqDiff, plain1, *]; rfl) | fail)) (readAt_agg (k := 2) (by exact rfl) rfl (by exact rfl) (getc_own (by simp))), ?_, rfl, by omega, fun i hi => ?_⟩
      · rw [if_pos hpos]; simp [scanV, tmPut]
      · show (Heap.put (Heap.put H nx _) nx _) i = H i
        rw [Heap.put_ne (by omega), Heap.put_ne (by omega)]
    · rename_i hl
      have hneg : ¬ (endAt (bs s) i ∧ 1 ≤ t - f ∧ t - f ≤ 8) := by
        intro h; omega
      refine Trip.label ?_
      ((repeat (first | refine blockExit_eq ?_ | refine blockExit_ne (by decide) ?_ | refine blockExit_normal ?_ | refine blockExit_ret ?_ | refine blockExit_goto ?_)); first | (change Trip _ _ _ _ _) | dsimp only | skip)
      repeat (first | (refine Trip.seq ?_) | (refine Trip.ops ?_) | fail)
      refine OpsL.p (by subst_vars; decide) (aop_build (l := []) (by rfl) (by exact rfl)) ?_
      refine OpsL.upd (aop_store (by (first | (simp only [ASt.ev, tmPut, ↓reduceIte, reduceIte, Nat.reduceEqDiff, plain1, *]; rfl) | fail)) (by (first | (simp only [ASt.ev, tmPut, ↓reduceIte, reduceIte, Nat.reduceEqDiff, plain1, *]; rfl) | fail)) (by exact rfl) rfl (by simp [setc, Heap.put_eq, Value.cells, boxO]; exact ⟨⟨rfl, rfl⟩, rfl⟩)) ?_
      repeat (first | (refine OpsL.p (by subst_vars; decide) (by (first | (exact aop_assign (by (first | (simp only [ASt.ev, tmPut, ↓reduceIte, reduceIte, Nat.reduceEqDiff, plain1, *]; rfl) | fail))) | fail)) ?_) | (refine Trip.ret ?_; ((repeat (first | refine blockExit_eq ?_ | refine blockExit_ne (by decide) ?_ | refine blockExit_normal ?_ | refine blockExit_ret ?_ | refine blockExit_goto ?_)); first | (change Trip _ _ _ _ _) | dsimp only | skip)) | (refine OpsL.nil ?_; ((repeat (first | refine blockExit_eq ?_ | refine blockExit_ne (by decide) ?_ | refine blockExit_normal ?_ | refine blockExit_ret ?_ | refine blockExit_goto ?_)); first | (change Trip _ _ _ _ _) | dsimp only | skip)) | fail)
      refine ⟨.inr rfl, _, res_c2 (by (first | (simp only [ASt.ev, tmPut, ↓reduceIte, reduceIte, Nat.reduceEqDiff, plain1, *]; rfl) | fail)) (readAt_agg (k := 2) (by exact rfl) rfl (by exact rfl) (getc_own (by simp))), ?_, rfl, by omega, fun i hi => ?_⟩
      · rw [if_neg hneg]; simp [scanV, tmPut]
      · show (Heap.put (Heap.put H nx _) nx _) i = H i
        rw [Heap.put_ne (by omega), Heap.put_ne (by omega)]
  · rename_i hc hx
    exact absurd trivial hx
  · rename_i hc0 hc
    refine OpsL.call1 (by subst_vars; decide) (by (first | (simp only [ASt.ev, tmPut, ↓reduceIte, reduceIte, Nat.reduceEqDiff, plain1, *]; rfl) | fail)) entersNameLong (nameLongC W0) ?_
    rintro v nx1 H1 ⟨rfl, rfl, rfl⟩
    repeat' (first | (refine OpsL.p (by subst_vars; decide) (by (first | (exact aop_move (by (first | (simp only [ASt.ev, tmPut, ↓reduceIte, reduceIte, Nat.reduceEqDiff, plain1, *]; rfl) | fail))) | fail)) ?_) | (refine Trip.seq ?_) | (refine Trip.ops ?_) | (refine Trip.ite (by (first | (simp only [ASt.ev, tmPut, ↓reduceIte, reduceIte, Nat.reduceEqDiff, plain1, *]; rfl) | fail)) (fun _ => ?_) (fun _ => ?_)) | (refine Trip.skip ?_; ((repeat (first | refine blockExit_eq ?_ | refine blockExit_ne (by decide) ?_ | refine blockExit_normal ?_ | refine blockExit_ret ?_ | refine blockExit_goto ?_)); first | (change Trip _ _ _ _ _) | dsimp only | skip)) | (refine OpsL.nil ?_; ((repeat (first | refine blockExit_eq ?_ | refine blockExit_ne (by decide) ?_ | refine blockExit_normal ?_ | refine blockExit_ret ?_ | refine blockExit_goto ?_)); first | (change Trip _ _ _ _ _) | dsimp only | skip)) | fail)
    · rename_i hl
      have hpos : endAt (bs s) i ∧ 1 ≤ t - f ∧ t - f ≤ 8 := by
        refine ⟨Or.inr hc, ?_⟩
        omega
      refine OpsL.p (by subst_vars; decide) (aop_slice (a := some (.int .i64 f)) (b := some (.int .i64 t)) (c := none) (by (first | (simp only [ASt.ev, tmPut, ↓reduceIte, reduceIte, Nat.reduceEqDiff, plain1, *]; done) | fail)) (by simp only [evOpt, ASt.ev, tmPut, ↓reduceIte, reduceIte, Option.some.injEq, Nat.reduceEqDiff, Option.map_some]) (by simp only [evOpt, ASt.ev, tmPut, ↓reduceIte, reduceIte, Option.some.injEq, Nat.reduceEqDiff, Option.map_some]) rfl (aSlice_str (by exact rfl) hf ht)) ?_
      repeat (first | (refine OpsL.p (by subst_vars; decide) (by (first | (exact aop_move (by (first | (simp only [ASt.ev, tmPut, ↓reduceIte, reduceIte, Nat.reduceEqDiff, plain1, *]; rfl) | fail))) | fail)) ?_) | fail)
      refine OpsL.p (by subst_vars; decide) (aop_build (v := .agg #[.string (esubstr s f t), .int .i64 k]) (l := [(0, .string (esubstr s f t)), (1, .int .i64 k)]) (by simp only [evParts, ASt.ev, tmPut, ↓reduceIte, reduceIte, Option.some.injEq, Nat.reduceEqDiff, *]) (by exact rfl)) ?_
      repeat (first | (refine OpsL.p (by subst_vars; decide) (by (first | (exact aop_move (by (first | (simp only [ASt.ev, tmPut, ↓reduceIte, reduceIte, Nat.reduceEqDiff, plain1, *]; rfl) | fail))) | fail)) ?_) | fail)
      refine OpsL.upd (aop_store (by (first | (simp only [ASt.ev, tmPut, ↓reduceIte, reduceIte, Nat.reduceEqDiff, plain1, *]; rfl) | fail)) (by (first | (simp only [ASt.ev, tmPut, ↓reduceIte, reduceIte, Nat.reduceEqDiff, plain1, *]; rfl) | fail)) (by exact rfl) rfl (by simp [setc, Heap.put_eq, Value.cells, boxO]; exact ⟨⟨rfl, rfl⟩, rfl⟩)) ?_
      repeat (first | (refine OpsL.p (by subst_vars; decide) (by (first | (exact aop_assign (by (first | (simp only [ASt.ev, tmPut, ↓reduceIte, reduceIte, Nat.reduceEqDiff, plain1, *]; rfl) | fail))) | fail)) ?_) | (refine Trip.ret ?_; ((repeat (first | refine blockExit_eq ?_ | refine blockExit_ne (by decide) ?_ | refine blockExit_normal ?_ | refine blockExit_ret ?_ | refine blockExit_goto ?_)); first | (change Trip _ _ _ _ _) | dsimp only | skip)) | (refine OpsL.nil ?_; ((repeat (first | refine blockExit_eq ?_ | refine blockExit_ne (by decide) ?_ | refine blockExit_normal ?_ | refine blockExit_ret ?_ | refine blockExit_goto ?_)); first | (change Trip _ _ _ _ _) | dsimp only | skip)) | fail)
      refine ⟨.inr rfl, _, res_c2 (by (first | (simp only [ASt.ev, tmPut, ↓reduceIte, reduceIte, Nat.reduceEqDiff, plain1, *]; rfl) | fail)) (readAt_agg (k := 2) (by exact rfl) rfl (by exact rfl) (getc_own (by simp))), ?_, rfl, by omega, fun i hi => ?_⟩
      · rw [if_pos hpos]; simp [scanV, tmPut]
      · show (Heap.put (Heap.put H nx _) nx _) i = H i
        rw [Heap.put_ne (by omega), Heap.put_ne (by omega)]
    · rename_i hl
      have hneg : ¬ (endAt (bs s) i ∧ 1 ≤ t - f ∧ t - f ≤ 8) := by
        intro h; omega
      refine Trip.label ?_
      ((repeat (first | refine blockExit_eq ?_ | refine blockExit_ne (by decide) ?_ | refine blockExit_normal ?_ | refine blockExit_ret ?_ | refine blockExit_goto ?_)); first | (change Trip _ _ _ _ _) | dsimp only | skip)
      repeat (first | (refine Trip.seq ?_) | (refine Trip.ops ?_) | fail)
      refine OpsL.p (by subst_vars; decide) (aop_build (l := []) (by rfl) (by exact rfl)) ?_
      refine OpsL.upd (aop_store (by (first | (simp only [ASt.ev, tmPut, ↓reduceIte, reduceIte, Nat.reduceEqDiff, plain1, *]; rfl) | fail)) (by (first | (simp only [ASt.ev, tmPut, ↓reduceIte, reduceIte, Nat.reduceEqDiff, plain1, *]; rfl) | fail)) (by exact rfl) rfl (by simp [setc, Heap.put_eq, Value.cells, boxO]; exact ⟨⟨rfl, rfl⟩, rfl⟩)) ?_
      repeat (first | (refine OpsL.p (by subst_vars; decide) (by (first | (exact aop_assign (by (first | (simp only [ASt.ev, tmPut, ↓reduceIte, reduceIte, Nat.reduceEqDiff, plain1, *]; rfl) | fail))) | fail)) ?_) | (refine Trip.ret ?_; ((repeat (first | refine blockExit_eq ?_ | refine blockExit_ne (by decide) ?_ | refine blockExit_normal ?_ | refine blockExit_ret ?_ | refine blockExit_goto ?_)); first | (change Trip _ _ _ _ _) | dsimp only | skip)) | (refine OpsL.nil ?_; ((repeat (first | refine blockExit_eq ?_ | refine blockExit_ne (by decide) ?_ | refine blockExit_normal ?_ | refine blockExit_ret ?_ | refine blockExit_goto ?_)); first | (change Trip _ _ _ _ _) | dsimp only | skip)) | fail)
      refine ⟨.inr rfl, _, res_c2 (by (first | (simp only [ASt.ev, tmPut, ↓reduceIte, reduceIte, Nat.reduceEqDiff, plain1, *]; rfl) | fail)) (readAt_agg (k := 2) (by exact rfl) rfl (by exact rfl) (getc_own (by simp))), ?_, rfl, by omega, fun i hi => ?_⟩
      · rw [if_neg hneg]; simp [scanV, tmPut]
      · show (Heap.put (Heap.put H nx _) nx _) i = H i
        rw [Heap.put_ne (by omega), Heap.put_ne (by omega)]
  · rename_i hc0 hc
    have hneg : ¬ (endAt (bs s) i ∧ 1 ≤ t - f ∧ t - f ≤ 8) := by
      rintro ⟨h1 | h1, _⟩ <;> omega
    refine Trip.label ?_
    ((repeat (first | refine blockExit_eq ?_ | refine blockExit_ne (by decide) ?_ | refine blockExit_normal ?_ | refine blockExit_ret ?_ | refine blockExit_goto ?_)); first | (change Trip _ _ _ _ _) | dsimp only | skip)
    repeat (first | (refine Trip.seq ?_) | (refine Trip.ops ?_) | fail)
    refine OpsL.p (by subst_vars; decide) (aop_build (l := []) (by rfl) (by exact rfl)) ?_
    refine OpsL.upd (aop_store (by (first | (simp only [ASt.ev, tmPut, ↓reduceIte, reduceIte, Nat.reduceEqDiff, plain1, *]; rfl) | fail)) (by (first | (simp only [ASt.ev, tmPut, ↓reduceIte, reduceIte, Nat.reduceEqDiff, plain1, *]; rfl) | fail)) (by exact rfl) rfl (by simp [setc, Heap.put_eq, Value.cells, boxO]; exact ⟨⟨rfl, rfl⟩, rfl⟩)) ?_
    repeat (first | (refine OpsL.p (by subst_vars; decide) (by (first | (exact aop_assign (by (first | (simp only [ASt.ev, tmPut, ↓reduceIte, reduceIte, Nat.reduceEqDiff, plain1, *]; rfl) | fail))) | fail)) ?_) | (refine Trip.ret ?_; ((repeat (first | refine blockExit_eq ?_ | refine blockExit_ne (by decide) ?_ | refine blockExit_normal ?_ | refine blockExit_ret ?_ | refine blockExit_goto ?_)); first | (change Trip _ _ _ _ _) | dsimp only | skip)) | (refine OpsL.nil ?_; ((repeat (first | refine blockExit_eq ?_ | refine blockExit_ne (by decide) ?_ | refine blockExit_normal ?_ | refine blockExit_ret ?_ | refine blockExit_goto ?_)); first | (change Trip _ _ _ _ _) | dsimp only | skip)) | fail)
    refine ⟨.inr rfl, _, res_c2 (by (first | (simp only [ASt.ev, tmPut, ↓reduceIte, reduceIte, Nat.reduceEqDiff, plain1, *]; rfl) | fail)) (readAt_agg (k := 2) (by exact rfl) rfl (by exact rfl) (getc_own (by simp))), ?_, rfl, by omega, fun i hi => ?_⟩
    · rw [if_neg hneg]; simp [scanV, tmPut]
    · show (Heap.put (Heap.put H nx _) nx _) i = H i
      rw [Heap.put_ne (by omega), Heap.put_ne (by omega)]

theorem runF_letter {l : List Int} {i : Nat} (h : classF l i = 2) : i < l.length ∧ runF l i = runF l (i + 1) + 1 := by
  unfold classF at h
  cases hb : l[i]? with
  | none => rw [hb] at h; simp at h
  | some b =>
    rw [hb] at h
    have hL : isL b = true := isL_iff.2 (classI_letter.1 h)
    have hlt := (List.getElem?_eq_some_iff.1 hb).1
    have e : l.drop i = b :: l.drop (i + 1) := by rw [List.drop_eq_getElem_cons hlt]; congr 1; exact (List.getElem?_eq_some_iff.1 hb).2
    refine ⟨hlt, ?_⟩
    unfold runF
    rw [e, List.takeWhile_cons, if_pos hL, List.length_cons]

theorem runF_other {l : List Int} {i : Nat} (h : classF l i ≠ 2) : runF l i = 0 := by
  unfold classF at h
  unfold runF
  cases hb : l[i]? with
  | none => rw [List.drop_eq_nil_of_le (List.getElem?_eq_none_iff.1 hb)]; rfl
  | some b =>
    rw [hb] at h
    have hL : isL b = false := by
      cases hq : isL b with
      | false => rfl
      | true => exact absurd (classI_letter.2 (isL_iff.1 hq)) h
    have hlt := (List.getElem?_eq_some_iff.1 hb).1
    have e : l.drop i = b :: l.drop (i + 1) := by rw [List.drop_eq_getElem_cons hlt]; congr 1; exact (List.getElem?_eq_some_iff.1 hb).2
    rw [e, List.takeWhile_cons, if_neg (by rw [hL]; decide)]
    rfl

/-- What is told of letters up to j, behind what opens. -/
def nameV (s : ByteArray) (k : Int) (f j : Nat) : Value :=
  if k = 3 then (if endAt (bs s) j ∧ 1 ≤ j - f ∧ j - f ≤ 8 then scanV s (some (f, j, 3, j)) else scanV s none)
  else if classF (bs s) j = 5 then (if endAt (bs s) (j + 1) ∧ 1 ≤ j - f ∧ j - f ≤ 8 then scanV s (some (f, j, k, j + 1)) else scanV s none)
  else scanV s none

theorem scK_goto {W0 : World} {N : Nat} {Q : AExit → ASt → Prop} {l : Nat} {st : ASt} (hl : l < 4) (h : Scp Try.prog W0 scB Q N (scL l) st) : ScK W0 N Q (.goto l) st := by
  show (match findLabel scB l with | some rest => Scp Try.prog W0 scB Q N rest st | none => Q (.goto l) st)
  rw [scB_find l hl]
  exact h

set_option maxRecDepth 20000 in
set_option maxHeartbeats 4000000 in
theorem nameStep (W0 : World) {nx : Nat} {H : Heap} {n : Nat} {tm : Nat → Value} {s : ByteArray} {k : Int} {f i : Nat} (hn : n = 63) (hs : (bs s).length ≤ 1000000) (e0 : tm 0 = .string s) (e4 : tm 4 = .pointer (some ⟨nx, 0, none⟩)) (e7 : tm 7 = .int .i64 k) (e8 : tm 8 = .int .i64 i) (e9 : tm 9 = .int .i64 f)
    (hf : f ≤ i) (hi : i ≤ (bs s).length) (N : Nat)
    (hnext : classF (bs s) i = 2 → ∀ tm' : Nat → Value, tm' 0 = .string s → tm' 4 = .pointer (some ⟨nx, 0, none⟩) → tm' 7 = .int .i64 k → tm' 8 = .int .i64 ((i + 1 : Nat) : Int) → tm' 9 = .int .i64 f → Scp Try.prog W0 scB (ScQ nx H (nameV s k f (i + runF (bs s) i))) (N + 1) (scL 1) ⟨tm', n, boxAt nx H, nx + 1⟩) :
    Trip Try.prog W0 (tlC (scL 1)) ⟨tm, n, boxAt nx H, nx + 1⟩ (ScK W0 (N + 1) (ScQ nx H (nameV s k f (i + runF (bs s) i)))) := by
  unfold ScK
  repeat (first | (refine OpsL.p (by subst_vars; decide) (by (first | (exact aop_move (by (first | (simp only [ASt.ev, tmPut, ↓reduceIte, reduceIte, Nat.reduceEqDiff, plain1, *]; rfl) | fail))) | fail)) ?_) | (refine Trip.seq ?_) | (refine Trip.ops ?_) | fail)
  refine OpsL.call2 (by subst_vars; decide) (by (first | (simp only [ASt.ev, tmPut, ↓reduceIte, reduceIte, Nat.reduceEqDiff, plain1, *]; rfl) | fail)) (by (first | (simp only [ASt.ev, tmPut, ↓reduceIte, reduceIte, Nat.reduceEqDiff, plain1, *]; rfl) | fail)) entersClass (classC W0) ?_
  rintro v nx1 H1 ⟨rfl, rfl, rfl⟩
  repeat' (first | (refine OpsL.p (by subst_vars; decide) (by (first | (exact aop_move (by (first | (simp only [ASt.ev, tmPut, ↓reduceIte, reduceIte, Nat.reduceEqDiff, plain1, *]; rfl) | fail))) | (exact aop_assign (by (first | (simp only [ASt.ev, tmPut, ↓reduceIte, reduceIte, Nat.reduceEqDiff, plain1, *]; rfl) | fail))) | (exact aop_eql (by (first | (simp only [ASt.ev, tmPut, ↓reduceIte, reduceIte, Nat.reduceEqDiff, plain1, *]; rfl) | fail)) (by (first | (simp only [ASt.ev, tmPut, ↓reduceIte, reduceIte, Nat.reduceEqDiff, plain1, *]; rfl) | fail))) | (exact aop_add (by (first | (simp only [ASt.ev, tmPut, ↓reduceIte, reduceIte, Nat.reduceEqDiff, plain1, *]; rfl) | fail)) (by (first | (simp only [ASt.ev, tmPut, ↓reduceIte, reduceIte, Nat.reduceEqDiff, plain1, *]; rfl) | fail)) (by omega)) | fail)) ?_) | (refine Trip.seq ?_) | (refine Trip.ops ?_) | (refine Trip.ite (by (first | (simp only [ASt.ev, tmPut, ↓reduceIte, reduceIte, Nat.reduceEqDiff, plain1, *]; rfl) | fail)) (fun _ => ?_) (fun _ => ?_)) | (refine Trip.skip ?_; ((repeat (first | refine blockExit_eq ?_ | refine blockExit_ne (by decide) ?_ | refine blockExit_normal ?_ | refine blockExit_ret ?_ | refine blockExit_goto ?_)); first | (change Trip _ _ _ _ _) | dsimp only | skip)) | (refine OpsL.nil ?_; ((repeat (first | refine blockExit_eq ?_ | refine blockExit_ne (by decide) ?_ | refine blockExit_normal ?_ | refine blockExit_ret ?_ | refine blockExit_goto ?_)); first | (change Trip _ _ _ _ _) | dsimp only | skip)) | fail)
  · rename_i hc
    refine Trip.goto (scK_goto (l := 1) (by omega) (hnext hc _ ?_ ?_ ?_ ?_ ?_))
    all_goals simp [tmPut, *]
  · rename_i hc hk
    have hj : i + runF (bs s) i = i := by rw [runF_other hc]; rfl
    refine Trip.goto (scK_goto (l := 3) (by omega) ?_)
    refine Scp.of (Trip.seq (Trip.skip ?_))
    rw [hj]
    unfold nameV
    rw [if_pos hk]
    refine behindT W0 (s := s) (k := 3) (i := i) (f := f) (t := i) hn ?_ ?_ ?_ ?_ ?_ ?_ hf hi hs N
    all_goals simp [tmPut, *]
  · rename_i hc hk
    have hj : i + runF (bs s) i = i := by rw [runF_other hc]; rfl
    refine OpsL.call2 (by subst_vars; decide) (by (first | (simp only [ASt.ev, tmPut, ↓reduceIte, reduceIte, Nat.reduceEqDiff, plain1, *]; rfl) | fail)) (by (first | (simp only [ASt.ev, tmPut, ↓reduceIte, reduceIte, Nat.reduceEqDiff, plain1, *]; rfl) | fail)) entersClass (classC W0) ?_
    rintro v nx1 H1 ⟨rfl, rfl, rfl⟩
    repeat' (first | (refine OpsL.p (by subst_vars; decide) (by (first | (exact aop_move (by (first | (simp only [ASt.ev, tmPut, ↓reduceIte, reduceIte, Nat.reduceEqDiff, plain1, *]; rfl) | fail))) | (exact aop_assign (by (first | (simp only [ASt.ev, tmPut, ↓reduceIte, reduceIte, Nat.reduceEqDiff, plain1, *]; rfl) | fail))) | (exact aop_neq (by (first | (simp only [ASt.ev, tmPut, ↓reduceIte, reduceIte, Nat.reduceEqDiff, plain1, *]; rfl) | fail)) (by (first | (simp only [ASt.ev, tmPut, ↓reduceIte, reduceIte, Nat.reduceEqDiff, plain1, *]; rfl) | fail))) | (exact aop_add (by (first | (simp only [ASt.ev, tmPut, ↓reduceIte, reduceIte, Nat.reduceEqDiff, plain1, *]; rfl) | fail)) (by (first | (simp only [ASt.ev, tmPut, ↓reduceIte, reduceIte, Nat.reduceEqDiff, plain1, *]; rfl) | fail)) (by omega)) | fail)) ?_) | (refine Trip.seq ?_) | (refine Trip.ops ?_) | (refine Trip.ite (by (first | (simp only [ASt.ev, tmPut, ↓reduceIte, reduceIte, Nat.reduceEqDiff, plain1, *]; rfl) | fail)) (fun _ => ?_) (fun _ => ?_)) | (refine Trip.skip ?_; ((repeat (first | refine blockExit_eq ?_ | refine blockExit_ne (by decide) ?_ | refine blockExit_normal ?_ | refine blockExit_ret ?_ | refine blockExit_goto ?_)); first | (change Trip _ _ _ _ _) | dsimp only | skip)) | (refine OpsL.nil ?_; ((repeat (first | refine blockExit_eq ?_ | refine blockExit_ne (by decide) ?_ | refine blockExit_normal ?_ | refine blockExit_ret ?_ | refine blockExit_goto ?_)); first | (change Trip _ _ _ _ _) | dsimp only | skip)) | fail)
    · rename_i hr
      refine Trip.goto (scK_goto (l := 2) (by omega) ?_)
      rw [hj]
      unfold nameV
      rw [if_neg hk, if_neg hr]
      refine wrongL W0 hn ?_ s N
      simp [tmPut, *]
    · rename_i hr
      have hr5 : classF (bs s) i = 5 := Decidable.not_not.1 hr
      have hlt : i < (bs s).length := by
        unfold classF at hr5
        cases hb : (bs s)[i]? with
        | none => rw [hb] at hr5; simp at hr5
        | some b => exact (List.getElem?_eq_some_iff.1 hb).1
      refine Trip.label ?_
      ((repeat (first | refine blockExit_eq ?_ | refine blockExit_ne (by decide) ?_ | refine blockExit_normal ?_ | refine blockExit_ret ?_ | refine blockExit_goto ?_)); first | (change Trip _ _ _ _ _) | dsimp only | skip)
      rw [hj]
      unfold nameV
      rw [if_neg hk, if_pos hr5]
      refine behindT W0 (s := s) (k := k) (i := i + 1) (f := f) (t := i) hn ?_ ?_ ?_ ?_ ?_ ?_ hf hi hs (N + 1)
      all_goals simp [tmPut, *]

theorem nameL (W0 : World) {nx : Nat} {H : Heap} {n : Nat} {s : ByteArray} {k : Int} {f : Nat} (hn : n = 63) (hs : (bs s).length ≤ 1000000) : ∀ (m : Nat) (i : Nat) (tm : Nat → Value), (bs s).length - i ≤ m → tm 0 = .string s → tm 4 = .pointer (some ⟨nx, 0, none⟩) → tm 7 = .int .i64 k → tm 8 = .int .i64 i → tm 9 = .int .i64 f →
    f ≤ i → i ≤ (bs s).length → Scp Try.prog W0 scB (ScQ nx H (nameV s k f (i + runF (bs s) i))) (m + 2) (scL 1) ⟨tm, n, boxAt nx H, nx + 1⟩ := by
  intro m
  induction m with
  | zero =>
    intro i tm hm e0 e4 e7 e8 e9 hf hi
    refine Scp.of (Trip.seq (Trip.skip (nameStep W0 hn hs e0 e4 e7 e8 e9 hf hi 0 fun hc => ?_)))
    have := (runF_letter hc).1
    omega
  | succ m ih =>
    intro i tm hm e0 e4 e7 e8 e9 hf hi
    refine Scp.of (Trip.seq (Trip.skip (nameStep W0 hn hs e0 e4 e7 e8 e9 hf hi (m + 1) fun hc tm' f0 f4 f7 f8 f9 => ?_)))
    obtain ⟨hlt, hr⟩ := runF_letter hc
    have := ih (i + 1) tm' (by omega) f0 f4 f7 f8 f9 (by omega) (by omega)
    rwa [show i + 1 + runF (bs s) (i + 1) = i + runF (bs s) i by omega] at this

/-- Letters from here on, by the code that stands behind the label. -/
theorem nameT (W0 : World) {nx : Nat} {H : Heap} {n : Nat} {tm : Nat → Value} {s : ByteArray} {k : Int} {f i : Nat} (hn : n = 63) (hs : (bs s).length ≤ 1000000) (e0 : tm 0 = .string s) (e4 : tm 4 = .pointer (some ⟨nx, 0, none⟩)) (e7 : tm 7 = .int .i64 k) (e8 : tm 8 = .int .i64 i) (e9 : tm 9 = .int .i64 f)
    (hf : f ≤ i) (hi : i ≤ (bs s).length) : Trip Try.prog W0 (tlC (scL 1)) ⟨tm, n, boxAt nx H, nx + 1⟩ (ScK W0 ((bs s).length + 2) (ScQ nx H (nameV s k f (i + runF (bs s) i)))) := by
  refine nameStep W0 hn hs e0 e4 e7 e8 e9 hf hi ((bs s).length + 1) fun hc tm' f0 f4 f7 f8 f9 => ?_
  obtain ⟨hlt, hr⟩ := runF_letter hc
  have := nameL W0 (H := H) (k := k) (f := f) hn hs (bs s).length (i + 1) tm' (by omega) f0 f4 f7 f8 f9 (by omega) (by omega)
  rwa [show i + 1 + runF (bs s) (i + 1) = i + runF (bs s) i by omega] at this

/-- What is told behind a '<'. -/
def brackV (s : ByteArray) (i : Nat) : Value := if classF (bs s) i = 4 then nameV s 2 (i + 1) (i + 1 + runF (bs s) (i + 1)) else nameV s 1 i (i + runF (bs s) i)

theorem classF_lt {l : List Int} {i : Nat} {c : Int} (h : classF l i = c) (hc : c ≠ 6) : i < l.length := by
  unfold classF at h
  cases hb : l[i]? with
  | none => rw [hb] at h; exact absurd h.symm hc
  | some b => exact (List.getElem?_eq_some_iff.1 hb).1

set_option maxRecDepth 20000 in
set_option maxHeartbeats 4000000 in
theorem brackT (W0 : World) {nx : Nat} {H : Heap} {n : Nat} {tm : Nat → Value} {s : ByteArray} {i : Nat} (hn : n = 63) (hs : (bs s).length ≤ 1000000) (e0 : tm 0 = .string s) (e4 : tm 4 = .pointer (some ⟨nx, 0, none⟩)) (e8 : tm 8 = .int .i64 i) (hi : i ≤ (bs s).length) :
    Trip Try.prog W0 (tlC (scL 0)) ⟨tm, n, boxAt nx H, nx + 1⟩ (ScK W0 ((bs s).length + 2) (ScQ nx H (brackV s i))) := by
  unfold ScK
  repeat (first | (refine OpsL.p (by subst_vars; decide) (by (first | (exact aop_move (by (first | (simp only [ASt.ev, tmPut, ↓reduceIte, reduceIte, Nat.reduceEqDiff, plain1, *]; rfl) | fail))) | (exact aop_assign (by (first | (simp only [ASt.ev, tmPut, ↓reduceIte, reduceIte, Nat.reduceEqDiff, plain1, *]; rfl) | fail))) | fail)) ?_) | (refine Trip.seq ?_) | (refine Trip.ops ?_) | (refine OpsL.nil ?_; ((repeat (first | refine blockExit_eq ?_ | refine blockExit_ne (by decide) ?_ | refine blockExit_normal ?_ | refine blockExit_ret ?_ | refine blockExit_goto ?_)); first | (change Trip _ _ _ _ _) | dsimp only | skip)) | fail)
  refine OpsL.call2 (by subst_vars; decide) (by (first | (simp only [ASt.ev, tmPut, ↓reduceIte, reduceIte, Nat.reduceEqDiff, plain1, *]; rfl) | fail)) (by (first | (simp only [ASt.ev, tmPut, ↓reduceIte, reduceIte, Nat.reduceEqDiff, plain1, *]; rfl) | fail)) entersClass (classC W0) ?_
  rintro v nx1 H1 ⟨rfl, rfl, rfl⟩
  repeat' (first | (refine OpsL.p (by subst_vars; decide) (by (first | (exact aop_move (by (first | (simp only [ASt.ev, tmPut, ↓reduceIte, reduceIte, Nat.reduceEqDiff, plain1, *]; rfl) | fail))) | (exact aop_assign (by (first | (simp only [ASt.ev, tmPut, ↓reduceIte, reduceIte, Nat.reduceEqDiff, plain1, *]; rfl) | fail))) | (exact aop_eql (by (first | (simp only [ASt.ev, tmPut, ↓reduceIte, reduceIte, Nat.reduceEqDiff, plain1, *]; rfl) | fail)) (by (first | (simp only [ASt.ev, tmPut, ↓reduceIte, reduceIte, Nat.reduceEqDiff, plain1, *]; rfl) | fail))) | (exact aop_add (by (first | (simp only [ASt.ev, tmPut, ↓reduceIte, reduceIte, Nat.reduceEqDiff, plain1, *]; rfl) | fail)) (by (first | (simp only [ASt.ev, tmPut, ↓reduceIte, reduceIte, Nat.reduceEqDiff, plain1, *]; rfl) | fail)) (by omega)) | fail)) ?_) | (refine Trip.seq ?_) | (refine Trip.ops ?_) | (refine Trip.ite (by (first | (simp only [ASt.ev, tmPut, ↓reduceIte, reduceIte, Nat.reduceEqDiff, plain1, *]; rfl) | fail)) (fun _ => ?_) (fun _ => ?_)) | (refine Trip.skip ?_; ((repeat (first | refine blockExit_eq ?_ | refine blockExit_ne (by decide) ?_ | refine blockExit_normal ?_ | refine blockExit_ret ?_ | refine blockExit_goto ?_)); first | (change Trip _ _ _ _ _) | dsimp only | skip)) | (refine OpsL.nil ?_; ((repeat (first | refine blockExit_eq ?_ | refine blockExit_ne (by decide) ?_ | refine blockExit_normal ?_ | refine blockExit_ret ?_ | refine blockExit_goto ?_)); first | (change Trip _ _ _ _ _) | dsimp only | skip)) | fail)
  · rename_i hc
    have hlt := classF_lt hc (by decide)
    refine Trip.label ?_
    ((repeat (first | refine blockExit_eq ?_ | refine blockExit_ne (by decide) ?_ | refine blockExit_normal ?_ | refine blockExit_ret ?_ | refine blockExit_goto ?_)); first | (change Trip _ _ _ _ _) | dsimp only | skip)
    unfold brackV
    rw [if_pos hc]
    refine nameT W0 (s := s) (k := 2) (i := i + 1) (f := i + 1) hn hs ?_ ?_ ?_ ?_ ?_ (by omega) (by omega)
    all_goals simp [tmPut, *]
  · rename_i hc
    refine Trip.label ?_
    ((repeat (first | refine blockExit_eq ?_ | refine blockExit_ne (by decide) ?_ | refine blockExit_normal ?_ | refine blockExit_ret ?_ | refine blockExit_goto ?_)); first | (change Trip _ _ _ _ _) | dsimp only | skip)
    unfold brackV
    rw [if_neg hc]
    refine nameT W0 (s := s) (k := 1) (i := i) (f := i) hn hs ?_ ?_ ?_ ?_ ?_ (by omega) (by omega)
    all_goals simp [tmPut, *]

theorem scanF_left {s : ByteArray} {i : Nat} (h : classF (bs s) i = 3) : brackV s (i + 1) = scanV s (scanF (bs s) i) := by
  unfold brackV scanF
  rw [if_pos h]
  by_cases c : classF (bs s) (i + 1) = 4
  · rw [if_pos c, if_pos c]
    have e : i + 1 + 1 = i + 2 := rfl
    rw [e]
    unfold nameV
    rw [if_neg (show ¬ (2 : Int) = 3 by decide)]
    by_cases c5 : classF (bs s) (i + 2 + runF (bs s) (i + 2)) = 5
    · rw [if_pos c5]
      by_cases ce : endAt (bs s) (i + 2 + runF (bs s) (i + 2) + 1) ∧ 1 ≤ runF (bs s) (i + 2) ∧ runF (bs s) (i + 2) ≤ 8
      · rw [if_pos ⟨ce.1, by omega, by omega⟩, if_pos ⟨c5, ce⟩]
      · rw [if_neg (fun q => ce ⟨q.1, by omega, by omega⟩), if_neg (fun q => ce q.2)]
    · rw [if_neg c5, if_neg (fun q => c5 q.1)]
  · rw [if_neg c, if_neg c]
    unfold nameV
    rw [if_neg (show ¬ (1 : Int) = 3 by decide)]
    by_cases c5 : classF (bs s) (i + 1 + runF (bs s) (i + 1)) = 5
    · rw [if_pos c5]
      by_cases ce : endAt (bs s) (i + 1 + runF (bs s) (i + 1) + 1) ∧ 1 ≤ runF (bs s) (i + 1) ∧ runF (bs s) (i + 1) ≤ 8
      · rw [if_pos ⟨ce.1, by omega, by omega⟩, if_pos ⟨c5, ce⟩]
      · rw [if_neg (fun q => ce ⟨q.1, by omega, by omega⟩), if_neg (fun q => ce q.2)]
    · rw [if_neg c5, if_neg (fun q => c5 q.1)]

theorem scanF_letter {s : ByteArray} {i : Nat} (h : classF (bs s) i = 2) : nameV s 3 i (i + runF (bs s) i) = scanV s (scanF (bs s) i) := by
  unfold scanF
  rw [if_neg (show ¬ classF (bs s) i = 3 by rw [h]; decide), if_pos h]
  unfold nameV
  rw [if_pos (show (3 : Int) = 3 from rfl)]
  by_cases ce : endAt (bs s) (i + runF (bs s) i) ∧ 1 ≤ runF (bs s) i ∧ runF (bs s) i ≤ 8
  · rw [if_pos ⟨ce.1, by omega, by omega⟩, if_pos ce]
  · rw [if_neg (fun q => ce ⟨q.1, by omega, by omega⟩), if_neg ce]

theorem scanF_other {l : List Int} {i : Nat} (h : classF l i ≠ 3) (h2 : classF l i ≠ 2) : scanF l i = none := by
  unfold scanF
  rw [if_neg h, if_neg h2]

theorem entersScan : Enters Try.prog 28 := ⟨Try.f28, Try.func28, by kernel_rfl, by kernel_rfl⟩

set_option maxRecDepth 20000 in
set_option maxHeartbeats 4000000 in
theorem scanC (W0 : World) {nx : Nat} {H : Heap} {s : ByteArray} {i : Nat} (hs : (bs s).length ≤ 1000000) (hi : i ≤ (bs s).length) :
    ACalls Try.prog W0 28 [.string s, .int .i64 i] nx H fun v nx' H' => v = scanV s (scanF (bs s) i) ∧ nx' = nx + 1 ∧ Ext nx H (nx + 1) H' := by
  refine ACalls.by_trip (fn := Try.f28) (c := _) Try.func28 rfl (fun tm n hn0 htm => ?_)
  have e0 : tm 0 = .string s := htm 0
  have e1 : tm 1 = .int .i64 i := htm 1
  clear htm
  replace hn0 : n = 63 := hn0
  refine Trip.seq (Trip.ops ?_)
  refine OpsL.new (by subst_vars; decide) (aop_alloc (by exact rfl)) ?_
  repeat (first | (refine OpsL.p (by subst_vars; decide) (by (first | (exact aop_assign (by (first | (simp only [ASt.ev, tmPut, ↓reduceIte, reduceIte, Nat.reduceEqDiff, plain1, *]; rfl) | fail))) | fail)) ?_) | (refine OpsL.nil ?_; ((repeat (first | refine blockExit_eq ?_ | refine blockExit_ne (by decide) ?_ | refine blockExit_normal ?_ | refine blockExit_ret ?_ | refine blockExit_goto ?_)); first | (change Trip _ _ _ _ _) | dsimp only | skip)) | fail)
  refine Trip.scope ((bs s).length + 4) ?_
  show Scp Try.prog W0 scB (ScQ nx H (scanV s (scanF (bs s) i))) ((bs s).length + 4) scB ⟨_, n, boxAt nx H, nx + 1⟩
  refine Scp.of ?_
  repeat (first | (refine OpsL.p (by subst_vars; decide) (by (first | (exact aop_move (by (first | (simp only [ASt.ev, tmPut, ↓reduceIte, reduceIte, Nat.reduceEqDiff, plain1, *]; rfl) | fail))) | (exact aop_assign (by (first | (simp only [ASt.ev, tmPut, ↓reduceIte, reduceIte, Nat.reduceEqDiff, plain1, *]; rfl) | fail))) | fail)) ?_) | (refine Trip.seq ?_) | (refine Trip.ops ?_) | (refine OpsL.nil ?_; ((repeat (first | refine blockExit_eq ?_ | refine blockExit_ne (by decide) ?_ | refine blockExit_normal ?_ | refine blockExit_ret ?_ | refine blockExit_goto ?_)); first | (change Trip _ _ _ _ _) | dsimp only | skip)) | fail)
  refine OpsL.call2 (by subst_vars; decide) (by (first | (simp only [ASt.ev, tmPut, ↓reduceIte, reduceIte, Nat.reduceEqDiff, plain1, *]; rfl) | fail)) (by (first | (simp only [ASt.ev, tmPut, ↓reduceIte, reduceIte, Nat.reduceEqDiff, plain1, *]; rfl) | fail)) entersClass (classC W0) ?_
  rintro v nx1 H1 ⟨rfl, rfl, rfl⟩
  repeat' (first | (refine OpsL.p (by subst_vars; decide) (by (first | (exact aop_move (by (first | (simp only [ASt.ev, tmPut, ↓reduceIte, reduceIte, Nat.reduceEqDiff, plain1, *]; rfl) | fail))) | (exact aop_assign (by (first | (simp only [ASt.ev, tmPut, ↓reduceIte, reduceIte, Nat.reduceEqDiff, plain1, *]; rfl) | fail))) | (exact aop_eql (by (first | (simp only [ASt.ev, tmPut, ↓reduceIte, reduceIte, Nat.reduceEqDiff, plain1, *]; rfl) | fail)) (by (first | (simp only [ASt.ev, tmPut, ↓reduceIte, reduceIte, Nat.reduceEqDiff, plain1, *]; rfl) | fail))) | (exact aop_add (by (first | (simp only [ASt.ev, tmPut, ↓reduceIte, reduceIte, Nat.reduceEqDiff, plain1, *]; rfl) | fail)) (by (first | (simp only [ASt.ev, tmPut, ↓reduceIte, reduceIte, Nat.reduceEqDiff, plain1, *]; rfl) | fail)) (by omega)) | fail)) ?_) | (refine Trip.seq ?_) | (refine Trip.ops ?_) | (refine Trip.block ?_) | (refine Trip.ite (by (first | (simp only [ASt.ev, tmPut, ↓reduceIte, reduceIte, Nat.reduceEqDiff, plain1, *]; rfl) | fail)) (fun _ => ?_) (fun _ => ?_)) | (refine Trip.skip ?_; ((repeat (first | refine blockExit_eq ?_ | refine blockExit_ne (by decide) ?_ | refine blockExit_normal ?_ | refine blockExit_ret ?_ | refine blockExit_goto ?_)); first | (change Trip _ _ _ _ _) | dsimp only | skip)) | (refine OpsL.nil ?_; ((repeat (first | refine blockExit_eq ?_ | refine blockExit_ne (by decide) ?_ | refine blockExit_normal ?_ | refine blockExit_ret ?_ | refine blockExit_goto ?_)); first | (change Trip _ _ _ _ _) | dsimp only | skip)) | fail)
  · rename_i hc
    have hlt := classF_lt hc (by decide)
    refine Trip.goto (blockExit_goto ?_)
    refine scK_goto (N := (bs s).length + 3) (Q := ScQ nx H (scanV s (scanF (bs s) i))) (l := 0) (by omega) (Scp.of (Trip.seq (Trip.skip ?_)))
    rw [← scanF_left hc]
    refine brackT W0 (i := i + 1) hn0 hs ?_ ?_ ?_ (by omega)
    all_goals simp [tmPut, *]
  · rename_i hc3 hc
    refine Trip.goto (blockExit_goto ?_)
    refine scK_goto (N := (bs s).length + 3) (Q := ScQ nx H (scanV s (scanF (bs s) i))) (l := 1) (by omega) (Scp.of (Trip.seq (Trip.skip ?_)))
    rw [← scanF_letter hc]
    refine nameT W0 (k := 3) (i := i) (f := i) hn0 hs ?_ ?_ ?_ ?_ ?_ (by omega) hi
    all_goals simp [tmPut, *]
  · rename_i hc3 hc
    refine Trip.goto ?_
    refine scK_goto (N := (bs s).length + 3) (Q := ScQ nx H (scanV s (scanF (bs s) i))) (l := 2) (by omega) ?_
    rw [scanF_other hc3 hc]
    refine wrongL W0 hn0 ?_ s _
    simp [tmPut, *]

end Go.Proofs.Ytngekapiemkgnaa
