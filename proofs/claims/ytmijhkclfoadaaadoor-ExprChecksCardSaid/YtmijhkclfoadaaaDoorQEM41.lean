import Derived.Test.YtmijhkclfoadaaaDoorQEM40
import Derived.Test.YtmijhkclfoadaaaDoorQEM21
namespace Go.Proofs.YtmijhkclfoadaaaDoor
set_option linter.unusedSimpArgs false
set_option linter.unusedVariables false
open Go.Am Go.RowKit
attribute [local irreducible] aop OpsL Trip blockExit OpsD OpsK OpsR
set_option maxRecDepth 20000 in
set_option maxHeartbeats 8000000 in
theorem swT (W0 : World) {e : Ex} {H1 H : Heap} {nx1 nx A X : Nat} {tm : Nat → Value} {n : Nat} {v : Int} {lv : Value} (hn0 : n = 127) (h : XSt H1 nx1 e H nx A X e) (t3 : tm 3 = .int .i64 v) (t11 : tm 11 = lv) (t12 : tm 12 = .pointer (some ⟨A, 0, none⟩)) (t13 : tm 13 = .pointer (some ⟨X, 0, none⟩)) {Q : AExit → ASt → Prop}
    (hQ : ∀ tm' nx' H' x', tm' 3 = .int .i64 v → tm' 11 = lv → tm' 12 = .pointer (some ⟨A, 0, none⟩) → tm' 13 = .pointer (some ⟨X, 0, none⟩) → XSt H1 nx1 e H' nx' A X x' → sizeX x' ≤ sizeX e + 23 → Q .normal ⟨tm', n, H', nx'⟩) {which deep : Int} (t2 : tm 2 = .int .i64 which) (t4 : tm 4 = .int .i64 deep) (hv : -9223372036854775808 ≤ v ∧ v ≤ 9223372036854775807) (hsz : sizeX e ≤ 900000) : Trip Tryd.prog W0 (subX [1, 1, 1, 1, 1, 0] (bodyX Tryd.f3)) ⟨tm, n, H, nx⟩ Q := by
  repeat (first | (refine OpsL.q (by exact omv) ?_) | (refine Trip.seq ?_) | (refine Trip.ops ?_))
  refine OpsL.c2 (hf := entersWithin5) (hc := (within5C W0 _ _ (by omega) (by omega))) (h := ?_)
  rintro u n6 H6 ⟨rfl, h2', h3'⟩
  subst h2'; subst h3'
  have w0 := Int.emod_nonneg which (show (6 : Int) ≠ 0 by omega)
  have w1 := Int.emod_lt_of_pos which (show (0 : Int) < 6 by omega)
  generalize which % 6 = w at *
  refine OpsL.nil ?_
  (change Trip _ _ _ _ _)
  repeat (first | (refine Trip.seq ?_) | (refine Trip.ops ?_) | (refine Trip.block ?_))
  by_cases m0 : w = 0
  · refine OpsL.eqlT ?_ (c := m0)
    repeat (first | (refine OpsL.q (by exact oasg) ?_) | (refine OpsL.nil ?_; (change Trip _ _ _ _ _)))
    refine Trip.ifT ?_
    refine sw0 W0 (v := v) (lv := lv) hn0 h (by simp [tmPut, *]) (by simp [tmPut, *]) (by simp [tmPut, *]) (by simp [tmPut, *]) (fun tm' nx' H' x' a3 a11 a12 a13 hst hle => ?_)
    ((repeat (refine blockExit_normal ?_)))
    exact hQ _ _ _ _ a3 a11 a12 a13 hst (by omega)
  refine OpsL.eqlF ?_ (c := m0)
  repeat (first | (refine OpsL.q (by exact oasg) ?_) | (refine OpsL.nil ?_; (change Trip _ _ _ _ _)))
  refine Trip.ifF ?_
  repeat (first | (refine Trip.seq ?_) | (refine Trip.ops ?_))
  by_cases m1 : w = 1
  · refine OpsL.eqlT ?_ (c := m1)
    repeat (first | (refine OpsL.q (by exact oasg) ?_) | (refine OpsL.nil ?_; (change Trip _ _ _ _ _)))
    refine Trip.ifT ?_
    refine sw1 W0 (v := v) (lv := lv) hn0 h (by simp [tmPut, *]) (by simp [tmPut, *]) (by simp [tmPut, *]) (by simp [tmPut, *]) (fun tm' nx' H' x' a3 a11 a12 a13 hst hle => ?_)
    ((repeat (refine blockExit_normal ?_)))
    exact hQ _ _ _ _ a3 a11 a12 a13 hst (by omega)
  refine OpsL.eqlF ?_ (c := m1)
  repeat (first | (refine OpsL.q (by exact oasg) ?_) | (refine OpsL.nil ?_; (change Trip _ _ _ _ _)))
  refine Trip.ifF ?_
  repeat (first | (refine Trip.seq ?_) | (refine Trip.ops ?_))
  by_cases m2 : w = 2
  · refine OpsL.eqlT ?_ (c := m2)
    repeat (first | (refine OpsL.q (by exact oasg) ?_) | (refine OpsL.nil ?_; (change Trip _ _ _ _ _)))
    refine Trip.ifT ?_
    refine sw2 W0 (v := v) (lv := lv) hn0 h (by simp [tmPut, *]) (by simp [tmPut, *]) (by simp [tmPut, *]) (by simp [tmPut, *]) (fun tm' nx' H' x' a3 a11 a12 a13 hst hle => ?_)
    ((repeat (refine blockExit_normal ?_)))
    exact hQ _ _ _ _ a3 a11 a12 a13 hst (by omega)
  refine OpsL.eqlF ?_ (c := m2)
  repeat (first | (refine OpsL.q (by exact oasg) ?_) | (refine OpsL.nil ?_; (change Trip _ _ _ _ _)))
  refine Trip.ifF ?_
  repeat (first | (refine Trip.seq ?_) | (refine Trip.ops ?_))
  by_cases m3 : w = 3
  · refine OpsL.eqlT ?_ (c := m3)
    repeat (first | (refine OpsL.q (by exact oasg) ?_) | (refine OpsL.nil ?_; (change Trip _ _ _ _ _)))
    refine Trip.ifT ?_
    refine sw3 W0 (v := v) (lv := lv) hn0 h (by simp [tmPut, *]) (by simp [tmPut, *]) (by simp [tmPut, *]) (by simp [tmPut, *]) (fun tm' nx' H' x' a3 a11 a12 a13 hst hle => ?_) hsz
    ((repeat (refine blockExit_normal ?_)))
    exact hQ _ _ _ _ a3 a11 a12 a13 hst (by omega)
  refine OpsL.eqlF ?_ (c := m3)
  repeat (first | (refine OpsL.q (by exact oasg) ?_) | (refine OpsL.nil ?_; (change Trip _ _ _ _ _)))
  refine Trip.ifF ?_
  repeat (first | (refine Trip.seq ?_) | (refine Trip.ops ?_))
  by_cases m4 : w = 4
  · refine OpsL.eqlT ?_ (c := m4)
    repeat (first | (refine OpsL.q (by exact oasg) ?_) | (refine OpsL.nil ?_; (change Trip _ _ _ _ _)))
    refine Trip.ifT ?_
    refine sw4 W0 (v := v) (lv := lv) hn0 h (by simp [tmPut, *]) (by simp [tmPut, *]) (by simp [tmPut, *]) (by simp [tmPut, *]) (fun tm' nx' H' x' a3 a11 a12 a13 hst hle => ?_) hv
    ((repeat (refine blockExit_normal ?_)))
    exact hQ _ _ _ _ a3 a11 a12 a13 hst (by omega)
  refine OpsL.eqlF ?_ (c := m4)
  repeat (first | (refine OpsL.q (by exact oasg) ?_) | (refine OpsL.nil ?_; (change Trip _ _ _ _ _)))
  refine Trip.ifF ?_
  repeat (first | (refine Trip.seq ?_) | (refine Trip.ops ?_))
  by_cases m5 : w = 5
  · refine OpsL.eqlT ?_ (c := m5)
    repeat (first | (refine OpsL.q (by exact oasg) ?_) | (refine OpsL.nil ?_; (change Trip _ _ _ _ _)))
    refine Trip.ifT ?_
    refine sw5 W0 (v := v) (lv := lv) hn0 h (by simp [tmPut, *]) (by simp [tmPut, *]) (by simp [tmPut, *]) (by simp [tmPut, *]) (fun tm' nx' H' x' a3 a11 a12 a13 hst hle => ?_) (deep := deep) (by simp [tmPut, *])
    ((repeat (refine blockExit_normal ?_)))
    exact hQ _ _ _ _ a3 a11 a12 a13 hst (by omega)
  refine OpsL.eqlF ?_ (c := m5)
  repeat (first | (refine OpsL.q (by exact oasg) ?_) | (refine OpsL.nil ?_; (change Trip _ _ _ _ _)))
  refine Trip.ifF ?_
  repeat (first | (refine Trip.skip ?_; ((repeat (refine blockExit_normal ?_)))))
  exfalso
  omega
end Go.Proofs.YtmijhkclfoadaaaDoor
namespace Go.Am
set_option linter.unusedSimpArgs false
set_option linter.unusedVariables false
open Go.RowKit
def szX : Nat → Nat | 0 => 4 | d + 1 => 1 + 3 * szX d
theorem mkK_size {ss : List (ByteArray × Int)} {ns : List Int} {rec : Bool → Nat → Ex × Nat} {k : Int} {nest : Bool} {at_ c : Nat} (hr : ∀ b a, sizeX (rec b a).1 ≤ c) : sizeX (mkK ss ns rec k nest at_).1 ≤ 1 + 3 * c := by
  unfold mkK
  repeat' split
  all_goals simp only
  all_goals try split
  all_goals simp only [sizeX, sizeXL]
  all_goals try omega
  · have h3 := hr true (pickX ss ns 2 (pickX ss ns 1 at_).2).2
    omega
  · have h1 := hr nest at_
    have h2 := hr nest (rec nest at_).2
    have h4 := hr nest (nxtX ns (rec nest (rec nest at_).2).2 3).2
    omega
  · have h1 := hr nest at_
    have h2 := hr nest (rec nest at_).2
    omega
  · have h1 := hr nest at_
    omega
theorem mkX_size (ss : List (ByteArray × Int)) (ns : List Int) : ∀ (d : Nat) (nest : Bool) (at_ : Nat), sizeX (mkX ss ns d nest at_).1 ≤ szX d
  | 0, nest, at_ => mkK_size (c := 1) fun _ _ => by simp [sizeX, sizeXL]
  | d + 1, nest, at_ => mkK_size (c := szX d) fun b a => mkX_size ss ns d b a
def leafV : XV := (2, 0, 0, none, 0, 0)
def leafX : Ex := .node 2 0 0 []
theorem leaves_at (H : Heap) (m : Nat) : XsAt H (List.replicate m leafV) (List.replicate m leafX) fun _ => [] := by
  refine ⟨by simp, fun i hi hu => ?_⟩
  rw [List.getElem_replicate, List.getElem_replicate]
  exact .leaf ..
theorem sizeXL_leaves : ∀ (m n : Nat), sizeXL (List.replicate m leafX) n = n + m
  | 0, n => by simp [sizeXL]
  | m + 1, n => by
    rw [List.replicate_succ]
    simp only [sizeXL, leafX, sizeX]
    have := sizeXL_leaves m (n + 1)
    simp only [leafX] at this
    omega
end Go.Am
namespace Go.Proofs.YtmijhkclfoadaaaDoor
set_option linter.unusedSimpArgs false
set_option linter.unusedVariables false
open Go.Am Go.RowKit
attribute [local irreducible] aop OpsL Trip blockExit OpsD OpsK OpsR
theorem entersKnown5 : Am.Enters Tryd.prog 11 := ⟨Tryd.f11, Tryd.func11, by kernel_rfl, by kernel_rfl⟩
set_option maxRecDepth 20000 in
set_option maxHeartbeats 16000000 in
theorem yT (W0 : World) {GY : Heap} {nz A X Y M : Nat} {tm : Nat → Value} {n : Nat} {v : Int} {lv : Value} (hn0 : n = 127) (hM : ((M : Nat) : Int) = 190 + v % 20) (hM2 : M ≤ 210) (t3 : tm 3 = .int .i64 v) (t11 : tm 11 = lv) (t12 : tm 12 = .pointer (some ⟨A, 0, none⟩)) (t13 : tm 13 = .pointer (some ⟨X, 0, none⟩)) (t15 : tm 15 = .pointer (some ⟨Y, 0, none⟩)) {H : Heap} (hx : Ext Y GY nz H) (hY : Y < nz) (hYc : H Y = some (.cells [.int .i64 6, .int .i64 0, .int .i64 0, .slice none 0 0] 0 none false (some 28))) {Q : AExit → ASt → Prop}
    (hQ : ∀ tm' nx' G vv ob, tm' 11 = lv → tm' 12 = .pointer (some ⟨A, 0, none⟩) → tm' 13 = .pointer (some ⟨X, 0, none⟩) → tm' 15 = .pointer (some ⟨Y, 0, none⟩) → Ext Y GY nx' G → Y < nx' → G Y = some (.cells [.int .i64 6, .int .i64 0, .int .i64 0, vv] 0 none false (some 28)) → OwnOf encX 4 28 G ob vv (List.replicate M leafV) → (∀ b t, ob = some (b, t) → b < nx' ∧ Y < b) → Q .normal ⟨tm', n, G, nx'⟩) : Trip Tryd.prog W0 (subX [1, 1, 1, 1, 1, 1, 1, 0] (bodyX Tryd.f3)) ⟨tm, n, H, nz⟩ Q := by
  repeat (first | (refine OpsL.q (by exact oasg) ?_) | (refine Trip.seq ?_) | (refine Trip.ops ?_) | (refine Trip.block ?_) | (refine OpsL.nil ?_; (change Trip _ _ _ _ _)))
  refine Trip.inv (fun (i : Nat) st => ∃ tm G nx' vv ob, st = ⟨tm, n, G, nx'⟩ ∧ tm 3 = .int .i64 v ∧ tm 11 = lv ∧ tm 12 = .pointer (some ⟨A, 0, none⟩) ∧ tm 13 = .pointer (some ⟨X, 0, none⟩) ∧ tm 15 = .pointer (some ⟨Y, 0, none⟩) ∧ tm 16 = .int .i64 i ∧ Ext Y GY nx' G ∧ Y < nx' ∧ G Y = some (.cells [.int .i64 6, .int .i64 0, .int .i64 0, vv] 0 none false (some 28)) ∧ OwnOf encX 4 28 G ob vv (List.replicate i leafV) ∧ (∀ b t, ob = some (b, t) → b < nx' ∧ Y < b) ∧ i ≤ M) (fun i => M - i) 0 ?_ ?_
  · exact ⟨_, _, _, _, none, rfl, by simp [tmPut, *], by simp [tmPut, *], by simp [tmPut, *], by simp [tmPut, *], by simp [tmPut, *], by simp [tmPut], hx, hY, hYc, ⟨rfl, rfl, rfl⟩, fun b t e => (by cases e), by omega⟩
  clear t3 t11 t12 t13 t15 hx hY hYc
  rintro i st ⟨tm, G, n1, vv, ob, rfl, t3, t11, t12, t13, t15, t16, hx, hY, hYc, hown, hob, hi⟩
  repeat (first | (refine OpsL.q (by exact omv) ?_) | (refine Trip.seq ?_) | (refine Trip.ops ?_))
  refine OpsL.c2 (hf := entersWithin5) (hc := (within5C W0 _ _ (by omega) (by omega))) (h := ?_)
  rintro u n6 H6 ⟨rfl, h2', h3'⟩
  subst h2'; subst h3'
  repeat (first | (refine OpsL.q (by exact oadd) ?_))
  by_cases hlt : (i : Int) < 190 + v % 20
  · refine OpsL.lssT ?_ (c := hlt)
    repeat (first | (refine OpsL.nil ?_; (change Trip _ _ _ _ _)))
    refine Trip.ifT ?_
    obtain ⟨av, kv, cv, rfl⟩ : ∃ a k c, vv = .slice a k c := by
      cases ob with
      | none => exact ⟨_, _, _, hown.1⟩
      | some bt => exact ⟨_, _, _, hown.1⟩
    have g3 : cellAt H6 ⟨Y, 3, none⟩ (.slice av kv cv) := cell_of hYc rfl
    repeat (first | (refine OpsL.q (by first | exact ofa | exact old) ?_) | (refine Trip.seq ?_) | (refine Trip.ops ?_) | (refine Trip.block ?_) | (refine Trip.skip ?_; (change Trip _ _ _ _ _)))
    refine OpsL.p (by subst_vars; decide) (aop_build (l := [(0, .int .i64 2)]) (by simp [evParts, ASt.ev, tmPut, plainC, plain1, *]) (v := .agg #[.int .i64 2, .int .i64 0, .int .i64 0, .slice none 0 0]) (by exact rfl)) ?_
    refine OpsL.new (by subst_vars; decide) (aop_buildSlice (l := [(0, .agg #[.int .i64 2, .int .i64 0, .int .i64 0, .slice none 0 0])]) (r := (.slice (some ⟨n6, 0, none⟩) 1 1, .new (.cells [.int .i64 2, .int .i64 0, .int .i64 0, .slice none 0 0] 4 none false (some 28)))) (by simp [evParts, ASt.ev, tmPut, plainC, plain1, *]) (by exact rfl)) ?_
    obtain ⟨G4, hG4⟩ : ∃ G4, G4 = H6.put n6 (.cells [.int .i64 2, .int .i64 0, .int .i64 0, .slice none 0 0] 4 none false (some 28)) := ⟨_, rfl⟩
    have x4 : Ext n6 H6 (n6 + 1) G4 := by rw [hG4]; exact Ext.newPut
    have r4 : G4 n6 = some (.cells [.int .i64 2, .int .i64 0, .int .i64 0, .slice none 0 0] 4 none false (some 28)) := by rw [hG4]; exact Heap.put_eq
    rw [← hG4]
    clear hG4
    have own4 := hown.ext x4 fun b t e => (hob b t e).1
    have hu4 : RowsAt encX 4 G4 (.slice (some ⟨n6, 0, none⟩) 1 1) [leafV] := .inr ⟨_, _, rfl, fun i hi => by
      have : i = 0 := by simpa using hi
      subst this
      exact getc_all r4 rfl⟩
    refine OpsL.appendO (bytes := 48) (z := [.int .i64 0, .int .i64 0, .int .i64 0, .slice none 0 0]) encX_len encX_one (by omega) (by subst_vars; decide) own4 hu4 (by (first | (simp only [ASt.ev, tmPut, ↓reduceIte, Nat.reduceEqDiff, *]; done))) (by (first | (simp only [ASt.ev, tmPut, ↓reduceIte, Nat.reduceEqDiff, *]; done))) (fun b t e => by have := hob b t e; omega) (by exact rfl) (by exact rfl) (by exact rfl) (by exact rfl) (by exact rfl) rfl (by simp; omega) (by omega) ?_
    intro v5 n5 G5 ob5 a5
    have own5 := a5.own
    rw [← List.replicate_succ'] at own5
    have q5 := a5.le
    have hob5 : ∀ b t, ob5 = some (b, t) → b < n5 ∧ Y < b := fun b t e => by
      have := a5.blk b t e
      rcases this with ⟨h1, rfl | ⟨t', h2⟩⟩
      · omega
      · have := hob b t' h2
        omega
    have x5 : Ext Y GY n5 G5 := ⟨by have := hx.1; omega, fun i hi => by
      rw [a5.same i (by omega) (fun b t e => by have := hob b t e; omega), x4.2 i (by omega), hx.2 i hi]⟩
    have hY5 : G5 Y = some (.cells [.int .i64 6, .int .i64 0, .int .i64 0, .slice av kv cv] 0 none false (some 28)) := by
      rw [a5.same Y (by omega) (fun b t e => by have := hob b t e; omega), x4.2 Y (by omega), hYc]
    cases ob5 with
    | none =>
      obtain ⟨_, _, h⟩ := own5
      simp at h
    | some bt =>
      obtain ⟨b, t⟩ := bt
      obtain ⟨hv5, hl5, hr5⟩ := id own5
      subst hv5
      repeat (first | (refine OpsL.q (by exact ofa) ?_))
      refine OpsL.storeAt 3 (cs' := [.int .i64 6, .int .i64 0, .int .i64 0, .slice (some ⟨b, 0, some t⟩) (List.replicate (i + 1) leafV).length (List.replicate (i + 1) leafV).length]) (by (first | (simp only [ASt.ev, tmPut, ↓reduceIte, Nat.reduceEqDiff, *]; rfl))) (by (first | (simp only [ASt.ev, tmPut, ↓reduceIte, Nat.reduceEqDiff, *]; rfl))) (by exact rfl) rfl rfl hY5 rfl (by simp) rfl ?_
      have hb5 := hob5 b t rfl
      repeat (first | (refine OpsL.q (by first | exact omv | exact oadd | exact oasg) ?_) | (refine Trip.ops ?_) | (refine OpsL.nil ?_; ((repeat (refine blockExit_normal ?_)); first | (change Trip _ _ _ _ _) | (dsimp only))))
      exact ⟨i + 1, ⟨_, _, _, _, some (b, t), rfl, by simp [tmPut, *], by simp [tmPut, *], by simp [tmPut, *], by simp [tmPut, *], by simp [tmPut, *], by simp [tmPut, *], ⟨x5.1, fun j hj => by rw [Heap.put_ne (show j ≠ Y by omega)]; exact x5.2 j hj⟩, by omega, Heap.put_eq, ⟨rfl, hl5, by rw [Heap.put_ne (show b ≠ Y by omega)]; exact hr5⟩, hob5, by omega⟩, by omega⟩
  · refine OpsL.lssF ?_ (c := hlt)
    repeat (first | (refine OpsL.nil ?_; (change Trip _ _ _ _ _)))
    refine Trip.ifF ?_
    repeat (first | (refine Trip.exit ?_; ((repeat (refine blockExit_eq ?_)))))
    obtain rfl : i = M := by omega
    exact hQ _ _ _ _ ob (by simp [tmPut, *]) (by simp [tmPut, *]) (by simp [tmPut, *]) (by simp [tmPut, *]) hx hY hYc hown hob
end Go.Proofs.YtmijhkclfoadaaaDoor
