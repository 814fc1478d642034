import Derived.Test.YtjgbcpagfghfnaaQWM29
import Derived.Test.YtjgbcpagfghfnaaQWM16
set_option linter.unusedVariables false
set_option linter.unusedSimpArgs false
set_option linter.unnecessarySimpa false
namespace Go.Am
open Go.RowKit
def pickL (l places : List Int) : List Int := places.map fun a => l.getD a.toNat 0
theorem pickL_len (l places : List Int) : (pickL l places).length = places.length := by simp [pickL]
def NewP (el : TypeId) (nx : Nat) (nx' : Nat) (H' : Heap) (v : Value) (cs : List Value) : Prop := ∃ b, nx ≤ b ∧ b < nx' ∧ v = .slice (some ⟨b, 0, none⟩) cs.length cs.length ∧ H' b = some (.cells cs 1 none false (some el))
theorem NewP.ints {el : TypeId} {nx nx' : Nat} {H' : Heap} {v : Value} {l : List Int} (h : NewP el nx nx' H' v (l.map (.int .i64 ·))) : IntsAt H' v l := by
  obtain ⟨b, _, _, rfl, hH⟩ := h
  refine .inr ⟨⟨b, 0, none⟩, l.length, by rw [List.length_map], fun i hi => ?_⟩
  rw [Nat.zero_add]
  exact cell_of hH (by rw [List.getElem?_map, List.getElem?_eq_getElem hi]; rfl)
theorem NewP.plain {el : TypeId} {σ : CH} {nx' : Nat} {H' : Heap} {v : Value} {cs : List Value} (h : NewP el σ.nx nx' H' v cs) (hx : Ext σ.nx σ.H nx' H') (c : Co) : ∃ τ : CH, nx' = τ.nx ∧ H' = τ.H ∧ Chg [] σ τ ∧ PlainC el c τ v cs := by
  obtain ⟨b, h1, h2, rfl, hH⟩ := h
  exact ⟨⟨nx', fun i => if i < σ.nx then σ.C i else c, H'⟩, rfl, rfl, ⟨hx.1, fun i hi => ⟨if_pos hi, fun _ => hx.2 i hi⟩⟩, b, rfl, h2, if_neg (by omega), hH⟩
def rankN (l : List Bool) (i : Nat) : Nat := (l.take i).count true
def rankL (l : List Bool) : List Int := (List.range l.length).map fun i => if l.getD i false then (rankN l i : Int) else -1
theorem rankN_succ {l : List Bool} {i : Nat} (h : i < l.length) : rankN l (i + 1) = rankN l i + (if l.getD i false then 1 else 0) := by
  unfold rankN
  rw [List.take_succ_eq_append_getElem h, List.count_append, List.getD_eq_getElem?_getD, List.getElem?_eq_getElem h]
  cases l[i] <;> rfl
theorem rankN_le (l : List Bool) (i : Nat) : rankN l i ≤ i := by
  unfold rankN
  refine Nat.le_trans List.count_le_length ?_
  rw [List.length_take]
  omega
def leastL (l : List Int) : Nat → List Int
  | 0 => []
  | i + 1 => if l.getD i 0 = (leastL l i).length then leastL l i ++ [(i : Int)] else leastL l i
theorem leastL_len (l : List Int) : ∀ i, (leastL l i).length ≤ i
  | 0 => Nat.le_refl _
  | i + 1 => by
    have := leastL_len l i
    unfold leastL
    split
    · simp; omega
    · omega
theorem rep_snoc {l : List Int} {n i : Nat} {x z : Int} (hl : l.length = i) (h : i < n) : (l ++ List.replicate (n - i) z).set i x = (l ++ [x]) ++ List.replicate (n - (i + 1)) z := by
  obtain ⟨k, rfl⟩ : ∃ k, n = i + 1 + k := ⟨n - (i + 1), by omega⟩
  subst hl
  rw [List.set_append_right _ _ (Nat.le_refl _), Nat.sub_self, show l.length + 1 + k - l.length = k + 1 by omega, show l.length + 1 + k - (l.length + 1) = k by omega, List.replicate_succ, List.append_assoc]
  rfl
end Go.Am
namespace Go.Proofs.Ytjgbcpagfghfnaa
open Go.Am Go.RowKit
attribute [local irreducible] aop OpsL Trip blockExit OpsD OpsK OpsR OpsQ
theorem entersPick : Am.Enters Try.prog 37 := ⟨Try.f37, Try.func37, by kernel_rfl, by kernel_rfl⟩
set_option maxRecDepth 20000 in
set_option maxHeartbeats 16000000 in
theorem pickC (W0 : World) {nx : Nat} {H : Heap} {lv pv : Value} {l places : List Int} (hl : IntsAt H lv l) (hp : IntsAt H pv places) (hpl : places.length ≤ 100000) (hin : ∀ i, i < places.length → 0 ≤ places.getD i 0 ∧ places.getD i 0 < l.length) :
    ACalls Try.prog W0 37 [lv, pv] nx H fun v nx' H' => NewP 3 nx nx' H' v ((pickL l places).map (.int .i64 ·)) ∧ Ext nx H nx' H' := by
  refine ACalls.by_trip (fn := Try.f37) (c := _) Try.func37 rfl (fun tm n hn0 htm => ?_)
  have e0 : tm 0 = lv := htm 0
  have e1 : tm 1 = pv := htm 1
  clear htm
  replace hn0 : n = 27 := hn0
  refine Trip.ok fun hok => ?_
  replace hok : ∀ id o, H id = some o → id < nx := hok
  obtain ⟨la, lc, rfl⟩ := hl.slice
  obtain ⟨pa, pc, rfl⟩ := hp.slice
  repeat (first | (refine OpsL.q (by first | exact omv | exact oasg | exact olen) ?_) | (refine Trip.seq ?_) | (refine Trip.ops ?_) | (refine OpsL.nil ?_; (change Trip _ _ _ _ _)))
  refine OpsL.new (by subst_vars; decide) (aop_makeSlice (by (first | (simp only [ASt.ev, tmPut, ↓reduceIte, Nat.reduceEqDiff, *]; done))) (by (first | (simp only [ASt.ev, tmPut, ↓reduceIte, Nat.reduceEqDiff, *]; done))) (aMakeSlice_one (m := places.length) (bytes := 8) (z := .int .i64 0) (by exact rfl) (by exact rfl) (by exact rfl) (by exact rfl) (by omega) (by omega))) ?_
  repeat (first | (refine OpsL.q (by first | exact omv | exact oasg | exact olen) ?_) | (refine Trip.seq ?_) | (refine Trip.ops ?_) | (refine Trip.block ?_) | (refine OpsL.nil ?_; (change Trip _ _ _ _ _)))
  refine Trip.inv (fun (i : Nat) s => ∃ (tm : Nat → Value) (F : Heap), s = ⟨tm, n, F, nx + 1⟩ ∧ Ext nx H (nx + 1) F ∧ F nx = some (.cells ((pickL l (places.take i) ++ List.replicate (places.length - i) 0).map (.int .i64 ·)) 1 none false (some 3)) ∧ tm 0 = .slice la l.length lc ∧ tm 5 = .slice (some ⟨nx, 0, none⟩) places.length places.length ∧ tm 11 = .slice pa places.length pc ∧ tm 12 = .int .i64 places.length ∧ tm 13 = .int .i64 i ∧ i ≤ places.length) (fun i => places.length - i) 0 ?_ ?_
  · refine ⟨_, _, rfl, Ext.newPut, ?_, by simp [tmPut, *], by simp [tmPut, *], by simp [tmPut, *], by simp [tmPut, *], by simp [tmPut, *], by omega⟩
    rw [Heap.put_eq]
    simp [pickL]
  clear e0 e1
  rintro i s ⟨tm, F, rfl, hx, hF, e0, e5, e11, e12, e13, hi⟩
  repeat (first | (refine OpsL.q (by first | exact omv | exact olss) ?_) | (refine Trip.seq ?_) | (refine Trip.ops ?_) | (refine Trip.block ?_) | (refine Trip.itA (fun _ => ?_) (fun _ => ?_)) | (refine Trip.skip ?_; (change Trip _ _ _ _ _)) | (refine OpsL.nil ?_; (change Trip _ _ _ _ _)))
  · have hlt : i < places.length := by omega
    obtain ⟨q, rfl, hc⟩ := IntsAt.atI (hp.ext hx hok) (show (0 : Int) ≤ i by omega) (show (i : Int) < places.length by omega)
    rw [Int.toNat_natCast] at hc
    obtain ⟨h0, h1⟩ := hin i hlt
    have hpk : pickL l (places.take (i + 1)) = pickL l (places.take i) ++ [l.getD (places.getD i 0).toNat 0] := by
      unfold pickL
      rw [List.take_succ_eq_append_getElem hlt, List.map_append, List.getD_eq_getElem?_getD (l := places), List.getElem?_eq_getElem hlt]
      rfl
    have hpll : (pickL l (places.take i)).length = i := by rw [pickL_len, List.length_take]; omega
    obtain ⟨a, ha⟩ : ∃ a, places.getD i 0 = a := ⟨_, rfl⟩
    rw [ha] at hc h0 h1 hpk
    obtain ⟨q1, rfl, hc1⟩ := IntsAt.atI (hl.ext hx hok) h0 h1
    repeat (first | (refine OpsL.q (by first | exact omv | exact oasg | exact oixa | exact old) ?_) | (refine Trip.ops ?_) | (refine OpsL.nil ?_; (change Trip _ _ _ _ _)))
    refine OpsL.storeAt (a := ⟨nx, 0 + (i : Int).toNat * 1, none⟩) (v := .int .i64 (l.getD a.toNat 0)) (cs' := (pickL l (places.take (i + 1)) ++ List.replicate (places.length - (i + 1)) 0).map (.int .i64 ·)) i (by (first | (simp only [ASt.ev, tmPut, ↓reduceIte, Nat.reduceEqDiff, *]; rfl))) (by (first | (simp only [ASt.ev, tmPut, ↓reduceIte, Nat.reduceEqDiff, *]; done))) (by exact rfl) rfl rfl hF (by simp) (by simp [hpll]; omega) (by rw [set_ints, rep_snoc hpll hlt, hpk]) ?_
    repeat (first | (refine OpsL.q (by first | exact omv | exact oadd) ?_) | (refine Trip.ops ?_) | (refine OpsL.nil ?_; ((repeat (refine blockExit_normal ?_)); first | (change Trip _ _ _ _ _) | (dsimp only))))
    exact ⟨i + 1, ⟨_, _, rfl, ⟨by omega, fun j hj => by rw [Heap.put_ne (by show j ≠ nx; omega), hx.2 j hj]⟩, Heap.put_eq, by simp [tmPut, *], by simp [tmPut, *], by simp [tmPut, *], by simp [tmPut, *], by simp [tmPut, *], by omega⟩, by omega⟩
  · repeat (first | (refine OpsL.q (by first | exact omv | exact oasg) ?_) | (refine Trip.seq ?_) | (refine Trip.ops ?_) | (refine Trip.exit ?_; ((repeat (refine blockExit_eq ?_)); change Trip _ _ _ _ _)) | (refine Trip.ret ?_; (dsimp only)) | (refine OpsL.nil ?_; (change Trip _ _ _ _ _)))
    have hi2 : i = places.length := by omega
    subst hi2
    rw [List.take_length, Nat.sub_self, List.replicate_zero, List.append_nil] at hF
    exact ⟨.inr rfl, _, res_tmp, ⟨nx, Nat.le_refl _, Nat.lt_succ_self _, by simp [tmPut, pickL_len], hF⟩, hx⟩
theorem entersRanks : Am.Enters Try.prog 24 := ⟨Try.f24, Try.func24, by kernel_rfl, by kernel_rfl⟩
set_option maxRecDepth 20000 in
set_option maxHeartbeats 16000000 in
theorem ranksC (W0 : World) {nx : Nat} {H : Heap} {bv : Value} {l : List Bool} (hl : BoolsAt H bv l) (hll : l.length ≤ 100000) :
    ACalls Try.prog W0 24 [bv] nx H fun v nx' H' => NewP 3 nx nx' H' v ((rankL l).map (.int .i64 ·)) ∧ Ext nx H nx' H' := by
  refine ACalls.by_trip (fn := Try.f24) (c := _) Try.func24 rfl (fun tm n hn0 htm => ?_)
  have e0 : tm 0 = bv := htm 0
  clear htm
  replace hn0 : n = 29 := hn0
  refine Trip.ok fun hok => ?_
  replace hok : ∀ id o, H id = some o → id < nx := hok
  obtain ⟨la, lc, rfl⟩ := hl.slice
  repeat (first | (refine OpsL.q (by first | exact omv | exact oasg | exact olen) ?_) | (refine Trip.seq ?_) | (refine Trip.ops ?_) | (refine OpsL.nil ?_; (change Trip _ _ _ _ _)))
  refine OpsL.new (by subst_vars; decide) (aop_makeSlice (by (first | (simp only [ASt.ev, tmPut, ↓reduceIte, Nat.reduceEqDiff, *]; done))) (by (first | (simp only [ASt.ev, tmPut, ↓reduceIte, Nat.reduceEqDiff, *]; done))) (aMakeSlice_one (m := l.length) (bytes := 8) (z := .int .i64 0) (by exact rfl) (by exact rfl) (by exact rfl) (by exact rfl) (by omega) (by omega))) ?_
  repeat (first | (refine OpsL.q (by first | exact omv | exact oasg | exact olen) ?_) | (refine Trip.seq ?_) | (refine Trip.ops ?_) | (refine Trip.block ?_) | (refine OpsL.nil ?_; (change Trip _ _ _ _ _)))
  refine Trip.inv (fun (i : Nat) s => ∃ (tm : Nat → Value) (F : Heap), s = ⟨tm, n, F, nx + 1⟩ ∧ Ext nx H (nx + 1) F ∧ F nx = some (.cells ((((List.range i).map fun i => if l.getD i false then (rankN l i : Int) else -1) ++ List.replicate (l.length - i) 0).map (.int .i64 ·)) 1 none false (some 3)) ∧ tm 3 = .slice (some ⟨nx, 0, none⟩) l.length l.length ∧ tm 4 = .int .i64 (rankN l i) ∧ tm 10 = .slice la l.length lc ∧ tm 11 = .int .i64 l.length ∧ tm 12 = .int .i64 i ∧ i ≤ l.length) (fun i => l.length - i) 0 ?_ ?_
  · refine ⟨_, _, rfl, Ext.newPut, ?_, by simp [tmPut, *], by simp [tmPut, rankN], by simp [tmPut, *], by simp [tmPut, *], by simp [tmPut, *], by omega⟩
    rw [Heap.put_eq]
    simp
  clear e0
  rintro i s ⟨tm, F, rfl, hx, hF, e3, e4, e10, e11, e12, hi⟩
  repeat (first | (refine OpsL.q (by first | exact omv | exact olss) ?_) | (refine Trip.seq ?_) | (refine Trip.ops ?_) | (refine Trip.block ?_) | (refine Trip.itA (fun _ => ?_) (fun _ => ?_)) | (refine Trip.skip ?_; (change Trip _ _ _ _ _)) | (refine OpsL.nil ?_; (change Trip _ _ _ _ _)))
  · have hlt : i < l.length := by omega
    obtain ⟨q, rfl, hc⟩ := BoolsAt.atI (hl.ext hx hok) (show (0 : Int) ≤ i by omega) (show (i : Int) < l.length by omega)
    rw [Int.toNat_natCast] at hc
    have hr := rankN_succ hlt
    have hrl := rankN_le l i
    have hml : ((List.range i).map fun i => if l.getD i false then (rankN l i : Int) else -1).length = i := by simp
    have hms : ((List.range (i + 1)).map fun i => if l.getD i false then (rankN l i : Int) else -1) = ((List.range i).map fun i => if l.getD i false then (rankN l i : Int) else -1) ++ [if l.getD i false then (rankN l i : Int) else -1] := by rw [List.range_succ, List.map_append]; rfl
    generalize ((List.range i).map fun i => if l.getD i false then (rankN l i : Int) else -1) = M at *
    obtain ⟨b, hb⟩ : ∃ b, l.getD i false = b := ⟨_, rfl⟩
    rw [hb] at hc hr hms
    repeat (first | (refine OpsL.q (by first | exact omv | exact oasg | exact oixa | exact old) ?_) | (refine Trip.seq ?_) | (refine Trip.ops ?_) | (refine OpsL.nil ?_; (change Trip _ _ _ _ _)))
    refine OpsL.storeAt (a := ⟨nx, 0 + (i : Int).toNat * 1, none⟩) (v := .int .i64 (-1)) (cs' := ((M ++ [(-1 : Int)]) ++ List.replicate (l.length - (i + 1)) 0).map (.int .i64 ·)) i (by (first | (simp only [ASt.ev, tmPut, ↓reduceIte, Nat.reduceEqDiff, *]; rfl))) (by rfl) (by exact rfl) rfl rfl hF (by simp) (by simp [hml]; omega) (by rw [set_ints, rep_snoc hml hlt]) ?_
    refine OpsL.nil ?_
    (change Trip _ _ _ _ _)
    have hx1 : Ext nx H (nx + 1) (F.put nx (.cells (((M ++ [(-1 : Int)]) ++ List.replicate (l.length - (i + 1)) 0).map (.int .i64 ·)) 1 none false (some 3))) := ⟨by omega, fun j hj => by rw [Heap.put_ne (by show j ≠ nx; omega), hx.2 j hj]⟩
    have hF1 : (F.put nx (.cells (((M ++ [(-1 : Int)]) ++ List.replicate (l.length - (i + 1)) 0).map (.int .i64 ·)) 1 none false (some 3))) nx = some (.cells (((M ++ [(-1 : Int)]) ++ List.replicate (l.length - (i + 1)) 0).map (.int .i64 ·)) 1 none false (some 3)) := Heap.put_eq
    generalize hG : (F.put nx (.cells (((M ++ [(-1 : Int)]) ++ List.replicate (l.length - (i + 1)) 0).map (.int .i64 ·)) 1 none false (some 3))) = G at *
    clear hG hF
    cases b
    · repeat (first | (refine OpsL.q (by exact omv) ?_) | (refine Trip.seq ?_) | (refine Trip.ops ?_) | (refine OpsL.nil ?_; (change Trip _ _ _ _ _)))
      refine Trip.ifF ?_
      repeat (first | (refine OpsL.q (by first | exact omv | exact oadd) ?_) | (refine Trip.ops ?_) | (refine Trip.skip ?_; ((repeat (refine blockExit_normal ?_)); change Trip _ _ _ _ _)) | (refine OpsL.nil ?_; (dsimp only)))
      exact ⟨i + 1, ⟨_, _, rfl, hx1, by rw [hms]; exact hF1, by simp [tmPut, *], by simp [tmPut, hr, *], by simp [tmPut, *], by simp [tmPut, *], by simp [tmPut, *], by omega⟩, by omega⟩
    · repeat (first | (refine OpsL.q (by exact omv) ?_) | (refine Trip.seq ?_) | (refine Trip.ops ?_) | (refine OpsL.nil ?_; (change Trip _ _ _ _ _)))
      refine Trip.ifT ?_
      repeat (first | (refine OpsL.q (by first | exact omv | exact oixa) ?_) | (refine Trip.seq ?_) | (refine Trip.ops ?_))
      refine OpsL.storeAt (a := ⟨nx, 0 + (i : Int).toNat * 1, none⟩) (v := .int .i64 (rankN l i)) (cs' := ((M ++ [(rankN l i : Int)]) ++ List.replicate (l.length - (i + 1)) 0).map (.int .i64 ·)) i (by (first | (simp only [ASt.ev, tmPut, ↓reduceIte, Nat.reduceEqDiff, *]; rfl))) (by (first | (simp only [ASt.ev, tmPut, ↓reduceIte, Nat.reduceEqDiff, *]; done))) (by exact rfl) rfl rfl hF1 (by simp) (by rw [List.length_map, List.length_append, List.length_append, hml]; simp only [List.length_singleton]; omega) (by rw [set_ints, List.append_assoc, List.set_append_right _ _ (by omega), hml, Nat.sub_self, List.append_assoc]; try rfl) ?_
      repeat (first | (refine OpsL.q (by first | exact omv | exact oasg | exact oadd) ?_) | (refine Trip.ops ?_) | (refine OpsL.nil ?_; ((repeat (refine blockExit_normal ?_)); first | (change Trip _ _ _ _ _) | (dsimp only))))
      exact ⟨i + 1, ⟨_, _, rfl, ⟨by omega, fun j hj => by rw [Heap.put_ne (by show j ≠ nx; omega), hx1.2 j hj]⟩, by rw [hms]; exact Heap.put_eq, by simp [tmPut, *], by simp [tmPut, hr, *], by simp [tmPut, *], by simp [tmPut, *], by simp [tmPut, *], by omega⟩, by omega⟩
  · repeat (first | (refine OpsL.q (by first | exact omv | exact oasg) ?_) | (refine Trip.seq ?_) | (refine Trip.ops ?_) | (refine Trip.exit ?_; ((repeat (refine blockExit_eq ?_)); change Trip _ _ _ _ _)) | (refine Trip.ret ?_; (dsimp only)) | (refine OpsL.nil ?_; (change Trip _ _ _ _ _)))
    have hi2 : i = l.length := by omega
    subst hi2
    rw [Nat.sub_self, List.replicate_zero, List.append_nil] at hF
    exact ⟨.inr rfl, _, res_tmp, ⟨nx, Nat.le_refl _, Nat.lt_succ_self _, by simp [tmPut, rankL, *], hF⟩, hx⟩
theorem entersLeasts : Am.Enters Try.prog 38 := ⟨Try.f38, Try.func38, by kernel_rfl, by kernel_rfl⟩
set_option maxRecDepth 20000 in
set_option maxHeartbeats 16000000 in
theorem leastsC (W0 : World) {nx : Nat} {H : Heap} {cv : Value} {l : List Int} (hl : IntsAt H cv l) (hll : l.length ≤ 100000) :
    ACalls Try.prog W0 38 [cv] nx H fun v nx' H' => ∃ ob, OwnInts H' ob 3 v (leastL l l.length) ∧ (∀ b t, ob = some (b, t) → nx ≤ b ∧ b < nx') ∧ Ext nx H nx' H' := by
  refine ACalls.by_trip (fn := Try.f38) (c := _) Try.func38 rfl (fun tm n hn0 htm => ?_)
  have e0 : tm 0 = cv := htm 0
  clear htm
  replace hn0 : n = 23 := hn0
  refine Trip.ok fun hok => ?_
  replace hok : ∀ id o, H id = some o → id < nx := hok
  obtain ⟨la, lc, rfl⟩ := hl.slice
  repeat (first | (refine OpsL.q (by first | exact omv | exact oasg | exact olen) ?_) | (refine Trip.seq ?_) | (refine Trip.ops ?_) | (refine Trip.block ?_) | (refine OpsL.nil ?_; (change Trip _ _ _ _ _)))
  refine Trip.inv (fun (i : Nat) s => ∃ (tm : Nat → Value) (nx' : Nat) (F : Heap) (ob : Option (Nat × Nat)) (v : Value), s = ⟨tm, n, F, nx'⟩ ∧ Ext nx H nx' F ∧ OwnInts F ob 3 v (leastL l i) ∧ (∀ b t, ob = some (b, t) → nx ≤ b ∧ b < nx') ∧ tm 3 = v ∧ tm 6 = .slice la l.length lc ∧ tm 7 = .int .i64 l.length ∧ tm 8 = .int .i64 i ∧ i ≤ l.length) (fun i => l.length - i) 0 ?_ ?_
  · exact ⟨_, _, _, none, _, rfl, Ext.refl, ⟨rfl, rfl, rfl⟩, fun _ _ h => (by cases h), by simp [tmPut, *], by simp [tmPut, *], by simp [tmPut, *], by simp [tmPut, *], by omega⟩
  clear e0
  rintro i s ⟨tm, nx', F, ob, v, rfl, hx, hown, hob, e3, e6, e7, e8, hi⟩
  obtain ⟨va, vc, hv⟩ := (OwnInts.at hown).slice
  have hll2 := leastL_len l i
  repeat (first | (refine OpsL.q (by first | exact omv | exact olss) ?_) | (refine Trip.seq ?_) | (refine Trip.ops ?_) | (refine Trip.block ?_) | (refine Trip.itA (fun _ => ?_) (fun _ => ?_)) | (refine Trip.skip ?_; (change Trip _ _ _ _ _)) | (refine OpsL.nil ?_; (change Trip _ _ _ _ _)))
  · have hlt : i < l.length := by omega
    obtain ⟨q, rfl, hc⟩ := IntsAt.atI (hl.ext hx hok) (show (0 : Int) ≤ i by omega) (show (i : Int) < l.length by omega)
    rw [Int.toNat_natCast] at hc
    rw [hv] at e3
    repeat (first | (refine OpsL.q (by first | exact omv | exact oasg | exact oixa | exact old | exact olen) ?_) | (refine Trip.seq ?_) | (refine Trip.ops ?_) | (refine OpsL.nil ?_; (change Trip _ _ _ _ _)))
    by_cases h : l.getD i 0 = ((leastL l i).length : Int)
    · refine OpsL.eqlT ?_ (c := h)
      have hs : leastL l (i + 1) = leastL l i ++ [(i : Int)] := by
        show (if l.getD i 0 = (leastL l i).length then leastL l i ++ [(i : Int)] else leastL l i) = _
        rw [if_pos h]
      clear h
      repeat (first | (refine OpsL.nil ?_; (change Trip _ _ _ _ _)))
      refine Trip.ifT ?_
      repeat (first | (refine OpsL.q (by exact omv) ?_) | (refine Trip.ops ?_))
      rw [hv] at hown
      refine OpsL.appendI (by subst_vars; decide) (by subst_vars; decide) (by (first | (simp only [ASt.ev, tmPut, ↓reduceIte, Nat.reduceEqDiff, *]; rfl))) (by decide) (by (simp only [tmPut, ↓reduceIte, reduceIte, Option.some.injEq, Nat.reduceEqDiff, *])) hown (fun b t hb => (hob b t hb).2) (by exact rfl) (by exact rfl) (by exact rfl) (by exact rfl) (by omega) ?_
      rintro v' ob' H'' hown' ⟨b, rfl, hb⟩ hsame
      repeat (first | (refine OpsL.q (by exact oasg) ?_) | (refine Trip.ops ?_) | (refine OpsL.nil ?_; ((repeat (refine blockExit_normal ?_)); change Trip _ _ _ _ _)))
      repeat (first | (refine OpsL.q (by first | exact omv | exact oadd) ?_) | (refine OpsL.nil ?_; (dsimp only)))
      refine ⟨i + 1, ⟨_, _, _, some (b, nx' + 1), v', rfl, ?_, by rw [hs]; exact hown', fun b' t' e => ?_, by simp [tmPut, *], by simp [tmPut, *], by simp [tmPut, *], by simp [tmPut, *], by omega⟩, by omega⟩
      · exact ⟨by have := hx.1; omega, fun k hk => by rw [hsame k (by have := hx.1; omega) (fun b t hb => by have := (hob b t hb).1; omega), hx.2 k hk]⟩
      · cases e
        have := hx.1
        rcases hb with rfl | ⟨t, hb⟩
        · omega
        · have := hob _ _ hb; omega
    · refine OpsL.eqlF ?_ (c := h)
      have hs : leastL l (i + 1) = leastL l i := by
        show (if l.getD i 0 = (leastL l i).length then leastL l i ++ [(i : Int)] else leastL l i) = _
        rw [if_neg h]
      clear h
      repeat (first | (refine OpsL.nil ?_; (change Trip _ _ _ _ _)))
      refine Trip.ifF ?_
      repeat (first | (refine OpsL.q (by first | exact omv | exact oadd) ?_) | (refine Trip.ops ?_) | (refine Trip.skip ?_; ((repeat (refine blockExit_normal ?_)); change Trip _ _ _ _ _)) | (refine OpsL.nil ?_; (dsimp only)))
      exact ⟨i + 1, ⟨_, _, _, ob, v, rfl, hx, by rw [hs]; exact hown, hob, by simp [tmPut, *], by simp [tmPut, *], by simp [tmPut, *], by simp [tmPut, *], by omega⟩, by omega⟩
  · repeat (first | (refine OpsL.q (by first | exact omv | exact oasg) ?_) | (refine Trip.seq ?_) | (refine Trip.ops ?_) | (refine Trip.exit ?_; ((repeat (refine blockExit_eq ?_)); change Trip _ _ _ _ _)) | (refine Trip.ret ?_; (dsimp only)) | (refine OpsL.nil ?_; (change Trip _ _ _ _ _)))
    have hi2 : i = l.length := by omega
    subst hi2
    exact ⟨.inr rfl, _, res_tmp, ob, by rw [hv] at hown; simpa [tmPut, e3, hv] using hown, hob, hx⟩
end Go.Proofs.Ytjgbcpagfghfnaa
namespace Go.Am
open Go.RowKit
def colL (l : List (List Int)) (q : Nat) : List Int := l.map fun row => row.getD q 0
theorem colL_len (l : List (List Int)) (q : Nat) : (colL l q).length = l.length := by simp [colL]
theorem colL_snoc {l : List (List Int)} {q i : Nat} (h : i < l.length) : colL (l.take (i + 1)) q = colL (l.take i) q ++ [(l.getD i []).getD q 0] := by
  unfold colL
  rw [List.take_succ_eq_append_getElem h, List.map_append, List.getD_eq_getElem?_getD (l := l), List.getElem?_eq_getElem h]
  rfl
end Go.Am
namespace Go.Proofs.Ytjgbcpagfghfnaa
open Go.Am Go.RowKit
attribute [local irreducible] aop OpsL Trip blockExit OpsD OpsK OpsR OpsQ
theorem entersReturns : Am.Enters Try.prog 40 := ⟨Try.f40, Try.func40, by kernel_rfl, by kernel_rfl⟩
set_option maxRecDepth 20000 in
set_option maxHeartbeats 16000000 in
theorem returnsC (W0 : World) {nx : Nat} {H : Heap} {m : Mo} {V : MoV} (hm : MoIn H m V) (hn : MoLen m) {p q : Nat} (hp : p < m.ret.length) (hq : ∀ j, j < (m.ret.getD p []).length → q < ((m.ret.getD p []).getD j []).length) :
    ACalls Try.prog W0 40 [.agg (moV m V).toArray, .int .i64 p, .int .i64 q] nx H fun v nx' H' => ∃ ob, OwnInts H' ob 3 v (colL (m.ret.getD p []) q) ∧ (∀ b t, ob = some (b, t) → nx ≤ b ∧ b < nx') ∧ Ext nx H nx' H' := by
  refine ACalls.by_trip (fn := Try.f40) (c := _) Try.func40 rfl (fun tm n hn0 htm => ?_)
  have e0 : tm 0 = .agg (moV m V).toArray := htm 0
  have e1 : tm 1 = .int .i64 p := htm 1
  have e2 : tm 2 = .int .i64 q := htm 2
  clear htm
  replace hn0 : n = 29 := hn0
  refine Trip.ok fun hok => ?_
  replace hok : ∀ id o, H id = some o → id < nx := hok
  refine Trip.seq ?_
  refine Trip.ops ?_
  refine OpsL.boxM hm hok ?_ (by (first | (simp only [ASt.ev, tmPut, ↓reduceIte, Nat.reduceEqDiff, *]; done))) (by subst_vars; decide)
  intro G x0 okG hb hG
  clear e0
  obtain ⟨ra, rc, rv⟩ := hG.ret.slice
  have rh := hG.ret
  have g7 := hb.c7
  rw [rv] at rh g7
  obtain ⟨q1, rb, rk, rfl, hc1, hrow⟩ := L3At.atI rh (show (0 : Int) ≤ p by omega) (show (p : Int) < m.ret.length by omega)
  simp only [Int.toNat_natCast] at hc1 hrow
  have hl := hn.ret1 p
  clear rh rv
  generalize m.ret.getD p [] = L at *
  repeat (first | (refine OpsL.q (by first | exact omv | exact oasg | exact ofa | exact old | exact oixa | exact olen) ?_) | (refine Trip.seq ?_) | (refine Trip.ops ?_) | (refine Trip.block ?_) | (refine OpsL.nil ?_; (change Trip _ _ _ _ _)))
  refine Trip.inv (fun (i : Nat) s => ∃ (tm : Nat → Value) (nx' : Nat) (F : Heap) (ob : Option (Nat × Nat)) (v : Value), s = ⟨tm, n, F, nx'⟩ ∧ Ext (nx + 1) G nx' F ∧ OwnInts F ob 3 v (colL (L.take i) q) ∧ (∀ b t, ob = some (b, t) → nx + 1 ≤ b ∧ b < nx') ∧ tm 2 = .int .i64 q ∧ tm 7 = v ∧ tm 14 = .slice rb L.length rk ∧ tm 15 = .int .i64 L.length ∧ tm 16 = .int .i64 i ∧ i ≤ L.length) (fun i => L.length - i) 0 ?_ ?_
  · exact ⟨_, _, _, none, _, rfl, Ext.refl, ⟨rfl, rfl, by simp [colL]⟩, fun _ _ h => (by cases h), by simp [tmPut, *], by simp [tmPut, *], by simp [tmPut, *], by simp [tmPut, *], by simp [tmPut, *], by omega⟩
  clear e1 e2
  rintro i s ⟨tm, nx', F, ob, v, rfl, hx, hown, hob, e2, e7, e14, e15, e16, hi⟩
  obtain ⟨va, vc, hv⟩ := (OwnInts.at hown).slice
  have hll2 : (colL (L.take i) q).length = i := by rw [colL_len, List.length_take]; omega
  repeat (first | (refine OpsL.q (by exact olss) ?_) | (refine Trip.seq ?_) | (refine Trip.ops ?_) | (refine Trip.block ?_) | (refine Trip.itA (fun _ => ?_) (fun _ => ?_)) | (refine Trip.skip ?_; (change Trip _ _ _ _ _)) | (refine OpsL.nil ?_; (change Trip _ _ _ _ _)))
  · have hlt : i < L.length := by omega
    obtain ⟨q2, sb, sk, rfl, hc2, hrow2⟩ := L2At.atI (hrow.ext hx okG) (show (0 : Int) ≤ i by omega) (show (i : Int) < L.length by omega)
    simp only [Int.toNat_natCast] at hc2 hrow2
    have hqi := hq i hlt
    have hs := colL_snoc (q := q) hlt
    obtain ⟨R, hR⟩ : ∃ R, L.getD i [] = R := ⟨_, rfl⟩
    rw [hR] at hc2 hrow2 hqi hs
    obtain ⟨q3, rfl, hc3⟩ := IntsAt.atI hrow2 (show (0 : Int) ≤ q by omega) (show (q : Int) < R.length by omega)
    simp only [Int.toNat_natCast] at hc3
    obtain ⟨x, hxx⟩ : ∃ x, R.getD q 0 = x := ⟨_, rfl⟩
    rw [hxx] at hc3 hs
    rw [hv] at e7 hown
    repeat (first | (refine OpsL.q (by first | exact omv | exact oasg | exact oixa | exact old) ?_) | (refine Trip.ops ?_) | (refine OpsL.nil ?_; (change Trip _ _ _ _ _)))
    refine OpsL.appendI (by subst_vars; decide) (by subst_vars; decide) (by (first | (simp only [ASt.ev, tmPut, ↓reduceIte, Nat.reduceEqDiff, *]; rfl))) (by decide) (by (simp only [tmPut, ↓reduceIte, reduceIte, Option.some.injEq, Nat.reduceEqDiff, *])) hown (fun b t hb => (hob b t hb).2) (by exact rfl) (by exact rfl) (by exact rfl) (by exact rfl) (by omega) ?_
    rintro v' ob' H'' hown' ⟨b, rfl, hb⟩ hsame
    repeat (first | (refine OpsL.q (by exact oasg) ?_) | (refine Trip.ops ?_) | (refine OpsL.nil ?_; ((repeat (refine blockExit_normal ?_)); change Trip _ _ _ _ _)))
    repeat (first | (refine OpsL.q (by first | exact omv | exact oadd) ?_) | (refine OpsL.nil ?_; (dsimp only)))
    refine ⟨i + 1, ⟨_, _, _, some (b, nx' + 1), v', rfl, ?_, by rw [hs]; exact hown', fun b' t' e => ?_, by simp [tmPut, *], by simp [tmPut, *], by simp [tmPut, *], by simp [tmPut, *], by simp [tmPut, *], by omega⟩, by omega⟩
    · exact ⟨by have := hx.1; omega, fun k hk => by rw [hsame k (by have := hx.1; omega) (fun b t hb => by have := (hob b t hb).1; omega), hx.2 k hk]⟩
    · cases e
      have := hx.1
      rcases hb with rfl | ⟨t, hb⟩
      · omega
      · have := hob _ _ hb; omega
  · repeat (first | (refine OpsL.q (by first | exact omv | exact oasg) ?_) | (refine Trip.seq ?_) | (refine Trip.ops ?_) | (refine Trip.exit ?_; ((repeat (refine blockExit_eq ?_)); change Trip _ _ _ _ _)) | (refine Trip.ret ?_; (dsimp only)) | (refine OpsL.nil ?_; (change Trip _ _ _ _ _)))
    have hi2 : i = L.length := by omega
    subst hi2
    rw [List.take_length] at hown
    exact ⟨.inr rfl, _, res_tmp, ob, by rw [hv, colL_len] at hown; simpa [tmPut, e7, hv, colL_len] using hown, fun b t h => by have := hob b t h; omega, x0.trans hx⟩
end Go.Proofs.Ytjgbcpagfghfnaa
