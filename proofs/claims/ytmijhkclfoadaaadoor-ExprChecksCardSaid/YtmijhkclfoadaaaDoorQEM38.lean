import Derived.Test.YtmijhkclfoadaaaDoorQEM23
import Derived.Test.YtmijhkclfoadaaaDoorQEM21
namespace Go.Proofs.YtmijhkclfoadaaaDoor
set_option linter.unusedSimpArgs false
set_option linter.unusedVariables false
open Go.Am Go.RowKit
attribute [local irreducible] aop OpsL Trip blockExit OpsD OpsK OpsR
theorem mkK_0 {ss : List (ByteArray × Int)} {ns : List Int} {rec : Bool → Nat → Ex × Nat} {k : Int} {nest : Bool} {a : Nat} (h : k = 0) : mkK ss ns rec k nest a = (.node 2 0 0 [], a) := by unfold mkK; rw [if_pos h]
theorem mkK_s {ss : List (ByteArray × Int)} {ns : List Int} {rec : Bool → Nat → Ex × Nat} {k : Int} {nest : Bool} {a : Nat} (h : 1 ≤ k ∧ k ≤ 3) {r : Int × Nat} (hr : (bif nest then pickX ss ns 3 (nxtX ns a ss.length).2 else nxtX ns a ss.length) = r) : mkK ss ns rec k nest a = if 0 ≤ r.1 then (.node 3 r.1 0 [], r.2) else (.node 1 0 0 [], r.2) := by unfold mkK; rw [if_neg (by omega), if_pos (by omega), hr]
theorem mkK_4 {ss : List (ByteArray × Int)} {ns : List Int} {rec : Bool → Nat → Ex × Nat} {k : Int} {nest : Bool} {a : Nat} (h : k = 4) : mkK ss ns rec k nest a = (.node 1 0 0 [], a) := by unfold mkK; rw [if_neg (by omega), if_neg (by omega), if_pos h]
theorem mkK_n {ss : List (ByteArray × Int)} {ns : List Int} {rec : Bool → Nat → Ex × Nat} {k : Int} {nest : Bool} {a : Nat} (h : 5 ≤ k ∧ k ≤ 7) : mkK ss ns rec k nest a = if 0 ≤ (pickX ss ns 1 a).1 ∧ 0 ≤ (pickX ss ns 2 (pickX ss ns 1 a).2).1 then (.node 4 (pickX ss ns 1 a).1 (pickX ss ns 2 (pickX ss ns 1 a).2).1 [(rec true (pickX ss ns 2 (pickX ss ns 1 a).2).2).1], (rec true (pickX ss ns 2 (pickX ss ns 1 a).2).2).2) else (.node 1 0 0 [], (pickX ss ns 2 (pickX ss ns 1 a).2).2) := by unfold mkK; rw [if_neg (by omega), if_neg (by omega), if_neg (by omega), if_pos (by omega)]
theorem mkK_c {ss : List (ByteArray × Int)} {ns : List Int} {rec : Bool → Nat → Ex × Nat} {k : Int} {nest : Bool} {a : Nat} (h : 8 ≤ k ∧ k ≤ 11) : mkK ss ns rec k nest a = if (nxtX ns (rec nest (rec nest a).2).2 3).1 = 0 then (.node (5 + k % 2) 0 0 [(rec nest a).1, (rec nest (rec nest a).2).1, (rec nest (nxtX ns (rec nest (rec nest a).2).2 3).2).1], (rec nest (nxtX ns (rec nest (rec nest a).2).2 3).2).2) else (.node (5 + k % 2) 0 0 [(rec nest a).1, (rec nest (rec nest a).2).1], (nxtX ns (rec nest (rec nest a).2).2 3).2) := by unfold mkK; rw [if_neg (by omega), if_neg (by omega), if_neg (by omega), if_neg (by omega), if_pos (by omega)]
theorem mkK_t {ss : List (ByteArray × Int)} {ns : List Int} {rec : Bool → Nat → Ex × Nat} {k : Int} {nest : Bool} {a : Nat} (h : 12 ≤ k ∧ k ≤ 13) : mkK ss ns rec k nest a = (.node 7 0 0 [(rec nest a).1], (rec nest a).2) := by unfold mkK; rw [if_neg (by omega), if_neg (by omega), if_neg (by omega), if_neg (by omega), if_neg (by omega)]
theorem entersMakeX : Am.Enters Tryd.prog 40 := ⟨Tryd.f40, Tryd.func40, by kernel_rfl, by kernel_rfl⟩
theorem cntX_ge : ∀ d, d ≤ cntX d
  | 0 => by simp
  | d + 1 => by have := cntX_ge d; simp only [cntX]; omega
set_option maxRecDepth 20000 in
set_option maxHeartbeats 8000000 in
theorem makeXC (W0 : World) {ss : List (ByteArray × Int)} {ns : List Int} (hs0 : 0 < ss.length) (hss : ss.length ≤ 1000) : ∀ (d : Nat) (nest : Bool) {di : Int} (hdi : di = d) {nx : Nat} {H : Heap} {b at_ : Nat} {lv nv : Value} (hm : MkrAt H b lv nv at_) (hl : SymsAt H lv ss) (hn : IntsAt H nv ns) (hol : OffV b lv) (hof : ns ≠ [] → OffV b nv) (hat : at_ + (cntX d + 1) ≤ 1000000), ACalls Tryd.prog W0 40 [.pointer (some ⟨b, 0, none⟩), .int .i64 di, .bool nest] nx H fun v nx' H' => MadeX H nx b lv nv (mkX ss ns d nest at_) v nx' H' := by
  intro d
  induction d using Nat.strongRecOn with
  | _ d ih =>
  intro nest di hdi nx H b at_ lv nv hm hl hn hol hof hat
  refine ACalls.by_trip (fn := Tryd.f40) (c := _) Tryd.func40 rfl (fun tm n hn0 htm => ?_)
  have e0 : tm 0 = .pointer (some ⟨b, 0, none⟩) := htm 0
  have e1 : tm 1 = .int .i64 di := htm 1
  have e2 : tm 2 = .bool nest := htm 2
  clear htm
  replace hn0 : n = 105 := hn0
  refine Trip.ok fun hok => ?_
  replace hok : ∀ id o, H id = some o → id < nx := hok
  have hbn : b < nx := hok _ _ hm
  have hdc := cntX_ge d
  refine Trip.seq ?_
  refine Trip.ops ?_
  refine OpsL.new (by subst_vars; decide) (aop_alloc (l := [.int .i64 0, .int .i64 0, .int .i64 0, .slice none 0 0]) (by exact rfl)) ?_
  obtain ⟨G, hGe⟩ : ∃ G, G = H.put nx (.cells [.int .i64 0, .int .i64 0, .int .i64 0, .slice none 0 0] 0 none false (some 28)) := ⟨_, rfl⟩
  have hst0 : MkSt H nx b lv nv at_ (nx + 1) G := by
    refine ⟨?_, by rw [hGe]; exact Heap.put_eq, ExtB.of (by rw [hGe]; exact Ext.newPut), Nat.lt_succ_self _, hbn⟩
    unfold MkrAt
    rw [hGe, Heap.put_ne (by omega)]
    exact hm
  rw [← hGe]
  clear hGe
  refine OpsL.nil ?_
  (change Trip _ _ _ _ _)
  repeat (first | (refine OpsL.q (by exact omv) ?_) | (refine Trip.seq ?_) | (refine Trip.ops ?_))
  refine OpsL.c2 (hf := entersNextX) (hc := (nextXC W0 hst0.mkr (IntsAt.offB hn hof hst0.ext hok) hof (by omega) 14 (by decide) (by decide))) (h := ?_)
  rintro v1 _ G1 ⟨rfl, rfl, hm1, hs1⟩
  have st1 := hst0.same hm1 hs1
  rw [mkX_eq]
  have hk0 := nxtX_lt (ns := ns) (at_ := at_) (m := 14) (by decide)
  have ha1 := nxtX_at (ns := ns) (at_ := at_) (m := 14)
  generalize nxtX ns at_ 14 = r1 at *
  obtain ⟨k1, at1⟩ := r1
  simp only at hk0 ha1 hm1 st1 ⊢
  clear hst0 hm1 hs1
  have hkk := kOf_lt (d := d) hk0.1 hk0.2
  (first | (refine OpsL.q (by exact oasg) ?_))
  (first | (refine OpsL.nil ?_; (change Trip _ _ _ _ _)))
  refine Trip.seq ?_
  refine Trip.mono (Q := fun x st => x = .normal ∧ ∃ tm' : Nat → Value, st = ⟨tm', n, G1, nx + 1⟩ ∧ tm' 0 = .pointer (some ⟨b, 0, none⟩) ∧ tm' 1 = .int .i64 di ∧ tm' 2 = .bool nest ∧ tm' 6 = .pointer (some ⟨nx, 0, none⟩) ∧ tm' 7 = .int .i64 (kOf d k1)) ?_ ?_
  · repeat (first | (refine OpsL.q (by exact omv) ?_) | (refine Trip.seq ?_) | (refine Trip.ops ?_))
    by_cases hd : di ≤ 0
    · refine OpsL.leqT ?_ (c := hd)
      have hkd : kOf d k1 = k1 % 5 := by unfold kOf; rw [if_pos (by omega)]
      repeat (first | (refine OpsL.nil ?_; (change Trip _ _ _ _ _)))
      refine Trip.ifT ?_
      repeat (first | (refine OpsL.q (by exact omv) ?_) | (refine Trip.ops ?_))
      refine OpsL.p (by subst_vars; decide) (aop_remN (by (first | (simp only [ASt.ev, tmPut, ↓reduceIte, Nat.reduceEqDiff, *]; rfl))) (by (first | (simp only [ASt.ev, tmPut, ↓reduceIte, Nat.reduceEqDiff, *]; rfl))) (by omega) (by omega)) ?_
      repeat (first | (refine OpsL.q (by exact oasg) ?_) | (refine OpsL.nil ?_; (skip)))
      exact ⟨rfl, _, rfl, by simp [tmPut, *], by simp [tmPut, *], by simp [tmPut, *], by simp [tmPut, *], by simp [tmPut, *]⟩
    · refine OpsL.leqF ?_ (c := hd)
      have hkd : kOf d k1 = k1 := by unfold kOf; rw [if_neg (by omega)]
      repeat (first | (refine OpsL.nil ?_; (change Trip _ _ _ _ _)))
      refine Trip.ifF ?_
      repeat (first | (refine Trip.skip ?_; (skip)))
      exact ⟨rfl, _, rfl, by simp [tmPut, *], by simp [tmPut, *], by simp [tmPut, *], by simp [tmPut, *], by simp [tmPut, *]⟩
  clear e0 e1 e2
  rintro x st ⟨rfl, tm, rfl, e0, e1, e2, e6, e7⟩
  (change Trip _ _ _ _ _)
  clear hk0
  generalize kOf d k1 = k at *
  refine Trip.seq ?_
  refine Trip.mono (Q := fun x st => (x = .ret ∧ ∃ (tm' : Nat → Value) (n2 : Nat) (G2 : Heap) (cs : List Value), st = ⟨tm', n, G2, n2⟩ ∧ tm' 6 = .pointer (some ⟨nx, 0, none⟩) ∧ G2 nx = some (.cells cs 0 none false (some 28)) ∧ cs.length = 4 ∧ MadeX H nx b lv nv (mkK ss ns (mkR ss ns d) k nest at1) (.agg cs.toArray) n2 G2) ∨ (x = .normal ∧ ∃ (tm' : Nat → Value) (n2 : Nat) (G2 : Heap) (at2 : Nat), st = ⟨tm', n, G2, n2⟩ ∧ tm' 6 = .pointer (some ⟨nx, 0, none⟩) ∧ MkSt H nx b lv nv at2 n2 G2 ∧ mkK ss ns (mkR ss ns d) k nest at1 = (.node 1 0 0 [], at2))) ?_ ?_
  rotate_left
  · clear e0 e1 e2 e6 e7
    rintro x st (⟨rfl, tm, n2, G2, cs, rfl, e6, hG2, hl4, hM⟩ | ⟨rfl, tm, n2, G2, at2, rfl, e6, st2, hmk⟩)
    · (dsimp only)
      exact ⟨.inr rfl, _, res_cell (by simp [tmPut, *]) (readX hG2 hl4), hM⟩
    · (change Trip _ _ _ _ _)
      rw [hmk]
      refine Trip.seq ?_
      refine Trip.ops ?_
      refine OpsL.p (by subst_vars; decide) (aop_build (l := [(0, .int .i64 1)]) (by simp [evParts, ASt.ev, tmPut, plainC, plain1, *]) (v := .agg #[.int .i64 1, .int .i64 0, .int .i64 0, .slice none 0 0]) (by exact rfl)) ?_
      refine OpsL.storeX ?_ (by (first | (simp only [ASt.ev, tmPut, ↓reduceIte, Nat.reduceEqDiff, *]; done))) (by (first | (simp only [ASt.ev, tmPut, ↓reduceIte, Nat.reduceEqDiff, *]; rfl))) st2.res rfl rfl rfl
      intro G9 hG9 hs9
      have hfin := st2.fin (x := .node 1 0 0 []) (.leaf 1 0 0 0) List.nodup_nil (fun y hy => by cases hy) hs9
      repeat (first | (refine Trip.ret ?_; (dsimp only)) | (refine OpsL.nil ?_; (change Trip _ _ _ _ _)))
      exact ⟨.inr rfl, _, res_cell (by simp [tmPut, *]) (readX hG9 rfl), hfin⟩
  refine Trip.seq ?_
  refine Trip.ops ?_
  (first | (refine OpsL.q (by exact omv) ?_))
  refine OpsL.nil ?_
  (change Trip _ _ _ _ _)
  obtain ⟨la, lc, rfl, _⟩ := id hl
  refine Trip.block ?_
  by_cases hk0 : k = 0
  · have hmk := mkK_0 (ss := ss) (ns := ns) (rec := mkR ss ns d) (nest := nest) (a := at1) hk0
    refine Trip.seq ?_
    refine Trip.ops ?_
    refine OpsL.eqlT ?_ (c := hk0)
    repeat (first | (refine OpsL.q (by exact oasg) ?_) | (refine OpsL.nil ?_; (change Trip _ _ _ _ _)))
    refine Trip.ifT ?_
    refine Trip.seq ?_
    refine Trip.ops ?_
    refine OpsL.p (by subst_vars; decide) (aop_build (l := [(0, .int .i64 2)]) (by simp [evParts, ASt.ev, tmPut, plainC, plain1, *]) (v := .agg #[.int .i64 2, .int .i64 0, .int .i64 0, .slice none 0 0]) (by exact rfl)) ?_
    refine OpsL.storeX ?_ (by (first | (simp only [ASt.ev, tmPut, ↓reduceIte, Nat.reduceEqDiff, *]; done))) (by (first | (simp only [ASt.ev, tmPut, ↓reduceIte, Nat.reduceEqDiff, *]; rfl))) st1.res rfl rfl rfl
    intro G9 hG9 hs9
    have hfin := st1.fin (x := .node 2 0 0 []) (.leaf 2 0 0 0) List.nodup_nil (fun y hy => by cases hy) hs9
    rw [← hmk] at hfin
    repeat (first | (refine Trip.ret ?_; ((repeat (refine blockExit_ret ?_)))) | (refine OpsL.nil ?_; (change Trip _ _ _ _ _)))
    exact .inl ⟨rfl, _, _, _, _, rfl, by simp [tmPut, *], hG9, rfl, hfin⟩
  refine Trip.seq ?_
  refine Trip.ops ?_
  refine OpsL.eqlF ?_ (c := hk0)
  repeat (first | (refine OpsL.q (by exact oasg) ?_) | (refine OpsL.nil ?_; (change Trip _ _ _ _ _)))
  refine Trip.ifF ?_
  refine Trip.seq ?_
  refine Trip.mono (Q := fun x st => x = .normal ∧ ∃ tm' : Nat → Value, st = ⟨tm', n, G1, nx + 1⟩ ∧ tm' 0 = .pointer (some ⟨b, 0, none⟩) ∧ tm' 1 = .int .i64 di ∧ tm' 2 = .bool nest ∧ tm' 6 = .pointer (some ⟨nx, 0, none⟩) ∧ tm' 7 = .int .i64 k ∧ tm' 18 = .int .i64 k ∧ tm' 22 = .bool (decide (1 ≤ k ∧ k ≤ 3))) ?_ ?_
  · repeat' (first | (first | (refine OpsL.q (by first | exact oeql | exact oasg) ?_) | (refine Trip.seq ?_) | (refine Trip.ops ?_) | (refine Trip.itA (fun _ => ?_) (fun _ => ?_)) | (refine Trip.skip ?_; (skip)) | (refine OpsL.nil ?_; (first | (change Trip _ _ _ _ _) | (skip)))) | fail)
    all_goals first | exact absurd trivial ‹¬ True› | (refine ⟨rfl, _, rfl, by simp [tmPut, *], by simp [tmPut, *], by simp [tmPut, *], by simp [tmPut, *], by simp [tmPut, *], by simp [tmPut, *], ?_⟩; simp [tmPut, -Bool.decide_and, *] <;> omega)
  clear e0 e1 e2 e6 e7
  rintro x st ⟨rfl, tm, rfl, e0, e1, e2, e6, e7, e18, eS⟩
  (change Trip _ _ _ _ _)
  by_cases hC : 1 ≤ k ∧ k ≤ 3
  · rw [decide_eq_true hC] at eS
    refine Trip.ifT ?_
    have c0 := mkr_cell (k := 0) st1.mkr rfl
    repeat (first | (refine OpsL.q (by first | exact omv | exact aop_nilCheck (by (first | (simp only [ASt.ev, tmPut, ↓reduceIte, Nat.reduceEqDiff, *]; rfl))) | exact ofa | exact old | exact olen) ?_) | (refine Trip.seq ?_) | (refine Trip.ops ?_))
    refine OpsL.c2 (hf := entersNextX) (hc := (nextXC W0 st1.mkr (IntsAt.offB hn hof st1.ext hok) hof (by omega) _ (by omega) (by omega))) (h := ?_)
    rintro v2 _ G2 ⟨rfl, rfl, hm2, hs2⟩
    have st2 := st1.same hm2 hs2
    clear c0
    cases nest with
    | false =>
      have hmk := mkK_s (ss := ss) (ns := ns) (rec := mkR ss ns d) (nest := false) (a := at1) hC rfl
      simp only [cond_false] at hmk
      generalize nxtX ns at1 ss.length = r2 at *
      obtain ⟨w, at2⟩ := r2
      simp only at hm2 st2 hmk ⊢
      repeat (first | (refine OpsL.q (by first | exact oasg | exact omv) ?_) | (refine Trip.seq ?_) | (refine Trip.ops ?_) | (refine OpsL.nil ?_; (change Trip _ _ _ _ _)))
      refine Trip.ifF ?_
      repeat (first | (refine OpsL.q (by exact omv) ?_) | (refine Trip.seq ?_) | (refine Trip.ops ?_) | (refine Trip.skip ?_; (change Trip _ _ _ _ _)))
      by_cases h0 : 0 ≤ w
      · rw [if_pos h0] at hmk
        refine OpsL.geqT ?_ (c := h0)
        repeat (first | (refine OpsL.nil ?_; (change Trip _ _ _ _ _)))
        refine Trip.ifT ?_
        repeat (first | (refine OpsL.q (by exact omv) ?_) | (refine Trip.seq ?_) | (refine Trip.ops ?_))
        refine OpsL.p (by subst_vars; decide) (aop_build (l := [(0, .int .i64 3), (1, .int .i64 w)]) (by simp [evParts, ASt.ev, tmPut, plainC, plain1, *]) (v := .agg #[.int .i64 3, .int .i64 w, .int .i64 0, .slice none 0 0]) (by exact rfl)) ?_
        refine OpsL.storeX ?_ (by (first | (simp only [ASt.ev, tmPut, ↓reduceIte, Nat.reduceEqDiff, *]; done))) (by (first | (simp only [ASt.ev, tmPut, ↓reduceIte, Nat.reduceEqDiff, *]; rfl))) st2.res rfl rfl rfl
        intro G9 hG9 hs9
        have hfin := st2.fin (x := .node 3 w 0 []) (.leaf 3 w 0 0) List.nodup_nil (fun y hy => by cases hy) hs9
        rw [← hmk] at hfin
        repeat (first | (refine Trip.ret ?_; ((repeat (refine blockExit_ret ?_)))) | (refine OpsL.nil ?_; (change Trip _ _ _ _ _)))
        exact .inl ⟨rfl, _, _, _, _, rfl, by simp [tmPut, *], hG9, rfl, hfin⟩
      · rw [if_neg h0] at hmk
        refine OpsL.geqF ?_ (c := h0)
        repeat (first | (refine OpsL.nil ?_; (change Trip _ _ _ _ _)))
        refine Trip.ifF ?_
        repeat (first | (refine Trip.skip ?_; ((repeat (refine blockExit_normal ?_)))))
        exact .inr ⟨rfl, _, _, _, _, rfl, by simp [tmPut, *], st2, hmk⟩
    | true =>
      have hmk := mkK_s (ss := ss) (ns := ns) (rec := mkR ss ns d) (nest := true) (a := at1) hC rfl
      simp only [cond_true] at hmk
      have ha2 := nxtX_at (ns := ns) (at_ := at1) (m := ss.length)
      repeat (first | (refine OpsL.q (by first | exact oasg | exact omv) ?_) | (refine Trip.seq ?_) | (refine Trip.ops ?_) | (refine OpsL.nil ?_; (change Trip _ _ _ _ _)))
      refine Trip.ifT ?_
      repeat (first | (refine OpsL.q (by exact omv) ?_) | (refine Trip.ops ?_))
      refine OpsL.c2 (hf := entersPickX) (hc := (pickXC W0 st2.mkr (hl.offB hs0 hol st2.ext hok) hs0 hss (IntsAt.offB hn hof st2.ext hok) hol hof (by omega) 3)) (h := ?_)
      rintro v3 _ G3 ⟨rfl, rfl, hm3, hs3⟩
      have st3 := st2.same hm3 hs3
      generalize pickX ss ns 3 (nxtX ns at1 ss.length).2 = r2 at *
      obtain ⟨w, at2⟩ := r2
      simp only at hm3 st3 hmk ⊢
      repeat (first | (refine OpsL.q (by first | exact oasg | exact omv) ?_) | (refine Trip.seq ?_) | (refine Trip.ops ?_) | (refine OpsL.nil ?_; (change Trip _ _ _ _ _)))
      by_cases h0 : 0 ≤ w
      · rw [if_pos h0] at hmk
        refine OpsL.geqT ?_ (c := h0)
        repeat (first | (refine OpsL.nil ?_; (change Trip _ _ _ _ _)))
        refine Trip.ifT ?_
        repeat (first | (refine OpsL.q (by exact omv) ?_) | (refine Trip.seq ?_) | (refine Trip.ops ?_))
        refine OpsL.p (by subst_vars; decide) (aop_build (l := [(0, .int .i64 3), (1, .int .i64 w)]) (by simp [evParts, ASt.ev, tmPut, plainC, plain1, *]) (v := .agg #[.int .i64 3, .int .i64 w, .int .i64 0, .slice none 0 0]) (by exact rfl)) ?_
        refine OpsL.storeX ?_ (by (first | (simp only [ASt.ev, tmPut, ↓reduceIte, Nat.reduceEqDiff, *]; done))) (by (first | (simp only [ASt.ev, tmPut, ↓reduceIte, Nat.reduceEqDiff, *]; rfl))) st3.res rfl rfl rfl
        intro G9 hG9 hs9
        have hfin := st3.fin (x := .node 3 w 0 []) (.leaf 3 w 0 0) List.nodup_nil (fun y hy => by cases hy) hs9
        rw [← hmk] at hfin
        repeat (first | (refine Trip.ret ?_; ((repeat (refine blockExit_ret ?_)))) | (refine OpsL.nil ?_; (change Trip _ _ _ _ _)))
        exact .inl ⟨rfl, _, _, _, _, rfl, by simp [tmPut, *], hG9, rfl, hfin⟩
      · rw [if_neg h0] at hmk
        refine OpsL.geqF ?_ (c := h0)
        repeat (first | (refine OpsL.nil ?_; (change Trip _ _ _ _ _)))
        refine Trip.ifF ?_
        repeat (first | (refine Trip.skip ?_; ((repeat (refine blockExit_normal ?_)))))
        exact .inr ⟨rfl, _, _, _, _, rfl, by simp [tmPut, *], st3, hmk⟩
  rw [decide_eq_false hC] at eS
  refine Trip.ifF ?_
  refine Trip.seq ?_
  refine Trip.mono (Q := fun x st => x = .normal ∧ ∃ tm' : Nat → Value, st = ⟨tm', n, G1, nx + 1⟩ ∧ tm' 0 = .pointer (some ⟨b, 0, none⟩) ∧ tm' 1 = .int .i64 di ∧ tm' 2 = .bool nest ∧ tm' 6 = .pointer (some ⟨nx, 0, none⟩) ∧ tm' 7 = .int .i64 k ∧ tm' 18 = .int .i64 k ∧ tm' 40 = .bool (decide (5 ≤ k ∧ k ≤ 7))) ?_ ?_
  · repeat' (first | (first | (refine OpsL.q (by first | exact oeql | exact oasg) ?_) | (refine Trip.seq ?_) | (refine Trip.ops ?_) | (refine Trip.itA (fun _ => ?_) (fun _ => ?_)) | (refine Trip.skip ?_; (skip)) | (refine OpsL.nil ?_; (first | (change Trip _ _ _ _ _) | (skip)))) | fail)
    all_goals first | exact absurd trivial ‹¬ True› | (refine ⟨rfl, _, rfl, by simp [tmPut, *], by simp [tmPut, *], by simp [tmPut, *], by simp [tmPut, *], by simp [tmPut, *], by simp [tmPut, *], ?_⟩; simp [tmPut, -Bool.decide_and, *] <;> omega)
  clear e0 e1 e2 e6 e7 e18
  rintro x st ⟨rfl, tm, rfl, e0, e1, e2, e6, e7, e18, eS⟩
  (change Trip _ _ _ _ _)
  by_cases hC2 : 5 ≤ k ∧ k ≤ 7
  · rw [decide_eq_true hC2] at eS
    refine Trip.ifT ?_
    obtain ⟨d', rfl⟩ : ∃ d', d = d' + 1 := ⟨d - 1, by have := hkk.2.2 (by omega); omega⟩
    have hmk := mkK_n (ss := ss) (ns := ns) (rec := mkX ss ns d') (nest := nest) (a := at1) hC2
    simp only [cntX] at hat hdc
    have hp1 := pickX_at (ss := ss) (ns := ns) (kd := 1) (at_ := at1)
    have hp2 := pickX_at (ss := ss) (ns := ns) (kd := 2) (at_ := (pickX ss ns 1 at1).2)
    repeat (first | (refine OpsL.q (by exact omv) ?_) | (refine Trip.seq ?_) | (refine Trip.ops ?_))
    refine OpsL.c2 (hf := entersPickX) (hc := (pickXC W0 st1.mkr (hl.offB hs0 hol st1.ext hok) hs0 hss (IntsAt.offB hn hof st1.ext hok) hol hof (by omega) 1)) (h := ?_)
    rintro v2 _ G2 ⟨rfl, rfl, hm2, hs2⟩
    have st2 := st1.same hm2 hs2
    repeat (first | (refine OpsL.q (by exact omv) ?_))
    refine OpsL.c2 (hf := entersPickX) (hc := (pickXC W0 st2.mkr (hl.offB hs0 hol st2.ext hok) hs0 hss (IntsAt.offB hn hof st2.ext hok) hol hof (by omega) 2)) (h := ?_)
    rintro v3 _ G3 ⟨rfl, rfl, hm3, hs3⟩
    have st3 := st2.same hm3 hs3
    generalize pickX ss ns 1 at1 = q1 at *
    obtain ⟨w1, at2⟩ := q1
    simp only at hmk hp1 hp2 st2 st3 hm3 ⊢
    generalize pickX ss ns 2 at2 = q2 at *
    obtain ⟨w2, at3⟩ := q2
    simp only at hmk hp2 st3 hm3 ⊢
    clear hm2 hm3 hs2 hs3
    repeat (first | (refine OpsL.q (by first | exact oasg | exact omv) ?_) | (refine Trip.seq ?_) | (refine Trip.ops ?_) | (refine OpsL.nil ?_; (change Trip _ _ _ _ _)))
    by_cases hw : 0 ≤ w1 ∧ 0 ≤ w2
    · rw [if_pos hw] at hmk
      obtain ⟨hw1, hw2⟩ := hw
      refine OpsL.geqT ?_ (c := hw1)
      repeat (first | (refine OpsL.q (by exact omv) ?_) | (refine OpsL.ung ?_))
      refine OpsL.geqT ?_ (c := hw2)
      clear hw1 hw2
      repeat (first | (refine OpsL.q (by exact opkT) ?_) | (refine OpsL.nil ?_; (change Trip _ _ _ _ _)))
      refine Trip.ifT ?_
      repeat (first | (refine OpsL.q (by first | exact omv | exact osub) ?_) | (refine Trip.seq ?_) | (refine Trip.ops ?_))
      refine OpsL.c3 (hf := entersMakeX) (hc := (ih d' (by omega) true (di := _) (by omega) st3.mkr (hl.offB hs0 hol st3.ext hok) (IntsAt.offB hn hof st3.ext hok) hol hof (by omega))) (h := ?_)
      rintro v_c1 n_c1 G_c1 ⟨cs_c1, B_c1, rfl, x_c1, nd_c1, rg_c1, m_c1, y_c1⟩
      have c1 := st3.step m_c1 y_c1
      have p_c1 := mkX_at ss ns d' true at3
      obtain ⟨X1, hX1⟩ : ∃ X, (mkX ss ns d' true at3).1 = X := ⟨_, rfl⟩
      rw [hX1] at x_c1 hmk
      obtain ⟨xk, xs, xe, xl⟩ := X1
      obtain ⟨xa, xc, rfl⟩ := x_c1.cells
      refine OpsL.new (by subst_vars; decide) (aop_buildSlice (l := [(0, .agg #[.int .i64 xk, .int .i64 xs, .int .i64 xe, .slice xa xl.length xc])]) (r := (.slice (some ⟨n_c1, 0, none⟩) 1 1, .new (.cells [.int .i64 xk, .int .i64 xs, .int .i64 xe, .slice xa xl.length xc] 4 none false (some 28)))) (by simp [evParts, ASt.ev, tmPut, plainC, plain1, *]) (by exact rfl)) ?_
      obtain ⟨G5, hG5⟩ : ∃ G5, G5 = G_c1.put n_c1 (.cells [.int .i64 xk, .int .i64 xs, .int .i64 xe, .slice xa xl.length xc] 4 none false (some 28)) := ⟨_, rfl⟩
      have x5 : Ext n_c1 G_c1 (n_c1 + 1) G5 := by rw [hG5]; exact Ext.newPut
      have hrow : G5 n_c1 = some (.cells [.int .i64 xk, .int .i64 xs, .int .i64 xe, .slice xa xl.length xc] 4 none false (some 28)) := by rw [hG5]; exact Heap.put_eq
      have st5 := c1.new x5
      have ht := x_c1.same fun y hy => x5.2 y (rg_c1 y hy).2
      have hrw : G5 = G_c1.put n_c1 (.cells [.int .i64 xk, .int .i64 xs, .int .i64 xe, .slice xa xl.length xc] 4 none false (some 28)) := hG5
      rw [← hrw]
      clear hrw hG5
      repeat fail
      refine OpsL.p (by subst_vars; decide) (aop_build (l := [(0, .int .i64 4), (1, .int .i64 w1), (2, .int .i64 w2), (3, .slice (some ⟨n_c1, 0, none⟩) 1 1)]) (by simp [evParts, ASt.ev, tmPut, plainC, plain1, *]) (v := .agg #[.int .i64 4, .int .i64 w1, .int .i64 w2, .slice (some ⟨n_c1, 0, none⟩) 1 1]) (by exact rfl)) ?_
      refine OpsL.storeX ?_ (by (first | (simp only [ASt.ev, tmPut, ↓reduceIte, Nat.reduceEqDiff, *]; done))) (by (first | (simp only [ASt.ev, tmPut, ↓reduceIte, Nat.reduceEqDiff, *]; rfl))) st5.res rfl rfl rfl
      intro G9 hG9 hs9
      have hfin := st5.fin (ExC.row1 (k := 4) (s := w1) (e := w2) (c := 1) hrow rfl ht) (List.nodup_cons.2 ⟨fun h => by have := rg_c1 _ h; omega, nd_c1⟩) (fun y hy => by
        have q1 := st1.lt
        have q2 := y_c1.le
        rcases List.mem_cons.1 hy with rfl | hy
        · omega
        · have := rg_c1 y hy; omega) hs9
      rw [← hmk] at hfin
      repeat (first | (refine Trip.ret ?_; ((repeat (refine blockExit_ret ?_)))) | (refine OpsL.nil ?_; (change Trip _ _ _ _ _)))
      exact .inl ⟨rfl, _, _, _, _, rfl, by simp [tmPut, *], hG9, rfl, hfin⟩
    · rw [if_neg hw] at hmk
      have hfinN : MkSt H nx b (.slice (some la) ss.length lc) nv at3 (nx + 1) G3 := st3
      by_cases hw1 : 0 ≤ w1
      · have hw2 : ¬ 0 ≤ w2 := fun h => hw ⟨hw1, h⟩
        refine OpsL.geqT ?_ (c := hw1)
        repeat (first | (refine OpsL.q (by exact omv) ?_) | (refine OpsL.ung ?_))
        refine OpsL.geqF ?_ (c := hw2)
        clear hw1 hw2
        repeat (first | (refine OpsL.q (by exact opkT) ?_) | (refine OpsL.nil ?_; (change Trip _ _ _ _ _)))
        refine Trip.ifF ?_
        repeat (first | (refine Trip.skip ?_; ((repeat (refine blockExit_normal ?_)))))
        exact .inr ⟨rfl, _, _, _, _, rfl, by simp [tmPut, *], hfinN, hmk⟩
      · refine OpsL.geqF ?_ (c := hw1)
        clear hw1
        repeat (first | (refine OpsL.q (by first | exact omv | exact opkF) ?_) | (refine OpsL.nil ?_; (change Trip _ _ _ _ _)) | (refine OpsL.skp ?_))
        refine Trip.ifF ?_
        repeat (first | (refine Trip.skip ?_; ((repeat (refine blockExit_normal ?_)))))
        exact .inr ⟨rfl, _, _, _, _, rfl, by simp [tmPut, *], hfinN, hmk⟩
  rw [decide_eq_false hC2] at eS
  refine Trip.ifF ?_
  refine Trip.seq ?_
  refine Trip.mono (Q := fun x st => x = .normal ∧ ∃ tm' : Nat → Value, st = ⟨tm', n, G1, nx + 1⟩ ∧ tm' 0 = .pointer (some ⟨b, 0, none⟩) ∧ tm' 1 = .int .i64 di ∧ tm' 2 = .bool nest ∧ tm' 6 = .pointer (some ⟨nx, 0, none⟩) ∧ tm' 7 = .int .i64 k ∧ tm' 18 = .int .i64 k ∧ tm' 62 = .bool (decide (8 ≤ k ∧ k ≤ 11))) ?_ ?_
  · repeat' (first | (first | (refine OpsL.q (by first | exact oeql | exact oasg) ?_) | (refine Trip.seq ?_) | (refine Trip.ops ?_) | (refine Trip.itA (fun _ => ?_) (fun _ => ?_)) | (refine Trip.skip ?_; (skip)) | (refine OpsL.nil ?_; (first | (change Trip _ _ _ _ _) | (skip)))) | fail)
    all_goals first | exact absurd trivial ‹¬ True› | (refine ⟨rfl, _, rfl, by simp [tmPut, *], by simp [tmPut, *], by simp [tmPut, *], by simp [tmPut, *], by simp [tmPut, *], by simp [tmPut, *], ?_⟩; simp [tmPut, -Bool.decide_and, *] <;> omega)
  clear e0 e1 e2 e6 e7 e18
  rintro x st ⟨rfl, tm, rfl, e0, e1, e2, e6, e7, e18, eS⟩
  (change Trip _ _ _ _ _)
  by_cases hC3 : 8 ≤ k ∧ k ≤ 11
  · rw [decide_eq_true hC3] at eS
    refine Trip.ifT ?_
    obtain ⟨d', rfl⟩ : ∃ d', d = d' + 1 := ⟨d - 1, by have := hkk.2.2 (by omega); omega⟩
    have hmk := mkK_c (ss := ss) (ns := ns) (rec := mkX ss ns d') (nest := nest) (a := at1) hC3
    simp only [cntX] at hat hdc
    repeat (first | (refine OpsL.q (by first | exact omv | exact osub) ?_) | (refine Trip.seq ?_) | (refine Trip.ops ?_))
    refine OpsL.c3 (hf := entersMakeX) (hc := (ih d' (by omega) nest (di := _) (by omega) st1.mkr (hl.offB hs0 hol st1.ext hok) (IntsAt.offB hn hof st1.ext hok) hol hof (by omega))) (h := ?_)
    rintro v_c1 n_c1 G_c1 ⟨cs_c1, B_c1, rfl, x_c1, nd_c1, rg_c1, m_c1, y_c1⟩
    have c1 := st1.step m_c1 y_c1
    have p_c1 := mkX_at ss ns d' nest at1
    obtain ⟨at2, hat2⟩ : ∃ q, (mkX ss ns d' nest at1).2 = q := ⟨_, rfl⟩
    rw [hat2] at hmk c1 p_c1 m_c1
    repeat (first | (refine OpsL.q (by first | exact omv | exact osub) ?_))
    refine OpsL.c3 (hf := entersMakeX) (hc := (ih d' (by omega) nest (di := _) (by omega) c1.mkr (hl.offB hs0 hol c1.ext hok) (IntsAt.offB hn hof c1.ext hok) hol hof (by omega))) (h := ?_)
    rintro v_c2 n_c2 G_c2 ⟨cs_c2, B_c2, rfl, x_c2, nd_c2, rg_c2, m_c2, y_c2⟩
    have c2 := c1.step m_c2 y_c2
    have p_c2 := mkX_at ss ns d' nest at2
    obtain ⟨at3, hat3⟩ : ∃ q, (mkX ss ns d' nest at2).2 = q := ⟨_, rfl⟩
    rw [hat3] at hmk c2 p_c2 m_c2
    obtain ⟨X_1, hX_1⟩ : ∃ X, (mkX ss ns d' nest at1).1 = X := ⟨_, rfl⟩
    rw [hX_1] at x_c1 hmk
    obtain ⟨k_1, s_1, f_1, l_1⟩ := X_1
    obtain ⟨a_1, z_1, rfl⟩ := x_c1.cells
    obtain ⟨X_2, hX_2⟩ : ∃ X, (mkX ss ns d' nest at2).1 = X := ⟨_, rfl⟩
    rw [hX_2] at x_c2 hmk
    obtain ⟨k_2, s_2, f_2, l_2⟩ := X_2
    obtain ⟨a_2, z_2, rfl⟩ := x_c2.cells
    refine OpsL.new (by subst_vars; decide) (aop_buildSlice (l := [(0, .agg #[.int .i64 k_1, .int .i64 s_1, .int .i64 f_1, .slice a_1 l_1.length z_1]), (1, .agg #[.int .i64 k_2, .int .i64 s_2, .int .i64 f_2, .slice a_2 l_2.length z_2])]) (r := (.slice (some ⟨n_c2, 0, none⟩) 2 2, .new (.cells [.int .i64 k_1, .int .i64 s_1, .int .i64 f_1, .slice a_1 l_1.length z_1, .int .i64 k_2, .int .i64 s_2, .int .i64 f_2, .slice a_2 l_2.length z_2] 4 none false (some 28)))) (by simp [evParts, ASt.ev, tmPut, plainC, plain1, *]) (by exact rfl)) ?_
    obtain ⟨G5, hG5⟩ : ∃ G5, G5 = G_c2.put n_c2 (.cells [.int .i64 k_1, .int .i64 s_1, .int .i64 f_1, .slice a_1 l_1.length z_1, .int .i64 k_2, .int .i64 s_2, .int .i64 f_2, .slice a_2 l_2.length z_2] 4 none false (some 28)) := ⟨_, rfl⟩
    have x5 : Ext n_c2 G_c2 (n_c2 + 1) G5 := by rw [hG5]; exact Ext.newPut
    have hrow : G5 n_c2 = some (.cells [.int .i64 k_1, .int .i64 s_1, .int .i64 f_1, .slice a_1 l_1.length z_1, .int .i64 k_2, .int .i64 s_2, .int .i64 f_2, .slice a_2 l_2.length z_2] 4 none false (some 28)) := by rw [hG5]; exact Heap.put_eq
    have st5 := c2.new x5
    have bn1 : b ∉ B_c1 := fun h => by have := rg_c1 _ h; omega
    have bn2 : b ∉ B_c2 := fun h => by have := rg_c2 _ h; have := y_c1.le; omega
    have t1 := (x_c1.extB y_c2 (fun y hy => (rg_c1 y hy).2) bn1).same fun y hy => x5.2 y (by have := rg_c1 y hy; have := y_c2.le; omega)
    have t2 := x_c2.same fun y hy => x5.2 y (rg_c2 y hy).2
    rw [← hG5]
    clear hG5
    repeat (first | (refine OpsL.q (by first | exact oasg | exact omv) ?_) | (refine Trip.seq ?_) | (refine Trip.ops ?_) | (refine OpsL.nil ?_; (change Trip _ _ _ _ _)))
    refine OpsL.c2 (hf := entersNextX) (hc := (nextXC W0 st5.mkr (IntsAt.offB hn hof st5.ext hok) hof (by omega) 3 (by decide) (by decide))) (h := ?_)
    rintro v6 _ G6 ⟨rfl, rfl, hm6, hs6⟩
    have st6 := st5.same hm6 hs6
    have ha6 := nxtX_at (ns := ns) (at_ := at3) (m := 3)
    replace t1 := t1.same (H' := G6) fun y hy => hs6 y fun e => bn1 (e ▸ hy)
    replace t2 := t2.same (H' := G6) fun y hy => hs6 y fun e => bn2 (e ▸ hy)
    have hbn2 : n_c2 ≠ b := by have := st1.lt; have := y_c1.le; have := y_c2.le; omega
    have hrow6 : G6 n_c2 = some (.cells [.int .i64 k_1, .int .i64 s_1, .int .i64 f_1, .slice a_1 l_1.length z_1, .int .i64 k_2, .int .i64 s_2, .int .i64 f_2, .slice a_2 l_2.length z_2] 4 none false (some 28)) := by rw [hs6 n_c2 hbn2]; exact hrow
    generalize nxtX ns at3 3 = r6 at *
    obtain ⟨w, at6⟩ := r6
    simp only at hmk hm6 st6 ha6 ⊢
    clear hs6 hm6 hrow x5
    have q1 := st1.lt
    have q2 := y_c1.le
    have q3 := y_c2.le
    by_cases hw : w = 0
    · rw [if_pos hw] at hmk
      refine OpsL.eqlT ?_ (c := hw)
      clear hw
      repeat (first | (refine OpsL.nil ?_; (change Trip _ _ _ _ _)))
      refine Trip.ifT ?_
      repeat (first | (refine OpsL.q (by first | exact omv | exact osub) ?_) | (refine Trip.ops ?_))
      refine OpsL.c3 (hf := entersMakeX) (hc := (ih d' (by omega) nest (di := _) (by omega) st6.mkr (hl.offB hs0 hol st6.ext hok) (IntsAt.offB hn hof st6.ext hok) hol hof (by omega))) (h := ?_)
      rintro v_c3 n_c3 G_c3 ⟨cs_c3, B_c3, rfl, x_c3, nd_c3, rg_c3, m_c3, y_c3⟩
      have c3 := st6.step m_c3 y_c3
      have p_c3 := mkX_at ss ns d' nest at6
      obtain ⟨X_3, hX_3⟩ : ∃ X, (mkX ss ns d' nest at6).1 = X := ⟨_, rfl⟩
      rw [hX_3] at x_c3 hmk
      obtain ⟨k_3, s_3, f_3, l_3⟩ := X_3
      obtain ⟨a_3, z_3, rfl⟩ := x_c3.cells
      have t3 := x_c3
      replace t1 := t1.extB y_c3 (fun y hy => by have := rg_c1 y hy; omega) bn1
      replace t2 := t2.extB y_c3 (fun y hy => by have := rg_c2 y hy; omega) bn2
      have hrow7 : G_c3 n_c2 = some (.cells [.int .i64 k_1, .int .i64 s_1, .int .i64 f_1, .slice a_1 l_1.length z_1, .int .i64 k_2, .int .i64 s_2, .int .i64 f_2, .slice a_2 l_2.length z_2] 4 none false (some 28)) := by rw [y_c3.same n_c2 (by omega) hbn2]; exact hrow6
      refine OpsL.new (by subst_vars; decide) (aop_buildSlice (l := [(0, .agg #[.int .i64 k_3, .int .i64 s_3, .int .i64 f_3, .slice a_3 l_3.length z_3])]) (r := (.slice (some ⟨n_c3, 0, none⟩) 1 1, .new (.cells [.int .i64 k_3, .int .i64 s_3, .int .i64 f_3, .slice a_3 l_3.length z_3] 4 none false (some 28)))) (by simp [evParts, ASt.ev, tmPut, plainC, plain1, *]) (by exact rfl)) ?_
      obtain ⟨G8, hG8⟩ : ∃ G8, G8 = G_c3.put n_c3 (.cells [.int .i64 k_3, .int .i64 s_3, .int .i64 f_3, .slice a_3 l_3.length z_3] 4 none false (some 28)) := ⟨_, rfl⟩
      have x8 : Ext n_c3 G_c3 (n_c3 + 1) G8 := by rw [hG8]; exact Ext.newPut
      have hrow8 : G8 n_c3 = some (.cells [.int .i64 k_3, .int .i64 s_3, .int .i64 f_3, .slice a_3 l_3.length z_3] 4 none false (some 28)) := by rw [hG8]; exact Heap.put_eq
      rw [← hG8]
      clear hG8
      have q4 := y_c3.le
      have st8 := c3.new x8
      have hrow9 : G8 n_c2 = some (.cells [.int .i64 k_1, .int .i64 s_1, .int .i64 f_1, .slice a_1 l_1.length z_1, .int .i64 k_2, .int .i64 s_2, .int .i64 f_2, .slice a_2 l_2.length z_2] 4 none false (some 28)) := by rw [x8.2 n_c2 (by omega)]; exact hrow7
      refine OpsL.new (by subst_vars; decide) (aop_append_full (k := 2) (m := 1) (sz := 4) (el := 28) (cs := [.int .i64 k_1, .int .i64 s_1, .int .i64 f_1, .slice a_1 l_1.length z_1, .int .i64 k_2, .int .i64 s_2, .int .i64 f_2, .slice a_2 l_2.length z_2]) (xs := [.int .i64 k_3, .int .i64 s_3, .int .i64 f_3, .slice a_3 l_3.length z_3]) (by (first | (simp only [ASt.ev, tmPut, ↓reduceIte, Nat.reduceEqDiff, *]; done))) (by (first | (simp only [ASt.ev, tmPut, ↓reduceIte, Nat.reduceEqDiff, *]; rfl))) hrow9 rfl (by simp [source, cut, getc, hrow8]) (by exact rfl) (by decide) (by exact rfl) (by exact rfl) (by exact rfl) (by exact rfl) (by exact rfl) (by exact rfl) (by exact rfl) (by decide) (by decide)) ?_
      obtain ⟨G9, hG9⟩ : ∃ G9, G9 = G8.put (n_c3 + 1) (.cells ([.int .i64 k_1, .int .i64 s_1, .int .i64 f_1, .slice a_1 l_1.length z_1] ++ [.int .i64 k_2, .int .i64 s_2, .int .i64 f_2, .slice a_2 l_2.length z_2] ++ [.int .i64 k_3, .int .i64 s_3, .int .i64 f_3, .slice a_3 l_3.length z_3]) 4 (some (n_c3 + 1)) false (some 28)) := ⟨_, rfl⟩
      have x9 : Ext (n_c3 + 1) G8 (n_c3 + 1 + 1) G9 := by rw [hG9]; exact Ext.newPut
      have hrowA : G9 (n_c3 + 1) = some (.cells ([.int .i64 k_1, .int .i64 s_1, .int .i64 f_1, .slice a_1 l_1.length z_1] ++ [.int .i64 k_2, .int .i64 s_2, .int .i64 f_2, .slice a_2 l_2.length z_2] ++ [.int .i64 k_3, .int .i64 s_3, .int .i64 f_3, .slice a_3 l_3.length z_3]) 4 (some (n_c3 + 1)) false (some 28)) := by rw [hG9]; exact Heap.put_eq
      have st9 := st8.new x9
      have key : G8.put (n_c3 + 1) (.cells ([.int .i64 k_1, .int .i64 s_1, .int .i64 f_1, .slice a_1 l_1.length z_1, .int .i64 k_2, .int .i64 s_2, .int .i64 f_2, .slice a_2 l_2.length z_2] ++ [.int .i64 k_3, .int .i64 s_3, .int .i64 f_3, .slice a_3 l_3.length z_3]) 4 (some (n_c3 + 1)) false (some 28)) = G9 := by rw [hG9]; rfl
      rw [key]
      clear key hG9
      have xx := x8.trans x9
      replace t1 := t1.same (H' := G9) fun y hy => xx.2 y (by have := rg_c1 y hy; omega)
      replace t2 := t2.same (H' := G9) fun y hy => xx.2 y (by have := rg_c2 y hy; omega)
      replace t3 := t3.same (H' := G9) fun y hy => xx.2 y (by have := rg_c3 y hy; omega)
      repeat (first | (refine OpsL.q (by first | exact oasg | exact omv) ?_) | (refine Trip.seq ?_) | (refine Trip.ops ?_) | (refine OpsL.nil ?_; (change Trip _ _ _ _ _)))
      refine OpsL.p (by subst_vars; decide) (aop_remN (by (first | (simp only [ASt.ev, tmPut, ↓reduceIte, Nat.reduceEqDiff, *]; rfl))) (by (first | (simp only [ASt.ev, tmPut, ↓reduceIte, Nat.reduceEqDiff, *]; rfl))) (by omega) (by omega)) ?_
      repeat (first | (refine OpsL.q (by first | exact omv | exact oadd) ?_))
      refine OpsL.p (by subst_vars; decide) (aop_build (l := [(0, .int .i64 (5 + k % 2)), (3, .slice (some ⟨n_c3 + 1, 0, some (n_c3 + 1)⟩) 3 3)]) (by simp [evParts, ASt.ev, tmPut, plainC, plain1, *]) (v := .agg #[.int .i64 (5 + k % 2), .int .i64 0, .int .i64 0, .slice (some ⟨n_c3 + 1, 0, some (n_c3 + 1)⟩) 3 3]) (by exact rfl)) ?_
      refine OpsL.storeX ?_ (by (first | (simp only [ASt.ev, tmPut, ↓reduceIte, Nat.reduceEqDiff, *]; done))) (by (first | (simp only [ASt.ev, tmPut, ↓reduceIte, Nat.reduceEqDiff, *]; rfl))) st9.res rfl rfl rfl
      intro GA hGA hsA
      have hfin := st9.fin (ExC.row3 (k := 5 + k % 2) (s := 0) (e := 0) (c := 3) hrowA rfl rfl rfl t1 t2 t3) (by
        refine List.nodup_cons.2 ⟨fun h => ?_, rowX_nodup2 (lo := nx + 1) (m := n_c1) (n2 := n_c3) nd_c1 (rowX_nodup2 (lo := n_c1) (m := n_c2) (n2 := n_c3) nd_c2 nd_c3 (fun y hy => rg_c2 y hy) (fun y hy => by have := rg_c3 y hy; omega)) (fun y hy => rg_c1 y hy) (fun y hy => ?_)⟩
        · simp only [List.mem_append] at h
          rcases h with h | h | h
          · have := rg_c1 _ h; omega
          · have := rg_c2 _ h; omega
          · have := rg_c3 _ h; omega
        · simp only [List.mem_append] at hy
          rcases hy with hy | hy
          · have := rg_c2 _ hy; omega
          · have := rg_c3 _ hy; omega) (fun y hy => by
        rcases List.mem_cons.1 hy with rfl | hy
        · omega
        · simp only [List.mem_append] at hy
          rcases hy with hy | hy | hy
          · have := rg_c1 _ hy; omega
          · have := rg_c2 _ hy; omega
          · have := rg_c3 _ hy; omega) hsA
      rw [← hmk] at hfin
      repeat (first | (refine Trip.ret ?_; ((repeat (refine blockExit_ret ?_)))) | (refine OpsL.nil ?_; (change Trip _ _ _ _ _)))
      exact .inl ⟨rfl, _, _, _, _, rfl, by simp [tmPut, *], hGA, rfl, hfin⟩
    · rw [if_neg hw] at hmk
      refine OpsL.eqlF ?_ (c := hw)
      clear hw
      repeat (first | (refine OpsL.nil ?_; (change Trip _ _ _ _ _)))
      refine Trip.ifF ?_
      repeat (first | (refine OpsL.q (by exact omv) ?_) | (refine Trip.seq ?_) | (refine Trip.ops ?_) | (refine Trip.skip ?_; (change Trip _ _ _ _ _)))
      refine OpsL.p (by subst_vars; decide) (aop_remN (by (first | (simp only [ASt.ev, tmPut, ↓reduceIte, Nat.reduceEqDiff, *]; rfl))) (by (first | (simp only [ASt.ev, tmPut, ↓reduceIte, Nat.reduceEqDiff, *]; rfl))) (by omega) (by omega)) ?_
      repeat (first | (refine OpsL.q (by first | exact omv | exact oadd) ?_))
      refine OpsL.p (by subst_vars; decide) (aop_build (l := [(0, .int .i64 (5 + k % 2)), (3, .slice (some ⟨n_c2, 0, none⟩) 2 2)]) (by simp [evParts, ASt.ev, tmPut, plainC, plain1, *]) (v := .agg #[.int .i64 (5 + k % 2), .int .i64 0, .int .i64 0, .slice (some ⟨n_c2, 0, none⟩) 2 2]) (by exact rfl)) ?_
      refine OpsL.storeX ?_ (by (first | (simp only [ASt.ev, tmPut, ↓reduceIte, Nat.reduceEqDiff, *]; done))) (by (first | (simp only [ASt.ev, tmPut, ↓reduceIte, Nat.reduceEqDiff, *]; rfl))) st6.res rfl rfl rfl
      intro GA hGA hsA
      have hfin := st6.fin (ExC.row2 (k := 5 + k % 2) (s := 0) (e := 0) (c := 2) (c1 := [.int .i64 k_1, .int .i64 s_1, .int .i64 f_1, .slice a_1 l_1.length z_1]) (c2 := [.int .i64 k_2, .int .i64 s_2, .int .i64 f_2, .slice a_2 l_2.length z_2]) hrow6 rfl rfl t1 t2) (by
        refine List.nodup_cons.2 ⟨fun h => ?_, rowX_nodup2 (lo := nx + 1) (m := n_c1) (n2 := n_c2) nd_c1 nd_c2 (fun y hy => rg_c1 y hy) (fun y hy => rg_c2 y hy)⟩
        simp only [List.mem_append] at h
        rcases h with h | h
        · have := rg_c1 _ h; omega
        · have := rg_c2 _ h; omega) (fun y hy => by
        rcases List.mem_cons.1 hy with rfl | hy
        · omega
        · simp only [List.mem_append] at hy
          rcases hy with hy | hy
          · have := rg_c1 _ hy; omega
          · have := rg_c2 _ hy; omega) hsA
      rw [← hmk] at hfin
      repeat (first | (refine Trip.ret ?_; ((repeat (refine blockExit_ret ?_)))) | (refine OpsL.nil ?_; (change Trip _ _ _ _ _)))
      exact .inl ⟨rfl, _, _, _, _, rfl, by simp [tmPut, *], hGA, rfl, hfin⟩
  rw [decide_eq_false hC3] at eS
  refine Trip.ifF ?_
  refine Trip.seq ?_
  refine Trip.mono (Q := fun x st => x = .normal ∧ ∃ tm' : Nat → Value, st = ⟨tm', n, G1, nx + 1⟩ ∧ tm' 0 = .pointer (some ⟨b, 0, none⟩) ∧ tm' 1 = .int .i64 di ∧ tm' 2 = .bool nest ∧ tm' 6 = .pointer (some ⟨nx, 0, none⟩) ∧ tm' 7 = .int .i64 k ∧ tm' 18 = .int .i64 k ∧ tm' 94 = .bool (decide (12 ≤ k ∧ k ≤ 13))) ?_ ?_
  · repeat' (first | (first | (refine OpsL.q (by first | exact oeql | exact oasg) ?_) | (refine Trip.seq ?_) | (refine Trip.ops ?_) | (refine Trip.itA (fun _ => ?_) (fun _ => ?_)) | (refine Trip.skip ?_; (skip)) | (refine OpsL.nil ?_; (first | (change Trip _ _ _ _ _) | (skip)))) | fail)
    all_goals first | exact absurd trivial ‹¬ True› | (refine ⟨rfl, _, rfl, by simp [tmPut, *], by simp [tmPut, *], by simp [tmPut, *], by simp [tmPut, *], by simp [tmPut, *], by simp [tmPut, *], ?_⟩; simp [tmPut, -Bool.decide_and, *] <;> omega)
  clear e0 e1 e2 e6 e7 e18
  rintro x st ⟨rfl, tm, rfl, e0, e1, e2, e6, e7, e18, eS⟩
  (change Trip _ _ _ _ _)
  by_cases hC4 : 12 ≤ k ∧ k ≤ 13
  · rw [decide_eq_true hC4] at eS
    refine Trip.ifT ?_
    obtain ⟨d', rfl⟩ : ∃ d', d = d' + 1 := ⟨d - 1, by have := hkk.2.2 (by omega); omega⟩
    have hmk := mkK_t (ss := ss) (ns := ns) (rec := mkX ss ns d') (nest := nest) (a := at1) hC4
    simp only [cntX] at hat hdc
    repeat (first | (refine OpsL.q (by first | exact omv | exact osub) ?_) | (refine Trip.seq ?_) | (refine Trip.ops ?_))
    refine OpsL.c3 (hf := entersMakeX) (hc := (ih d' (by omega) nest (di := _) (by omega) st1.mkr (hl.offB hs0 hol st1.ext hok) (IntsAt.offB hn hof st1.ext hok) hol hof (by omega))) (h := ?_)
    rintro v_c1 n_c1 G_c1 ⟨cs_c1, B_c1, rfl, x_c1, nd_c1, rg_c1, m_c1, y_c1⟩
    have c1 := st1.step m_c1 y_c1
    have p_c1 := mkX_at ss ns d' nest at1
    obtain ⟨X_1, hX_1⟩ : ∃ X, (mkX ss ns d' nest at1).1 = X := ⟨_, rfl⟩
    rw [hX_1] at x_c1 hmk
    obtain ⟨k_1, s_1, f_1, l_1⟩ := X_1
    obtain ⟨a_1, z_1, rfl⟩ := x_c1.cells
    refine OpsL.new (by subst_vars; decide) (aop_buildSlice (l := [(0, .agg #[.int .i64 k_1, .int .i64 s_1, .int .i64 f_1, .slice a_1 l_1.length z_1])]) (r := (.slice (some ⟨n_c1, 0, none⟩) 1 1, .new (.cells [.int .i64 k_1, .int .i64 s_1, .int .i64 f_1, .slice a_1 l_1.length z_1] 4 none false (some 28)))) (by simp [evParts, ASt.ev, tmPut, plainC, plain1, *]) (by exact rfl)) ?_
    obtain ⟨G5, hG5⟩ : ∃ G5, G5 = G_c1.put n_c1 (.cells [.int .i64 k_1, .int .i64 s_1, .int .i64 f_1, .slice a_1 l_1.length z_1] 4 none false (some 28)) := ⟨_, rfl⟩
    have x5 : Ext n_c1 G_c1 (n_c1 + 1) G5 := by rw [hG5]; exact Ext.newPut
    have hrow : G5 n_c1 = some (.cells [.int .i64 k_1, .int .i64 s_1, .int .i64 f_1, .slice a_1 l_1.length z_1] 4 none false (some 28)) := by rw [hG5]; exact Heap.put_eq
    have st5 := c1.new x5
    have ht := x_c1.same fun y hy => x5.2 y (rg_c1 y hy).2
    rw [← hG5]
    clear hG5
    repeat fail
    refine OpsL.p (by subst_vars; decide) (aop_build (l := [(0, .int .i64 7), (3, .slice (some ⟨n_c1, 0, none⟩) 1 1)]) (by simp [evParts, ASt.ev, tmPut, plainC, plain1, *]) (v := .agg #[.int .i64 7, .int .i64 0, .int .i64 0, .slice (some ⟨n_c1, 0, none⟩) 1 1]) (by exact rfl)) ?_
    refine OpsL.storeX ?_ (by (first | (simp only [ASt.ev, tmPut, ↓reduceIte, Nat.reduceEqDiff, *]; done))) (by (first | (simp only [ASt.ev, tmPut, ↓reduceIte, Nat.reduceEqDiff, *]; rfl))) st5.res rfl rfl rfl
    intro G9 hG9 hs9
    have hfin := st5.fin (ExC.row1 (k := 7) (s := 0) (e := 0) (c := 1) hrow rfl ht) (List.nodup_cons.2 ⟨fun h => by have := rg_c1 _ h; omega, nd_c1⟩) (fun y hy => by
      have q1 := st1.lt
      have q2 := y_c1.le
      rcases List.mem_cons.1 hy with rfl | hy
      · omega
      · have := rg_c1 y hy; omega) hs9
    rw [← hmk] at hfin
    repeat (first | (refine Trip.ret ?_; ((repeat (refine blockExit_ret ?_)))) | (refine OpsL.nil ?_; (change Trip _ _ _ _ _)))
    exact .inl ⟨rfl, _, _, _, _, rfl, by simp [tmPut, *], hG9, rfl, hfin⟩
  rw [decide_eq_false hC4] at eS
  refine Trip.ifF ?_
  have hmk := mkK_4 (ss := ss) (ns := ns) (rec := mkR ss ns d) (k := k) (nest := nest) (a := at1) (by omega)
  repeat (first | (refine Trip.skip ?_; ((repeat (refine blockExit_normal ?_)))))
  exact .inr ⟨rfl, _, _, _, _, rfl, by simp [tmPut, *], st1, hmk⟩
end Go.Proofs.YtmijhkclfoadaaaDoor
