import Derived.Test.YtjgbcpagfghfnaaQWM54
import Derived.Test.YtjgbcpagfghfnaaQWM16
set_option linter.unusedVariables false
set_option linter.unusedSimpArgs false
namespace Go.Proofs.Ytjgbcpagfghfnaa
open Go.Am Go.RowKit
attribute [local irreducible] aop OpsL Trip blockExit OpsD OpsK OpsR OpsQ
theorem TwS.at {σ0 σ : CH} {m : Mo} {Y Y' : TwX} {I W : List (List Int)} {R : List (List (List Int))} {V : MoV} (h : TwS σ0 σ m Y I W R V) (e : Y'.B = Y.B) : TwS σ0 σ m Y' I W R V := ⟨h.old, by rw [e]; exact h.b, h.of, h.fi, h.inn, h.low, h.ret⟩
set_option maxRecDepth 20000 in
set_option maxHeartbeats 16000000 in
theorem twP (W0 : World) {σ0 σ : CH} {m : Mo} {VM V : MoV} {A B c s0 k0 n : Nat} {bits : Int} {I W : List (List Int)} {R : List (List (List Int))} {tm : Nat → Value} (hmod : ModOk m) (hn0 : n = 217) (hn30 : m.of.length ≤ 30) (hFA : ∀ {N : Nat} {H' : Heap}, Ext σ0.nx σ0.H N H' → MoBox H' A m VM ∧ MoIn H' m VM) (hs0 : s0 = 0 ∨ s0 = m.of.length) (hk0 : k0 ≤ 1300 * s0) (ht : TW m ⟨A, B, bits, c, 0⟩ tm) (h10 : tm 10 = .int .i64 k0) (hVe : V.e = VM.e) (htw : TwR m I W R s0) (h : TwS σ0 σ m ⟨A, B, bits, 0, 0⟩ I W R V) {Q : AExit → ASt → Prop}
    (hQ : ∀ tm' σ' V' I W R k1 p, TW m ⟨A, B, bits, c, p⟩ tm' → tm' 10 = .int .i64 ((k1 : Nat) : Int) → k1 ≤ 1300 * (s0 + m.of.length) → V'.e = VM.e → TwR m I W R (s0 + m.of.length) → TwS σ0 σ' m ⟨A, B, bits, 0, 0⟩ I W R V' → Q .normal ⟨tm', n, σ'.H, σ'.nx⟩) :
    Trip Try.prog W0 (subC [1, 1, 1, 1, 1, 1, 0, 1, 2, 2, 1, 0, 2, 1] (bodyMk Try.f4)) ⟨tm, n, σ.H, σ.nx⟩ Q := by
  refine Trip.block ?_
  refine Trip.inv (fun (p : Nat) st => ∃ tm σ V I W R k1, st = ⟨tm, n, σ.H, σ.nx⟩ ∧ TW m ⟨A, B, bits, c, p⟩ tm ∧ tm 10 = .int .i64 ((k1 : Nat) : Int) ∧ p ≤ m.of.length ∧ k1 ≤ 1300 * (s0 + p) ∧ V.e = VM.e ∧ TwR m I W R (s0 + p) ∧ TwS σ0 σ m ⟨A, B, bits, 0, 0⟩ I W R V) (fun p => m.of.length - p) 0 ?_ ?_
  · exact ⟨tm, σ, V, I, W, R, k0, rfl, ht, h10, by omega, by omega, hVe, htw, h⟩
  clear h ht h10 htw hVe hk0
  rintro p st ⟨tm, σ, V, I, W, R, k1, rfl, ⟨t2, t7, t8, t9, t11, t12⟩, t10, hi, hk1, hVe, htw, h⟩
  replace t2 : tm 2 = .int .i64 bits := t2
  replace t7 : tm 7 = .pointer (some ⟨A, 0, none⟩) := t7
  replace t9 : tm 9 = .pointer (some ⟨B, 0, none⟩) := t9
  replace t11 : tm 11 = .int .i64 c := t11
  replace t12 : tm 12 = .int .i64 p := t12
  repeat (first | (refine OpsL.q (by first | exact omv | exact olss) ?_) | (refine Trip.seq ?_) | (refine Trip.ops ?_) | (refine Trip.block ?_) | (refine Trip.itA (fun _ => ?_) (fun _ => ?_)) | (refine Trip.skip ?_; (change Trip _ _ _ _ _)) | (refine OpsL.nil ?_; (change Trip _ _ _ _ _)))
  · have hlt : p < m.of.length := by omega
    have hsp : (s0 + p) % m.of.length = p := by
      rcases hs0 with rfl | rfl
      · rw [Nat.zero_add]; exact Nat.mod_eq_of_lt hlt
      · rw [Nat.add_mod_left]; exact Nat.mod_eq_of_lt hlt
    have hl1 := (hmod.inn p hlt).1
    have hl3 := hmod.pl
    have hl2 : (m.low.getD p []).length ≤ 20 := by
      by_cases hz : m.of.getD p 0 = 0
      · have := (hmod.low0 _ hlt hz).1; have := hmod.cl; omega
      · rw [hmod.low1 _ hlt hz]; simp
    repeat fail
    (first | (refine OpsL.q (by exact oasg) ?_))
    (first | (refine OpsL.q (by exact oasg) ?_))
    refine OpsL.nil ?_
    (change Trip _ _ _ _ _)
    refine Trip.seq ?_
    refine Trip.ops ?_
    (first | (refine OpsL.q (by exact oasg) ?_))
    refine OpsL.nil ?_
    (change Trip _ _ _ _ _)
    refine Trip.seq (Trip.seq ?_)
    refine Trip.ops ?_
    (first | (refine OpsL.q (by exact oasg) ?_))
    refine OpsL.nil ?_
    (change Trip _ _ _ _ _)
    refine twIn (Y := ⟨A, B, bits, c, p⟩) (I := I) (W := W) (R := R) (s := s0 + p) (k0 := k1) W0 hmod trivial hn0 hn30 hFA hlt htw.il htw.ll htw.rl (by omega) ⟨by simp [tmPut, *], by simp [tmPut, *], by simp [tmPut, *], by simp [tmPut, *], by simp [tmPut, *], by simp [tmPut, *]⟩ (by simp [tmPut, *]) (by simp [tmPut, *]) (by simp [tmPut, *]) (by simp [tmPut, *]) (by simp [tmPut, *]) (h.at rfl) ?_
    clear t2 t7 t8 t9 t10 t11 t12 h
    intro tm σ v13 l13 ⟨t2, t7, t8, t9, t11, t12⟩ t10 t13 t14 t15 h hr13 ho1
    replace t2 : tm 2 = .int .i64 bits := t2
    replace t7 : tm 7 = .pointer (some ⟨A, 0, none⟩) := t7
    replace t9 : tm 9 = .pointer (some ⟨B, 0, none⟩) := t9
    replace t11 : tm 11 = .int .i64 c := t11
    replace t12 : tm 12 = .int .i64 p := t12
    dsimp only
    refine Trip.seq (Trip.seq ?_)
    refine Trip.ops ?_
    (first | (refine OpsL.q (by exact oasg) ?_))
    refine OpsL.nil ?_
    (change Trip _ _ _ _ _)
    refine twLow (Y := ⟨A, B, bits, c, p⟩) (I := I) (W := W) (R := R) (s := s0 + p) (k0 := k1 + (m.inn.getD p []).length) W0 hmod trivial hn0 hn30 hFA hlt htw.il htw.ll htw.rl (by omega) ⟨by simp [tmPut, *], by simp [tmPut, *], by simp [tmPut, *], by simp [tmPut, *], by simp [tmPut, *], by simp [tmPut, *]⟩ (by simp [tmPut, *]) (by simp [tmPut, *]) (by simp [tmPut, *]) (by simp [tmPut, *]) (by simp [tmPut, *]) h hr13 ?_
    clear t2 t7 t8 t9 t10 t11 t12 t13 t14 t15 h hr13
    intro tm σ v14 l14 ⟨t2, t7, t8, t9, t11, t12⟩ t10 t14 t13 t15 h hr13 hr14 ho2
    replace t2 : tm 2 = .int .i64 bits := t2
    replace t7 : tm 7 = .pointer (some ⟨A, 0, none⟩) := t7
    replace t9 : tm 9 = .pointer (some ⟨B, 0, none⟩) := t9
    replace t11 : tm 11 = .int .i64 c := t11
    replace t12 : tm 12 = .int .i64 p := t12
    dsimp only
    refine Trip.seq (Trip.seq ?_)
    refine Trip.ops ?_
    (first | (refine OpsL.q (by exact oasg) ?_))
    refine OpsL.nil ?_
    (change Trip _ _ _ _ _)
    refine twRet (Y := ⟨A, B, bits, c, p⟩) (I := I) (W := W) (R := R) (s := s0 + p) (k0 := k1 + (m.inn.getD p []).length + (m.low.getD p []).length) W0 hmod hn0 hn30 hFA hlt htw.il htw.ll htw.rl (by omega) ⟨by simp [tmPut, *], by simp [tmPut, *], by simp [tmPut, *], by simp [tmPut, *], by simp [tmPut, *], by simp [tmPut, *]⟩ (by simp [tmPut, *]) (by simp [tmPut, *]) (by simp [tmPut, *]) hr13 hr14 (by simp [tmPut, *]) (by simp [tmPut, *]) h ?_
    clear t2 t7 t8 t9 t10 t11 t12 t13 t14 t15 h hr13 hr14
    intro tm σ v15 l15 k2 ht t10 hk2 t13 t14 h hr13 hr14 t15 hr15 ho3
    dsimp only
    refine twApp (Y := ⟨A, B, bits, c, p⟩) (I := I) (W := W) (R := R) (s := s0 + p) (k1 := k2) W0 hn0 ht t10 t13 t14 t15 htw.il htw.ll htw.rl (by omega) hr13 hr14 hr15 h ?_
    clear ht t10 t13 t14 t15 h hr13 hr14 hr15
    intro tm σ V2 ⟨t2, t7, t8, t9, t11, t12⟩ t10 hV2 h
    replace t2 : tm 2 = .int .i64 bits := t2
    replace t7 : tm 7 = .pointer (some ⟨A, 0, none⟩) := t7
    replace t9 : tm 9 = .pointer (some ⟨B, 0, none⟩) := t9
    replace t11 : tm 11 = .int .i64 c := t11
    replace t12 : tm 12 = .int .i64 p := t12
    rw [hVe] at hV2
    have htw2 := htw.snoc (a := l13) (b := l14) (c := l15) (by rw [hsp]; exact ho1) (by rw [hsp]; exact ho2) (by rw [hsp]; exact ho3)
    ((repeat (refine blockExit_normal ?_)); change Trip _ _ _ _ _)
    repeat (first | (refine OpsL.q (by first | exact omv | exact oadd | exact oasg) ?_) | (refine Trip.ops ?_) | (refine OpsL.nil ?_; (dsimp only)))
    exact ⟨p + 1, ⟨_, σ, V2, _, _, _, k2, rfl, ⟨by simp [tmPut, *], by simp [tmPut, *], by simp [tmPut, *], by simp [tmPut, *], by simp [tmPut, *], by simp [tmPut, *]⟩, by simp [tmPut, *], by omega, by omega, hV2, htw2, h.at rfl⟩, by omega⟩
  · have hie : p = m.of.length := by omega
    rw [hie] at htw hk1
    repeat (first | (refine Trip.exit ?_; ((repeat (refine blockExit_eq ?_)))))
    exact hQ _ σ V I W R k1 p ⟨by simp [tmPut, *], by simp [tmPut, *], by simp [tmPut, *], by simp [tmPut, *], by simp [tmPut, *], by simp [tmPut, *]⟩ (by simp [tmPut, *]) hk1 hVe htw h
set_option maxRecDepth 20000 in
set_option maxHeartbeats 16000000 in
theorem twC (W0 : World) {σ0 σ : CH} {m : Mo} {VM V : MoV} {A B n : Nat} {bits : Int} {tm : Nat → Value} (hmod : ModOk m) (hn0 : n = 217) (hn30 : m.of.length ≤ 30) (hFA : ∀ {N : Nat} {H' : Heap}, Ext σ0.nx σ0.H N H' → MoBox H' A m VM ∧ MoIn H' m VM) (h2 : tm 2 = .int .i64 bits) (h7 : tm 7 = .pointer (some ⟨A, 0, none⟩)) (h8 : tm 8 = .int .i64 m.of.length) (h9 : tm 9 = .pointer (some ⟨B, 0, none⟩)) (h10 : tm 10 = .int .i64 0) (h11 : tm 11 = .int .i64 0) (hVe : V.e = VM.e) (h : TwS σ0 σ m ⟨A, B, bits, 0, 0⟩ [] [] [] V) {Q : AExit → ASt → Prop}
    (hQ : ∀ tm' σ' V' I W R, tm' 7 = .pointer (some ⟨A, 0, none⟩) → tm' 9 = .pointer (some ⟨B, 0, none⟩) → V'.e = VM.e → TwR m I W R (2 * m.of.length) → TwS σ0 σ' m ⟨A, B, bits, 0, 0⟩ I W R V' → Q .normal ⟨tm', n, σ'.H, σ'.nx⟩) :
    Trip Try.prog W0 (subC [1, 1, 1, 1, 1, 1, 0, 1] (bodyMk Try.f4)) ⟨tm, n, σ.H, σ.nx⟩ Q := by
  refine Trip.block ?_
  refine Trip.inv (fun (c : Nat) st => ∃ tm σ V I W R k1 s0, st = ⟨tm, n, σ.H, σ.nx⟩ ∧ tm 2 = .int .i64 bits ∧ tm 7 = .pointer (some ⟨A, 0, none⟩) ∧ tm 8 = .int .i64 m.of.length ∧ tm 9 = .pointer (some ⟨B, 0, none⟩) ∧ tm 11 = .int .i64 c ∧ tm 10 = .int .i64 ((k1 : Nat) : Int) ∧ (c = 0 ∧ s0 = 0 ∨ c = 1 ∧ s0 = m.of.length ∨ c = 2 ∧ s0 = 2 * m.of.length) ∧ k1 ≤ 1300 * s0 ∧ V.e = VM.e ∧ TwR m I W R s0 ∧ TwS σ0 σ m ⟨A, B, bits, 0, 0⟩ I W R V) (fun c => 2 - c) 0 ?_ ?_
  · exact ⟨tm, σ, V, [], [], [], 0, 0, rfl, h2, h7, h8, h9, h11, h10, .inl ⟨rfl, rfl⟩, by omega, hVe, TwR.zero, h⟩
  clear h h2 h7 h8 h9 h10 h11 hVe
  rintro c st ⟨tm, σ, V, I, W, R, k1, s0, rfl, t2, t7, t8, t9, t11, t10, hc, hk1, hVe, htw, h⟩
  repeat (first | (refine OpsL.q (by first | exact omv | exact olss) ?_) | (refine Trip.seq ?_) | (refine Trip.ops ?_) | (refine Trip.block ?_) | (refine Trip.itA (fun _ => ?_) (fun _ => ?_)) | (refine Trip.skip ?_; (change Trip _ _ _ _ _)) | (refine OpsL.nil ?_; (change Trip _ _ _ _ _)))
  · have hs0 : s0 = 0 ∨ s0 = m.of.length := by omega
    repeat fail
    (first | (refine OpsL.q (by exact oasg) ?_))
    refine OpsL.nil ?_
    (change Trip _ _ _ _ _)
    refine twP (c := c) (s0 := s0) (k0 := k1) W0 hmod hn0 hn30 hFA hs0 hk1 ⟨by simp [tmPut, *], by simp [tmPut, *], by simp [tmPut, *], by simp [tmPut, *], by simp [tmPut, *], by simp [tmPut, *]⟩ (by simp [tmPut, *]) hVe htw h ?_
    clear t2 t7 t8 t9 t10 t11 h htw hVe
    intro tm σ V I W R k2 p ⟨t2, t7, t8, t9, t11, t12⟩ t10 hk2 hVe htw h
    replace t2 : tm 2 = .int .i64 bits := t2
    replace t7 : tm 7 = .pointer (some ⟨A, 0, none⟩) := t7
    replace t9 : tm 9 = .pointer (some ⟨B, 0, none⟩) := t9
    replace t11 : tm 11 = .int .i64 c := t11
    clear t12
    ((repeat (refine blockExit_normal ?_)); change Trip _ _ _ _ _)
    repeat (first | (refine OpsL.q (by first | exact omv | exact oadd | exact oasg) ?_) | (refine Trip.ops ?_) | (refine OpsL.nil ?_; (dsimp only)))
    exact ⟨c + 1, ⟨_, σ, V, I, W, R, k2, s0 + m.of.length, rfl, by simp [tmPut, *], by simp [tmPut, *], by simp [tmPut, *], by simp [tmPut, *], by simp [tmPut, *], by simp [tmPut, *], by omega, hk2, hVe, htw, h⟩, by omega⟩
  · have hie : s0 = 2 * m.of.length := by omega
    rw [hie] at htw
    repeat (first | (refine Trip.exit ?_; ((repeat (refine blockExit_eq ?_)))))
    exact hQ _ σ V I W R (by simp [tmPut, *]) (by simp [tmPut, *]) hVe htw h
end Go.Proofs.Ytjgbcpagfghfnaa
