import Derived.Test.YtmijhkclfoadaaaDoorQEM24
namespace Go.Am
set_option linter.unusedSimpArgs false
set_option linter.unusedVariables false
open Go.RowKit
section
variable {W0 : World} {C : Corr} {nx nx1 nx2 : Nat} {H H1 H2 : Heap} {w : World} {σ : Nat → Nat}
def liveA (H : Heap) (a : Addr) : Bool := match H a.block with | some o => decide (o.tag = a.spot) | none => false
theorem liveA_iff {H : Heap} {a : Addr} : liveA H a = true ↔ live H a := by
  unfold liveA live
  cases H a.block with
  | none => simp
  | some o => simp
def ltS (nx : Nat) (s : Option Nat) : Bool := match s with | some t => Nat.blt t nx | none => true
def eszAt (H : Heap) (b : Nat) : Nat := match H b with | some o => o.esz | none => 0
def bare (H : Heap) (r : Nat) : Bool := match H r with | some o => decide (o.tag = none) | none => false
def okPair (H1 H2 : Heap) (σ : Nat → Nat) (nx2 : Nat) (a b : Addr) : Bool :=
  Nat.beq a.off b.off && Nat.blt b.block nx2 && ltS nx2 b.spot &&
    (!liveA H2 b || (liveA H1 a && Nat.beq (σ b.block) a.block && (a.spot.isSome == b.spot.isSome) && Nat.beq (eszAt H1 a.block) (eszAt H2 b.block)))
def okRef (H1 H2 : Heap) (σ : Nat → Nat) (nx2 r s : Nat) : Bool := Nat.blt s nx2 && (!bare H2 s || (bare H1 r && Nat.beq (σ s) r))
def eqLn (f : Value → Value → Bool) : List Value → List Value → Bool
  | [], [] => true
  | a :: l, b :: l' => f a b && eqLn f l l'
  | _, _ => false
def fnEq : Fn → Fn → Bool
  | .func f, .func g => Nat.beq f g
  | _, _ => false
def eqVn (H1 H2 : Heap) (σ : Nat → Nat) (nx2 : Nat) : Nat → Value → Value → Bool
  | 0, _, _ => false
  | n + 1, u, v =>
    match u, v with
    | .pointer (some a), .pointer (some b) => okPair H1 H2 σ nx2 a b
    | .slice (some a) l c, .slice (some b) l' c' => Nat.beq l l' && Nat.beq c c' && okPair H1 H2 σ nx2 a b
    | .map (some r), .map (some s) => okRef H1 H2 σ nx2 r s
    | .chan (some r), .chan (some s) => okRef H1 H2 σ nx2 r s
    | .func f a b, .func g a' b' => fnEq f g && eqLn (eqVn H1 H2 σ nx2 n) a.toList a'.toList && eqLn (eqVn H1 H2 σ nx2 n) b.toList b'.toList
    | .iface t x, .iface s y => Nat.beq t s && eqVn H1 H2 σ nx2 n x y
    | .agg a, .agg b => eqLn (eqVn H1 H2 σ nx2 n) a.toList b.toList
    | .tuple a, .tuple b => eqLn (eqVn H1 H2 σ nx2 n) a.toList b.toList
    | u, v => plain1 u && veq1 u v
def Corr.ren (C : Corr) (σ : Nat → Nat) : Corr := ⟨fun j => C.loc (σ j), fun j => C.siz (σ j), C.pin⟩
theorem plain_VR_any {nx nx2 : Nat} {H H2 : Heap} {C C2 : Corr} {u v : Value} (h : plain1 u = true) (hv : VR nx H C u v) : VR nx2 H2 C2 u v := by
  cases hv <;> first | (constructor; done) | (simp [plain1] at h; done)
theorem eqLn_spec {f : Value → Value → Bool} : ∀ {a b : List Value}, eqLn f a b = true → a.length = b.length ∧ ∀ (i : Nat) (h : i < a.length) (h' : i < b.length), f a[i] b[i] = true := by
  intro a
  induction a with
  | nil => intro b h; cases b with
    | nil => exact ⟨rfl, fun i h => absurd h (by simp)⟩
    | cons x y => simp [eqLn] at h
  | cons x l ih =>
    intro b h
    cases b with
    | nil => simp [eqLn] at h
    | cons y l' =>
      simp only [eqLn, Bool.and_eq_true] at h
      obtain ⟨h1, h2⟩ := ih h.2
      refine ⟨by simp [h1], fun i a b => ?_⟩
      cases i with
      | zero => exact h.1
      | succ i => exact h2 i (by simpa using a) (by simpa using b)
theorem okPair_spec {a b : Addr} (h : okPair H1 H2 σ nx2 a b = true) : okA nx2 b ∧ a.off = b.off ∧ (live H2 b → live H1 a ∧ σ b.block = a.block ∧ (a.spot.isSome = b.spot.isSome) ∧ eszAt H1 a.block = eszAt H2 b.block) := by
  unfold okPair at h
  simp only [Bool.and_eq_true, Bool.or_eq_true, Bool.not_eq_true', beq_iff_eq] at h
  obtain ⟨⟨⟨h1, h2⟩, h3⟩, h4⟩ := h
  refine ⟨⟨by rw [Nat.blt_eq] at h2; exact h2, fun t ht => ?_⟩, Nat.eq_of_beq_eq_true h1, fun hl => ?_⟩
  · rw [ht] at h3
    simp only [ltS, Nat.blt_eq] at h3
    exact h3
  · rcases h4 with h4 | ⟨⟨⟨q1, q2⟩, q3⟩, q4⟩
    · rw [liveA_iff.2 hl] at h4; cases h4
    · exact ⟨liveA_iff.1 q1, Nat.eq_of_beq_eq_true q2, q3, Nat.eq_of_beq_eq_true q4⟩
theorem bare_iff {H : Heap} {r : Nat} : bare H r = true ↔ ∃ o, H r = some o ∧ o.tag = none := by
  unfold bare
  cases H r with
  | none => simp
  | some o => simp
theorem okRef_spec {r s : Nat} (h : okRef H1 H2 σ nx2 r s = true) : s < nx2 ∧ ∀ o, H2 s = some o → o.tag = none → (∃ o1, H1 r = some o1 ∧ o1.tag = none) ∧ σ s = r := by
  unfold okRef at h
  simp only [Bool.and_eq_true, Bool.or_eq_true, Bool.not_eq_true'] at h
  obtain ⟨h1, h2⟩ := h
  refine ⟨by rw [Nat.blt_eq] at h1; exact h1, fun o ho ht => ?_⟩
  rcases h2 with h2 | ⟨q1, q2⟩
  · rw [bare_iff.2 ⟨o, ho, ht⟩] at h2; cases h2
  · exact ⟨bare_iff.1 q1, Nat.eq_of_beq_eq_true q2⟩
theorem eqVn_sound : ∀ (n : Nat) (u v x : Value), eqVn H1 H2 σ nx2 n u v = true → VR nx1 H1 C u x → VR nx2 H2 (C.ren σ) v x := by
  intro n
  induction n with
  | zero => intro u v x h; simp [eqVn] at h
  | succ n ih =>
    intro u v x h hv
    have rows : ∀ {a a' : List Value} {b : List Value}, eqLn (eqVn H1 H2 σ nx2 n) a a' = true → VRs nx1 H1 C a b → VRs nx2 H2 (C.ren σ) a' b := fun h hv => by
      obtain ⟨h1, h2⟩ := eqLn_spec h
      exact ⟨h1.symm.trans hv.1, fun i p q => ih _ _ _ (h2 i (by rw [h1]; exact p) p) (hv.2 i (by rw [h1]; exact p) q)⟩
    unfold eqVn at h
    split at h
    · rename_i a b
      obtain ⟨h1, h2, h3⟩ := okPair_spec h
      cases hv with
      | ptr _ x k1 k2 =>
        refine .ptr _ _ h1 fun hl => ?_
        obtain ⟨q1, q2, _⟩ := h3 hl
        rw [k2 q1]
        simp [Corr.at, Corr.ren, q2, h2]
    · rename_i a l c b l' c'
      simp only [Bool.and_eq_true] at h
      obtain ⟨⟨e1, e2⟩, h⟩ := h
      obtain rfl := Nat.eq_of_beq_eq_true e1
      obtain rfl := Nat.eq_of_beq_eq_true e2
      obtain ⟨h1, h2, h3⟩ := okPair_spec h
      cases hv with
      | slc _ _ _ x cap' k1 k2 =>
        refine .slc _ _ _ _ _ h1 fun o ho ht => ?_
        obtain ⟨⟨o1, ho1, ht1⟩, q2, q3, q4⟩ := h3 ⟨o, ho, ht⟩
        obtain ⟨k3, k4⟩ := k2 o1 ho1 ht1
        refine ⟨by rw [k3]; simp [Corr.at, Corr.ren, q2, h2], ?_⟩
        have hesz : o1.esz = o.esz := by simpa [eszAt, ho1, ho] using q4
        unfold capOk at k4 ⊢
        cases hs : b.spot with
        | none =>
          have : a.spot = none := by rw [hs] at q3; cases ha : a.spot with
            | none => rfl
            | some t => rw [ha] at q3; cases q3
          rw [this] at k4
          exact k4
        | some t =>
          obtain ⟨t', ht'⟩ : ∃ t', a.spot = some t' := by
            cases ha : a.spot with
            | none => rw [ha, hs] at q3; cases q3
            | some t' => exact ⟨t', rfl⟩
          rw [ht'] at k4
          simp only [Corr.ren]
          rw [q2, ← hesz, ← h2]
          exact k4
    · rename_i r s
      obtain ⟨h1, h2⟩ := okRef_spec h
      cases hv with
      | map _ x k1 k2 =>
        refine .map _ _ h1 fun o ho ht => ?_
        obtain ⟨⟨o1, q1, q2⟩, q3⟩ := h2 o ho ht
        rw [k2 o1 q1 q2]
        simp [Corr.ren, q3]
    · rename_i r s
      obtain ⟨h1, h2⟩ := okRef_spec h
      cases hv with
      | yld _ x k1 k2 =>
        refine .yld _ _ h1 fun o ho ht => ?_
        obtain ⟨⟨o1, q1, q2⟩, q3⟩ := h2 o ho ht
        rw [k2 o1 q1 q2]
        simp [Corr.ren, q3]
    · rename_i f a b g a' b'
      simp only [Bool.and_eq_true] at h
      obtain ⟨⟨h1, h2⟩, h3⟩ := h
      have hfg : f = g := by
        unfold fnEq at h1
        split at h1
        · rw [Nat.eq_of_beq_eq_true h1]
        · cases h1
      subst hfg
      cases hv with
      | func _ _ x _ y p1 p2 p3 p4 =>
        obtain ⟨r1, r2⟩ := rows h2 (agg_VRs p1 p3)
        obtain ⟨r3, r4⟩ := rows h3 (agg_VRs p2 p4)
        exact .func _ _ _ _ _ (by simpa using r1) (by simpa using r3) (fun i p q => r2 i (by simpa using p) (by simpa using q)) (fun i p q => r4 i (by simpa using p) (by simpa using q))
    · rename_i t x0 s y0
      simp only [Bool.and_eq_true] at h
      obtain rfl := Nat.eq_of_beq_eq_true h.1
      cases hv with
      | iface _ _ z hz => exact .iface _ _ _ (ih _ _ _ h.2 hz)
    · rename_i a b
      cases hv with
      | agg _ x p1 p3 =>
        obtain ⟨r1, r2⟩ := rows h (agg_VRs p1 p3)
        exact .agg _ _ (by simpa using r1) (fun i p q => r2 i (by simpa using p) (by simpa using q))
    · rename_i a b
      cases hv with
      | tuple _ x p1 p3 =>
        obtain ⟨r1, r2⟩ := rows h (agg_VRs p1 p3)
        exact .tuple _ _ (by simpa using r1) (fun i p q => r2 i (by simpa using p) (by simpa using q))
    · simp only [Bool.and_eq_true] at h
      rw [← veq1_spec h.2]
      exact plain_VR_any h.1 hv
def eqEn (f : Value → Value → Bool) : List (Value × Value) → List (Value × Value) → Bool
  | [], [] => true
  | x :: l, y :: l' => f x.1 y.1 && f x.2 y.2 && eqEn f l l'
  | _, _ => false
theorem eqEn_spec {f : Value → Value → Bool} : ∀ {a b : List (Value × Value)}, eqEn f a b = true → a.length = b.length ∧ ∀ (i : Nat) (h : i < a.length) (h' : i < b.length), f a[i].1 b[i].1 = true ∧ f a[i].2 b[i].2 = true := by
  intro a
  induction a with
  | nil => intro b h; cases b with
    | nil => exact ⟨rfl, fun i h => absurd h (by simp)⟩
    | cons x y => simp [eqEn] at h
  | cons x l ih =>
    intro b h
    cases b with
    | nil => simp [eqEn] at h
    | cons y l' =>
      simp only [eqEn, Bool.and_eq_true] at h
      obtain ⟨⟨h0, h1⟩, h2⟩ := h
      obtain ⟨h3, h4⟩ := ih h2
      refine ⟨by simp [h3], fun i a b => ?_⟩
      cases i with
      | zero => exact ⟨h0, h1⟩
      | succ i => exact h4 i (by simpa using a) (by simpa using b)
def eqOn (H1 H2 : Heap) (σ : Nat → Nat) (nx2 : Nat) (o p : AObj) : Bool :=
  match o, p with
  | .cells c e t r q, .cells c' e' t' r' q' => eqLn (eqVn H1 H2 σ nx2 8) c c' && Nat.beq e e' && (t.isSome == t'.isSome) && ltS nx2 t' && (r == r') && decide (q = q')
  | .map es bs k, .map es' bs' k' => eqEn (eqVn H1 H2 σ nx2 8) es es' && decide (bs = bs') && Nat.beq k k'
  | .siter s p, .siter s' p' => decide (s.data.toList = s'.data.toList) && Nat.beq p p'
  | .miter m a b c, .miter m' a' b' c' => eqVn H1 H2 σ nx2 1 (.map m) (.map m') && Nat.beq a a' && decide (b = b') && Nat.beq c c'
  | _, _ => false
theorem eqOn_sound {o p : AObj} {j : Nat} (h : eqOn H1 H2 σ nx2 o p = true) (ho : ORel nx1 H1 C w (σ j) o) : ORel nx2 H2 (C.ren σ) w j p ∧ (∀ t, p.tag = some t → t < nx2) ∧ p.ro = o.ro ∧ p.esz = o.esz ∧ (p.tag.isSome = o.tag.isSome) := by
  unfold eqOn at h
  split at h
  · rename_i c e t r q c' e' t' r' q'
    simp only [Bool.and_eq_true, beq_iff_eq, decide_eq_true_eq] at h
    obtain ⟨⟨⟨⟨⟨h1, h2⟩, h3⟩, h4⟩, h5⟩, h6⟩ := h
    obtain rfl := Nat.eq_of_beq_eq_true h2
    subst h5
    subst h6
    obtain ⟨Cc, el, fr, k1, k2, k3, k4, k5, k6, k7, k8⟩ := ho
    obtain ⟨g1, g2⟩ := eqLn_spec h1
    refine ⟨⟨Cc, el, fr, k1, k2, by simp only [Corr.ren]; rw [← g1]; exact k3, fun i a b => eqVn_sound 8 _ _ _ (g2 i (by rw [g1]; exact a) a) (k4 i (by rw [g1]; exact a) b), k5, k6, fun hr ht => ?_, k8⟩, fun t0 ht => ?_, rfl, rfl, h3.symm⟩
    · have : t = none := by
        cases t with
        | none => rfl
        | some x => rw [ht] at h3; cases h3
      obtain ⟨z1, z2⟩ := k7 hr this
      exact ⟨z1, by rw [← g1]; exact z2⟩
    · have ht' : t' = some t0 := ht
      rw [ht'] at h4
      simp only [ltS, Nat.blt_eq] at h4
      exact h4
  · rename_i es bs k es' bs' k'
    simp only [Bool.and_eq_true, decide_eq_true_eq] at h
    obtain ⟨⟨h1, h2⟩, h3⟩ := h
    obtain rfl := Nat.eq_of_beq_eq_true h3
    subst h2
    obtain ⟨es0, k1, k2, k3, k4⟩ := ho
    obtain ⟨g1, g2⟩ := eqEn_spec h1
    exact ⟨⟨es0, k1, by rw [← g1]; exact k2, fun i a b => ⟨eqVn_sound 8 _ _ _ (g2 i (by rw [g1]; exact a) a).1 (k3 i (by rw [g1]; exact a) b).1, eqVn_sound 8 _ _ _ (g2 i (by rw [g1]; exact a) a).2 (k3 i (by rw [g1]; exact a) b).2⟩, k4⟩,
      fun t ht => (by cases ht), rfl, rfl, rfl⟩
  · rename_i s p s' p'
    simp only [Bool.and_eq_true, decide_eq_true_eq] at h
    obtain rfl := Nat.eq_of_beq_eq_true h.2
    have : s = s' := by
      obtain ⟨⟨s⟩⟩ := s
      obtain ⟨⟨s'⟩⟩ := s'
      have := h.1
      simp only at this
      rw [this]
    subst this
    exact ⟨ho, fun t ht => (by cases ht), rfl, rfl, rfl⟩
  · rename_i m a b c m' a' b' c'
    simp only [Bool.and_eq_true, decide_eq_true_eq] at h
    obtain ⟨⟨⟨h1, h2⟩, h3⟩, h4⟩ := h
    obtain rfl := Nat.eq_of_beq_eq_true h2
    obtain rfl := Nat.eq_of_beq_eq_true h4
    subst h3
    obtain ⟨m0, k1, k2, k3⟩ := ho
    exact ⟨⟨m0, k1, k2, eqVn_sound 1 _ _ _ h1 k3⟩, fun t ht => (by cases ht), rfl, rfl, rfl⟩
  · cases h
theorem renum_core {nx0 : Nat} {H0 : Heap} {C0 : Corr} {v v2 v' : Value} (hR : Rel W0 C nx1 H1 w) (hv : VR nx1 H1 C v v') (hS : Stp nx0 H0 C0 nx1 H1 C) (hng : NG ≤ nx0) (hle : nx0 ≤ nx2) (hval : eqVn H1 H2 σ nx2 8 v v2 = true)
    (hobj : ∀ j p, H2 j = some p → j < nx2 ∧ ∃ o, H1 (σ j) = some o ∧ eqOn H1 H2 σ nx2 o p = true) (hinj : ∀ i j pi pj, H2 i = some pi → H2 j = some pj → σ i = σ j → i = j) (hlow : ∀ j, j < nx0 → σ j = j)
    (htag : ∀ j p o, j < nx0 → H2 j = some p → H1 j = some o → p.tag = o.tag ∨ ∃ t, p.tag = some t ∧ nx0 ≤ t) (hlp : ∀ m, m < nx0 → isLoop (H1 m) = false) :
    Rel W0 (C.ren σ) nx2 H2 w ∧ VR nx2 H2 (C.ren σ) v2 v' ∧ Stp nx0 H0 C0 nx2 H2 (C.ren σ) := by
  refine ⟨⟨hR.below, fun j p hp => ?_, fun j p hp => ?_, fun j p hp hro => ?_, fun i j pi pj hi hj hne hro => ?_, hR.pin, Nat.le_trans hng hle, fun g p hg hp => ?_, fun j p hp => ?_⟩, eqVn_sound 8 _ _ _ hval hv, ⟨⟨hle, fun id p hid hp ht => ?_⟩, hS.pin, fun id hid hl => ?_⟩⟩
  · obtain ⟨h1, o, ho, he⟩ := hobj j p hp
    exact ⟨h1, (eqOn_sound he (hR.obj _ _ ho)).2.1⟩
  · obtain ⟨h1, o, ho, he⟩ := hobj j p hp
    exact (eqOn_sound he (hR.obj _ _ ho)).1
  · obtain ⟨h1, o, ho, he⟩ := hobj j p hp
    have := (eqOn_sound he (hR.obj _ _ ho)).2.2.1
    exact hR.own _ o ho (by rw [← this]; exact hro)
  · obtain ⟨h1, o, ho, he⟩ := hobj i pi hi
    obtain ⟨g1, o', ho', he'⟩ := hobj j pj hj
    have := (eqOn_sound he (hR.obj _ _ ho)).2.2.1
    exact hR.sep _ _ o o' ho ho' (fun e => hne (hinj i j pi pj hi hj e)) (by rw [← this]; exact hro)
  · obtain ⟨h1, o, ho, he⟩ := hobj g p hp
    have hs := hlow g (Nat.lt_of_lt_of_le hg hng)
    rw [hs] at ho
    have q := (eqOn_sound (by have := he; exact this) (hR.obj _ _ (by rw [hs]; exact ho))).2.2.1
    obtain ⟨a, b⟩ := hR.glob g o hg ho
    exact ⟨by rw [q]; exact a, by simp only [Corr.ren]; rw [hs]; exact b⟩
  · obtain ⟨_, o, ho, _⟩ := hobj j p hp
    exact hR.apin _ o ho
  · obtain ⟨h1, o, ho, he⟩ := hobj id p hp
    have hs := hlow id hid
    have q := eqOn_sound he (hR.obj _ _ ho)
    rw [hs] at ho
    rcases htag id p o hid hp ho with e | ⟨t, e, hge⟩
    · obtain ⟨o0, k1, k2, k3, k4, k5⟩ := hS.keep id o hid ho (fun t h => ht t (by rw [e]; exact h))
      exact ⟨o0, k1, k2.trans e.symm, k3.trans q.2.2.2.1.symm, by simp only [Corr.ren]; rw [hs]; exact k4, by simp only [Corr.ren]; rw [hs]; exact k5⟩
    · have := ht t e
      omega
  · have := (hS.fix id hid hl).1
    rw [hlp id hid] at this
    cases this
theorem ACalls.renum {P : Program} {f : FuncId} {args : List Value} {nx0 : Nat} {H0 : Heap} {Q Q' : Value → Nat → Heap → Prop} (h : ACalls P W0 f args nx0 H0 Q)
    (hq : ∀ v n1 G1, Q v n1 G1 → Q' v n1 G1 ∨ ∃ v2 n2 G2 τ, nx0 ≤ n2 ∧ eqVn G1 G2 τ n2 8 v v2 = true ∧ (∀ j p, G2 j = some p → j < n2 ∧ ∃ o, G1 (τ j) = some o ∧ eqOn G1 G2 τ n2 o p = true) ∧
      (∀ i j pi pj, G2 i = some pi → G2 j = some pj → τ i = τ j → i = j) ∧ (∀ j, j < nx0 → τ j = j) ∧ (∀ j p o, j < nx0 → G2 j = some p → G1 j = some o → p.tag = o.tag ∨ ∃ t, p.tag = some t ∧ nx0 ≤ t) ∧
      (∀ m, m < nx0 → isLoop (G1 m) = false) ∧ Q' v2 n2 G2) : ACalls P W0 f args nx0 H0 Q' := by
  intro C w args' hR ha
  refine (h C w args' hR ha).mono ?_
  rintro e w' ⟨v, v', C', n1, G1, he, hv, hR1, hvr, hS⟩
  rcases hq v n1 G1 hv with hq' | ⟨v2, n2, G2, τ, q1, q2, q3, q4, q5, q6, q7, q8⟩
  · exact ⟨v, v', C', n1, G1, he, hq', hR1, hvr, hS⟩
  · obtain ⟨a, b, c⟩ := renum_core hR1 hvr hS hR.base q1 q2 q3 q4 q5 q6 q7
    exact ⟨v2, v', _, n2, G2, he, q8, a, b, c⟩
end
end Go.Am
namespace Go.Am
set_option linter.unusedSimpArgs false
set_option linter.unusedVariables false
open Go.RowKit
noncomputable section
def reachA (H : Tree AObj) (a : Addr) : List Nat := match H.get a.block with | some o => if beqON o.tag a.spot then [a.block] else [] | none => []
def reachV (H : Tree AObj) : Nat → Value → List Nat
  | 0, _ => []
  | n + 1, v =>
    match v with
    | .pointer (some a) => reachA H a
    | .slice (some a) _ _ => reachA H a
    | .map (some r) => [r]
    | .chan (some r) => [r]
    | .func _ a b => (a.toList ++ b.toList).flatMap (reachV H n)
    | .iface _ v => reachV H n v
    | .agg a => a.toList.flatMap (reachV H n)
    | .tuple a => a.toList.flatMap (reachV H n)
    | _ => []
def reachO (H : Tree AObj) : AObj → List Nat
  | .cells c _ _ _ _ => c.flatMap (reachV H 8)
  | .map es _ _ => es.flatMap fun x => reachV H 8 x.1 ++ reachV H 8 x.2
  | .siter _ _ => []
  | .miter (some m) _ _ _ => [m]
  | .miter none _ _ _ => []
  | .loop _ _ _ _ _ _ _ => []
def numG (H : Tree AObj) (nx0 : Nat) : Nat → List Nat → Tree Nat → List Nat → Nat → Tree Nat × List Nat × Nat
  | 0, _, f, l, k => (f, l, k)
  | _ + 1, [], f, l, k => (f, l, k)
  | n + 1, x :: w, f, l, k =>
    match f.get x with
    | some _ => numG H nx0 n w f l k
    | none =>
      match H.get x with
      | some o => cond (Nat.blt x nx0) (numG H nx0 n (reachO H o ++ w) (f.set x x) l k) (numG H nx0 n (reachO H o ++ w) (f.set x (nx0 + k)) (x :: l) (k + 1))
      | none => numG H nx0 n w f l k
def renT (nx0 : Nat) : Option Nat → Option Nat
  | some t => cond (Nat.blt t nx0) (some t) (some nx0)
  | none => none
def renA (H : Tree AObj) (f : Tree Nat) (nx0 junk : Nat) (a : Addr) : Addr :=
  match H.get a.block with
  | some o => cond (beqON o.tag a.spot) (match f.get a.block with | some b => ⟨b, a.off, renT nx0 a.spot⟩ | none => ⟨junk, a.off, none⟩) ⟨junk, a.off, none⟩
  | none => ⟨junk, a.off, none⟩
def renN (f : Tree Nat) (junk r : Nat) : Nat := match f.get r with | some b => b | none => junk
def renV (H : Tree AObj) (f : Tree Nat) (nx0 junk : Nat) : Nat → Value → Value
  | 0, v => v
  | n + 1, v =>
    match v with
    | .pointer (some a) => .pointer (some (renA H f nx0 junk a))
    | .slice (some a) l c => .slice (some (renA H f nx0 junk a)) l c
    | .map (some r) => .map (some (renN f junk r))
    | .chan (some r) => .chan (some (renN f junk r))
    | .func g a b => .func g ⟨a.toList.map (renV H f nx0 junk n)⟩ ⟨b.toList.map (renV H f nx0 junk n)⟩
    | .iface t v => .iface t (renV H f nx0 junk n v)
    | .agg a => .agg ⟨a.toList.map (renV H f nx0 junk n)⟩
    | .tuple a => .tuple ⟨a.toList.map (renV H f nx0 junk n)⟩
    | v => v
def renO (H : Tree AObj) (f : Tree Nat) (nx0 junk : Nat) : AObj → AObj
  | .cells c e t r q => .cells (c.map (renV H f nx0 junk 8)) e (renT nx0 t) r q
  | .map es bs k => .map (es.map fun x => (renV H f nx0 junk 8 x.1, renV H f nx0 junk 8 x.2)) bs k
  | .miter (some m) a b c => .miter (some (renN f junk m)) a b c
  | o => o
def lowR (H : Tree AObj) (f : Tree Nat) (nx0 junk : Nat) : Nat → Nat → List (Nat × AObj)
  | _, 0 => []
  | i, k + 1 =>
    match H.get i with
    | some o => (i, renO H f nx0 junk o) :: lowR H f nx0 junk (i + 1) k
    | none => lowR H f nx0 junk (i + 1) k
def newR (H : Tree AObj) (f : Tree Nat) (nx0 junk : Nat) : List Nat → List (Nat × AObj) → List (Nat × AObj)
  | [], acc => acc
  | r :: l, acc =>
    match H.get r with
    | some o => newR H f nx0 junk l ((renN f junk r, renO H f nx0 junk o) :: acc)
    | none => newR H f nx0 junk l acc
def backT (f : Tree Nat) (junk : Nat) : List Nat → Tree Nat → Tree Nat
  | [], b => b
  | r :: l, b => backT f junk l (b.set (renN f junk r) r)
def sigT (nx0 : Nat) (b : Tree Nat) (j : Nat) : Nat := cond (Nat.blt j nx0) j (match b.get j with | some r => r | none => 0)
def okTag (nx0 : Nat) (t t' : Option Nat) : Bool := match t' with | some x => Nat.ble nx0 x || beqON t (some x) | none => t.isNone
def okRow (H1 : Tree AObj) (H2 : Tree AObj) (σ : Nat → Nat) (f : Tree Nat) (nx0 nx2 : Nat) (x : Nat × AObj) : Bool :=
  Nat.blt x.1 nx2 && beqON (f.get (σ x.1)) (some x.1) &&
    match H1.get (σ x.1) with
    | some o => eqOn H1.get H2.get σ nx2 o x.2 && (Nat.ble nx0 x.1 || okTag nx0 o.tag x.2.tag)
    | none => false
def renG (H : Tree AObj) (v : Value) (nx0 K : Nat) (bld : List (Nat × AObj) → Tree AObj) (q : Tree Nat × List Nat × Nat) : Option (Value × List (Nat × AObj)) :=
  let v2 := renV H q.1 nx0 (nx0 + K) 8 v
  let rows := lowR H q.1 nx0 (nx0 + K) 0 nx0 ++ newR H q.1 nx0 (nx0 + K) q.2.1 []
  let σ := sigT nx0 (backT q.1 (nx0 + K) q.2.1 .leaf)
  cond (eqVn H.get (bld rows).get σ (nx0 + K + 1) 8 v v2 && rows.all (okRow H (bld rows) σ q.1 nx0 (nx0 + K + 1))) (some (v2, rows)) none
theorem renG_spec {H : Tree AObj} {v : Value} {nx0 K : Nat} {bld : List (Nat × AObj) → Tree AObj} {q : Tree Nat × List Nat × Nat} {x : Value × List (Nat × AObj)} (hb : ∀ ks m o, (bld ks).get m = some o → (m, o) ∈ ks)
    (h : renG H v nx0 K bld q = some x) : ∃ τ : Nat → Nat, eqVn H.get (bld x.2).get τ (nx0 + K + 1) 8 v x.1 = true ∧ (∀ j p, (bld x.2).get j = some p → j < nx0 + K + 1 ∧ ∃ o, H.get (τ j) = some o ∧ eqOn H.get (bld x.2).get τ (nx0 + K + 1) o p = true) ∧
      (∀ i j pi pj, (bld x.2).get i = some pi → (bld x.2).get j = some pj → τ i = τ j → i = j) ∧ (∀ j, j < nx0 → τ j = j) ∧
      (∀ j p o, j < nx0 → (bld x.2).get j = some p → H.get j = some o → p.tag = o.tag ∨ ∃ t, p.tag = some t ∧ nx0 ≤ t) := by
  unfold renG at h
  simp only [Bool.cond_eq_ite] at h
  split at h
  case isFalse => cases h
  rename_i hc
  cases h
  simp only [Bool.and_eq_true] at hc
  obtain ⟨hv, hr⟩ := hc
  rw [List.all_eq_true] at hr
  have row : ∀ j p, (bld (lowR H q.1 nx0 (nx0 + K) 0 nx0 ++ newR H q.1 nx0 (nx0 + K) q.2.1 [])).get j = some p → j < nx0 + K + 1 ∧ q.1.get (sigT nx0 (backT q.1 (nx0 + K) q.2.1 .leaf) j) = some j ∧
      ∃ o, H.get (sigT nx0 (backT q.1 (nx0 + K) q.2.1 .leaf) j) = some o ∧ eqOn H.get (bld (lowR H q.1 nx0 (nx0 + K) 0 nx0 ++ newR H q.1 nx0 (nx0 + K) q.2.1 [])).get (sigT nx0 (backT q.1 (nx0 + K) q.2.1 .leaf)) (nx0 + K + 1) o p = true ∧
        (nx0 ≤ j ∨ okTag nx0 o.tag p.tag = true) := by
    intro j p hp
    have := hr _ (hb _ _ _ hp)
    unfold okRow at this
    simp only [Bool.and_eq_true] at this
    obtain ⟨⟨h1, h2⟩, h3⟩ := this
    refine ⟨by rw [Nat.blt_eq] at h1; exact h1, beqON_spec h2, ?_⟩
    split at h3
    · rename_i o ho
      simp only [Bool.and_eq_true, Bool.or_eq_true] at h3
      refine ⟨o, ho, h3.1, ?_⟩
      rcases h3.2 with h3 | h3
      · exact .inl (Nat.le_of_ble_eq_true h3)
      · exact .inr h3
    · cases h3
  have low : ∀ j, j < nx0 → sigT nx0 (backT q.1 (nx0 + K) q.2.1 .leaf) j = j := fun j hj => by
    unfold sigT
    rw [show Nat.blt j nx0 = true by rw [Nat.blt_eq]; exact hj]
    rfl
  refine ⟨sigT nx0 (backT q.1 (nx0 + K) q.2.1 .leaf), hv, fun j p hp => ?_, fun i j pi pj hi hj he => ?_, low, fun j p o hj hp ho => ?_⟩
  · obtain ⟨h1, _, o, h3, h4, _⟩ := row j p hp
    exact ⟨h1, o, h3, h4⟩
  · obtain ⟨_, h2, _⟩ := row i pi hi
    obtain ⟨_, g2, _⟩ := row j pj hj
    rw [he, g2] at h2
    cases h2
    rfl
  · obtain ⟨_, _, o', h3, h4, h5⟩ := row j p hp
    rw [low j hj, ho] at h3
    cases h3
    rcases h5 with h5 | h5
    · omega
    · unfold okTag at h5
      split at h5
      · rename_i t ht
        simp only [Bool.or_eq_true] at h5
        rcases h5 with h5 | h5
        · exact .inr ⟨t, ht, Nat.le_of_ble_eq_true h5⟩
        · rw [ht]
          exact .inl (beqON_spec h5).symm
      · rename_i ht
        rw [ht]
        left
        cases ho : o.tag with
        | none => rfl
        | some t => rw [ho] at h5; cases h5
end
end Go.Am
