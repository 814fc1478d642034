/-
  Objects numbered anew: what is told of a state is told of one whose objects bear other numbers.
-/
import Derived.Test.YtdeiphgjcmmeoaaAmLF
namespace Go.Am
set_option linter.unusedSimpArgs false
set_option linter.unusedVariables false
open Go.RowKit

section
variable {W0 : World} {C : Corr} {nx nx1 nx2 : Nat} {H H1 H2 : Heap} {w : World} {σ : Nat → Nat}

def liveA (H : Heap) (a : Addr) : Bool := match H a.block with | some o => decide (o.tag = a.spot) | none => false

theorem liveA_iff {H : Heap} {a : Addr} : liveA H a = true ↔ live H a := by
  unfold liveA live
  cases H a.block with
  | none => simp
  | some o => simp

def ltS (nx : Nat) (s : Option Nat) : Bool := match s with | some t => Nat.blt t nx | none => true
def eszAt (H : Heap) (b : Nat) : Nat := match H b with | some o => o.esz | none => 0
def bare (H : Heap) (r : Nat) : Bool := match H r with | some o => decide (o.tag = none) | none => false

/-- The place a of the one, b of the other: the same, or dead there. -/
def okPair (H1 H2 : Heap) (σ : Nat → Nat) (nx2 : Nat) (a b : Addr) : Bool :=
  Nat.beq a.off b.off && Nat.blt b.block nx2 && ltS nx2 b.spot &&
    (!liveA H2 b || (liveA H1 a && Nat.beq (σ b.block) a.block && (a.spot.isSome == b.spot.isSome) && Nat.beq (eszAt H1 a.block) (eszAt H2 b.block)))

def okRef (H1 H2 : Heap) (σ : Nat → Nat) (nx2 r s : Nat) : Bool := Nat.blt s nx2 && (!bare H2 s || (bare H1 r && Nat.beq (σ s) r))

def eqLn (f : Value → Value → Bool) : List Value → List Value → Bool
  | [], [] => true
  | a :: l, b :: l' => f a b && eqLn f l l'
  | _, _ => false

def fnEq : Fn → Fn → Bool
  | .func f, .func g => Nat.beq f g
  | _, _ => false

def eqVn (H1 H2 : Heap) (σ : Nat → Nat) (nx2 : Nat) : Nat → Value → Value → Bool
  | 0, _, _ => false
  | n + 1, u, v =>
    match u, v with
    | .pointer (some a), .pointer (some b) => okPair H1 H2 σ nx2 a b
    | .slice (some a) l c, .slice (some b) l' c' => Nat.beq l l' && Nat.beq c c' && okPair H1 H2 σ nx2 a b
    | .map (some r), .map (some s) => okRef H1 H2 σ nx2 r s
    | .chan (some r), .chan (some s) => okRef H1 H2 σ nx2 r s
    | .func f a b, .func g a' b' => fnEq f g && eqLn (eqVn H1 H2 σ nx2 n) a.toList a'.toList && eqLn (eqVn H1 H2 σ nx2 n) b.toList b'.toList
    | .iface t x, .iface s y => Nat.beq t s && eqVn H1 H2 σ nx2 n x y
    | .agg a, .agg b => eqLn (eqVn H1 H2 σ nx2 n) a.toList b.toList
    | .tuple a, .tuple b => eqLn (eqVn H1 H2 σ nx2 n) a.toList b.toList
    | u, v => plain1 u && veq1 u v

/-- The places, by the numbers of the other. -/
def Corr.ren (C : Corr) (σ : Nat → Nat) : Corr := ⟨fun j => C.loc (σ j), fun j => C.siz (σ j), C.pin⟩

theorem plain_VR_any {nx nx2 : Nat} {H H2 : Heap} {C C2 : Corr} {u v : Value} (h : plain1 u = true) (hv : VR nx H C u v) : VR nx2 H2 C2 u v := by
  cases hv <;> first | (constructor; done) | (simp [plain1] at h; done)

theorem eqLn_spec {f : Value → Value → Bool} : ∀ {a b : List Value}, eqLn f a b = true → a.length = b.length ∧ ∀ (i : Nat) (h : i < a.length) (h' : i < b.length), f a[i] b[i] = true := by
  intro a
  induction a with
  | nil => intro b h; cases b with
    | nil => exact ⟨rfl, fun i h => absurd h (by simp)⟩
    | cons x y => simp [eqLn] at h
  | cons x l ih =>
    intro b h
    cases b with
    | nil => simp [eqLn] at h
    | cons y l' =>
      simp only [eqLn, Bool.and_eq_true] at h
      obtain ⟨h1, h2⟩ := ih h.2
      refine ⟨by simp [h1], fun i a b => ?_⟩
      cases i with
      | zero => exact h.1
      | succ i => exact h2 i (by simpa using a) (by simpa using b)

theorem okPair_spec {a b : Addr} (h : okPair H1 H2 σ nx2 a b = true) : okA nx2 b ∧ a.off = b.off ∧ (live H2 b → live H1 a ∧ σ b.block = a.block ∧ (a.spot.isSome = b.spot.isSome) ∧ eszAt H1 a.block = eszAt H2 b.block) := by
  unfold okPair at h
  simp only [Bool.and_eq_true, Bool.or_eq_true, Bool.not_eq_true', beq_iff_eq] at h
  obtain ⟨⟨⟨h1, h2⟩, h3⟩, h4⟩ := h
  refine ⟨⟨by rw [Nat.blt_eq] at h2; exact h2, fun t ht => ?_⟩, Nat.eq_of_beq_eq_true h1, fun hl => ?_⟩
  · rw [ht] at h3
    simp only [ltS, Nat.blt_eq] at h3
    exact h3
  · rcases h4 with h4 | ⟨⟨⟨q1, q2⟩, q3⟩, q4⟩
    · rw [liveA_iff.2 hl] at h4; cases h4
    · exact ⟨liveA_iff.1 q1, Nat.eq_of_beq_eq_true q2, q3, Nat.eq_of_beq_eq_true q4⟩

theorem bare_iff {H : Heap} {r : Nat} : bare H r = true ↔ ∃ o, H r = some o ∧ o.tag = none := by
  unfold bare
  cases H r with
  | none => simp
  | some o => simp

theorem okRef_spec {r s : Nat} (h : okRef H1 H2 σ nx2 r s = true) : s < nx2 ∧ ∀ o, H2 s = some o → o.tag = none → (∃ o1, H1 r = some o1 ∧ o1.tag = none) ∧ σ s = r := by
  unfold okRef at h
  simp only [Bool.and_eq_true, Bool.or_eq_true, Bool.not_eq_true'] at h
  obtain ⟨h1, h2⟩ := h
  refine ⟨by rw [Nat.blt_eq] at h1; exact h1, fun o ho ht => ?_⟩
  rcases h2 with h2 | ⟨q1, q2⟩
  · rw [bare_iff.2 ⟨o, ho, ht⟩] at h2; cases h2
  · exact ⟨bare_iff.1 q1, Nat.eq_of_beq_eq_true q2⟩

theorem eqVn_sound : ∀ (n : Nat) (u v x : Value), eqVn H1 H2 σ nx2 n u v = true → VR nx1 H1 C u x → VR nx2 H2 (C.ren σ) v x := by
  intro n
  induction n with
  | zero => intro u v x h; simp [eqVn] at h
  | succ n ih =>
    intro u v x h hv
    have rows : ∀ {a a' : List Value} {b : List Value}, eqLn (eqVn H1 H2 σ nx2 n) a a' = true → VRs nx1 H1 C a b → VRs nx2 H2 (C.ren σ) a' b := fun h hv => by
      obtain ⟨h1, h2⟩ := eqLn_spec h
      exact ⟨h1.symm.trans hv.1, fun i p q => ih _ _ _ (h2 i (by rw [h1]; exact p) p) (hv.2 i (by rw [h1]; exact p) q)⟩
    unfold eqVn at h
    split at h
    · rename_i a b
      obtain ⟨h1, h2, h3⟩ := okPair_spec h
      cases hv with
      | ptr _ x k1 k2 =>
        refine .ptr _ _ h1 fun hl => ?_
        obtain ⟨q1, q2, _⟩ := h3 hl
        rw [k2 q1]
        simp [Corr.at, Corr.ren, q2, h2]
    · rename_i a l c b l' c'
      simp only [Bool.and_eq_true] at h
      obtain ⟨⟨e1, e2⟩, h⟩ := h
      obtain rfl := Nat.eq_of_beq_eq_true e1
      obtain rfl := Nat.eq_of_beq_eq_true e2
      obtain ⟨h1, h2, h3⟩ := okPair_spec h
      cases hv with
      | slc _ _ _ x cap' k1 k2 =>
        refine .slc _ _ _ _ _ h1 fun o ho ht => ?_
        obtain ⟨⟨o1, ho1, ht1⟩, q2, q3, q4⟩ := h3 ⟨o, ho, ht⟩
        obtain ⟨k3, k4⟩ := k2 o1 ho1 ht1
        refine ⟨by rw [k3]; simp [Corr.at, Corr.ren, q2, h2], ?_⟩
        have hesz : o1.esz = o.esz := by simpa [eszAt, ho1, ho] using q4
        unfold capOk at k4 ⊢
        cases hs : b.spot with
        | none =>
          have : a.spot = none := by rw [hs] at q3; cases ha : a.spot with
            | none => rfl
            | some t => rw [ha] at q3; cases q3
          rw [this] at k4
          exact k4
        | some t =>
          obtain ⟨t', ht'⟩ : ∃ t', a.spot = some t' := by
            cases ha : a.spot with
            | none => rw [ha, hs] at q3; cases q3
            | some t' => exact ⟨t', rfl⟩
          rw [ht'] at k4
          simp only [Corr.ren]
          rw [q2, ← hesz, ← h2]
          exact k4
    · rename_i r s
      obtain ⟨h1, h2⟩ := okRef_spec h
      cases hv with
      | map _ x k1 k2 =>
        refine .map _ _ h1 fun o ho ht => ?_
        obtain ⟨⟨o1, q1, q2⟩, q3⟩ := h2 o ho ht
        rw [k2 o1 q1 q2]
        simp [Corr.ren, q3]
    · rename_i r s
      obtain ⟨h1, h2⟩ := okRef_spec h
      cases hv with
      | yld _ x k1 k2 =>
        refine .yld _ _ h1 fun o ho ht => ?_
        obtain ⟨⟨o1, q1, q2⟩, q3⟩ := h2 o ho ht
        rw [k2 o1 q1 q2]
        simp [Corr.ren, q3]
    · rename_i f a b g a' b'
      simp only [Bool.and_eq_true] at h
      obtain ⟨⟨h1, h2⟩, h3⟩ := h
      have hfg : f = g := by
        unfold fnEq at h1
        split at h1
        · rw [Nat.eq_of_beq_eq_true h1]
        · cases h1
      subst hfg
      cases hv with
      | func _ _ x _ y p1 p2 p3 p4 =>
        obtain ⟨r1, r2⟩ := rows h2 (agg_VRs p1 p3)
        obtain ⟨r3, r4⟩ := rows h3 (agg_VRs p2 p4)
        exact .func _ _ _ _ _ (by simpa using r1) (by simpa using r3) (fun i p q => r2 i (by simpa using p) (by simpa using q)) (fun i p q => r4 i (by simpa using p) (by simpa using q))
    · rename_i t x0 s y0
      simp only [Bool.and_eq_true] at h
      obtain rfl := Nat.eq_of_beq_eq_true h.1
      cases hv with
      | iface _ _ z hz => exact .iface _ _ _ (ih _ _ _ h.2 hz)
    · rename_i a b
      cases hv with
      | agg _ x p1 p3 =>
        obtain ⟨r1, r2⟩ := rows h (agg_VRs p1 p3)
        exact .agg _ _ (by simpa using r1) (fun i p q => r2 i (by simpa using p) (by simpa using q))
    · rename_i a b
      cases hv with
      | tuple _ x p1 p3 =>
        obtain ⟨r1, r2⟩ := rows h (agg_VRs p1 p3)
        exact .tuple _ _ (by simpa using r1) (fun i p q => r2 i (by simpa using p) (by simpa using q))
    · simp only [Bool.and_eq_true] at h
      rw [← veq1_spec h.2]
      exact plain_VR_any h.1 hv

def eqEn (f : Value → Value → Bool) : List (Value × Value) → List (Value × Value) → Bool
  | [], [] => true
  | x :: l, y :: l' => f x.1 y.1 && f x.2 y.2 && eqEn f l l'
  | _, _ => false

theorem eqEn_spec {f : Value → Value → Bool} : ∀ {a b : List (Value × Value)}, eqEn f a b = true → a.length = b.length ∧ ∀ (i : Nat) (h : i < a.length) (h' : i < b.length), f a[i].1 b[i].1 = true ∧ f a[i].2 b[i].2 = true := by
  intro a
  induction a with
  | nil => intro b h; cases b with
    | nil => exact ⟨rfl, fun i h => absurd h (by simp)⟩
    | cons x y => simp [eqEn] at h
  | cons x l ih =>
    intro b h
    cases b with
    | nil => simp [eqEn] at h
    | cons y l' =>
      simp only [eqEn, Bool.and_eq_true] at h
      obtain ⟨⟨h0, h1⟩, h2⟩ := h
      obtain ⟨h3, h4⟩ := ih h2
      refine ⟨by simp [h3], fun i a b => ?_⟩
      cases i with
      | zero => exact ⟨h0, h1⟩
      | succ i => exact h4 i (by simpa using a) (by simpa using b)

/-- An object, and the same with other numbers in it; its own tag below the next number. -/
def eqOn (H1 H2 : Heap) (σ : Nat → Nat) (nx2 : Nat) (o p : AObj) : Bool :=
  match o, p with
  | .cells c e t r q, .cells c' e' t' r' q' => eqLn (eqVn H1 H2 σ nx2 8) c c' && Nat.beq e e' && (t.isSome == t'.isSome) && ltS nx2 t' && (r == r') && decide (q = q')
  | .map es bs k, .map es' bs' k' => eqEn (eqVn H1 H2 σ nx2 8) es es' && decide (bs = bs') && Nat.beq k k'
  | .siter s p, .siter s' p' => decide (s.data.toList = s'.data.toList) && Nat.beq p p'
  | .miter m a b c, .miter m' a' b' c' => eqVn H1 H2 σ nx2 1 (.map m) (.map m') && Nat.beq a a' && decide (b = b') && Nat.beq c c'
  | _, _ => false

theorem eqOn_sound {o p : AObj} {j : Nat} (h : eqOn H1 H2 σ nx2 o p = true) (ho : ORel nx1 H1 C w (σ j) o) : ORel nx2 H2 (C.ren σ) w j p ∧ (∀ t, p.tag = some t → t < nx2) ∧ p.ro = o.ro ∧ p.esz = o.esz ∧ (p.tag.isSome = o.tag.isSome) := by
  unfold eqOn at h
  split at h
  · rename_i c e t r q c' e' t' r' q'
    simp only [Bool.and_eq_true, beq_iff_eq, decide_eq_true_eq] at h
    obtain ⟨⟨⟨⟨⟨h1, h2⟩, h3⟩, h4⟩, h5⟩, h6⟩ := h
    obtain rfl := Nat.eq_of_beq_eq_true h2
    subst h5
    subst h6
    obtain ⟨Cc, el, fr, k1, k2, k3, k4, k5, k6, k7, k8⟩ := ho
    obtain ⟨g1, g2⟩ := eqLn_spec h1
    refine ⟨⟨Cc, el, fr, k1, k2, by simp only [Corr.ren]; rw [← g1]; exact k3, fun i a b => eqVn_sound 8 _ _ _ (g2 i (by rw [g1]; exact a) a) (k4 i (by rw [g1]; exact a) b), k5, k6, fun hr ht => ?_, k8⟩, fun t0 ht => ?_, rfl, rfl, h3.symm⟩
    · have : t = none := by
        cases t with
        | none => rfl
        | some x => rw [ht] at h3; cases h3
      obtain ⟨z1, z2⟩ := k7 hr this
      exact ⟨z1, by rw [← g1]; exact z2⟩
    · have ht' : t' = some t0 := ht
      rw [ht'] at h4
      simp only [ltS, Nat.blt_eq] at h4
      exact h4
  · rename_i es bs k es' bs' k'
    simp only [Bool.and_eq_true, decide_eq_true_eq] at h
    obtain ⟨⟨h1, h2⟩, h3⟩ := h
    obtain rfl := Nat.eq_of_beq_eq_true h3
    subst h2
    obtain ⟨es0, k1, k2, k3, k4⟩ := ho
    obtain ⟨g1, g2⟩ := eqEn_spec h1
    exact ⟨⟨es0, k1, by rw [← g1]; exact k2, fun i a b => ⟨eqVn_sound 8 _ _ _ (g2 i (by rw [g1]; exact a) a).1 (k3 i (by rw [g1]; exact a) b).1, eqVn_sound 8 _ _ _ (g2 i (by rw [g1]; exact a) a).2 (k3 i (by rw [g1]; exact a) b).2⟩, k4⟩,
      fun t ht => (by cases ht), rfl, rfl, rfl⟩
  · rename_i s p s' p'
    simp only [Bool.and_eq_true, decide_eq_true_eq] at h
    obtain rfl := Nat.eq_of_beq_eq_true h.2
    have : s = s' := by
      obtain ⟨⟨s⟩⟩ := s
      obtain ⟨⟨s'⟩⟩ := s'
      have := h.1
      simp only at this
      rw [this]
    subst this
    exact ⟨ho, fun t ht => (by cases ht), rfl, rfl, rfl⟩
  · rename_i m a b c m' a' b' c'
    simp only [Bool.and_eq_true, decide_eq_true_eq] at h
    obtain ⟨⟨⟨h1, h2⟩, h3⟩, h4⟩ := h
    obtain rfl := Nat.eq_of_beq_eq_true h2
    obtain rfl := Nat.eq_of_beq_eq_true h4
    subst h3
    obtain ⟨m0, k1, k2, k3⟩ := ho
    exact ⟨⟨m0, k1, k2, eqVn_sound 1 _ _ _ h1 k3⟩, fun t ht => (by cases ht), rfl, rfl, rfl⟩
  · cases h


/-- **NUMBERED ANEW**: all that is told of the one is told of the other. -/
theorem renum_core {nx0 : Nat} {H0 : Heap} {C0 : Corr} {v v2 v' : Value} (hR : Rel W0 C nx1 H1 w) (hv : VR nx1 H1 C v v') (hS : Stp nx0 H0 C0 nx1 H1 C) (hng : NG ≤ nx0) (hle : nx0 ≤ nx2) (hval : eqVn H1 H2 σ nx2 8 v v2 = true)
    (hobj : ∀ j p, H2 j = some p → j < nx2 ∧ ∃ o, H1 (σ j) = some o ∧ eqOn H1 H2 σ nx2 o p = true) (hinj : ∀ i j pi pj, H2 i = some pi → H2 j = some pj → σ i = σ j → i = j) (hlow : ∀ j, j < nx0 → σ j = j)
    (htag : ∀ j p o, j < nx0 → H2 j = some p → H1 j = some o → p.tag = o.tag ∨ ∃ t, p.tag = some t ∧ nx0 ≤ t) (hlp : ∀ m, m < nx0 → isLoop (H1 m) = false) :
    Rel W0 (C.ren σ) nx2 H2 w ∧ VR nx2 H2 (C.ren σ) v2 v' ∧ Stp nx0 H0 C0 nx2 H2 (C.ren σ) := by
  refine ⟨⟨hR.below, fun j p hp => ?_, fun j p hp => ?_, fun j p hp hro => ?_, fun i j pi pj hi hj hne hro => ?_, hR.pin, Nat.le_trans hng hle, fun g p hg hp => ?_, fun j p hp => ?_⟩, eqVn_sound 8 _ _ _ hval hv, ⟨⟨hle, fun id p hid hp ht => ?_⟩, hS.pin, fun id hid hl => ?_⟩⟩
  · obtain ⟨h1, o, ho, he⟩ := hobj j p hp
    exact ⟨h1, (eqOn_sound he (hR.obj _ _ ho)).2.1⟩
  · obtain ⟨h1, o, ho, he⟩ := hobj j p hp
    exact (eqOn_sound he (hR.obj _ _ ho)).1
  · obtain ⟨h1, o, ho, he⟩ := hobj j p hp
    have := (eqOn_sound he (hR.obj _ _ ho)).2.2.1
    exact hR.own _ o ho (by rw [← this]; exact hro)
  · obtain ⟨h1, o, ho, he⟩ := hobj i pi hi
    obtain ⟨g1, o', ho', he'⟩ := hobj j pj hj
    have := (eqOn_sound he (hR.obj _ _ ho)).2.2.1
    exact hR.sep _ _ o o' ho ho' (fun e => hne (hinj i j pi pj hi hj e)) (by rw [← this]; exact hro)
  · obtain ⟨h1, o, ho, he⟩ := hobj g p hp
    have hs := hlow g (Nat.lt_of_lt_of_le hg hng)
    rw [hs] at ho
    have q := (eqOn_sound (by have := he; exact this) (hR.obj _ _ (by rw [hs]; exact ho))).2.2.1
    obtain ⟨a, b⟩ := hR.glob g o hg ho
    exact ⟨by rw [q]; exact a, by simp only [Corr.ren]; rw [hs]; exact b⟩
  · obtain ⟨_, o, ho, _⟩ := hobj j p hp
    exact hR.apin _ o ho
  · obtain ⟨h1, o, ho, he⟩ := hobj id p hp
    have hs := hlow id hid
    have q := eqOn_sound he (hR.obj _ _ ho)
    rw [hs] at ho
    rcases htag id p o hid hp ho with e | ⟨t, e, hge⟩
    · obtain ⟨o0, k1, k2, k3, k4, k5⟩ := hS.keep id o hid ho (fun t h => ht t (by rw [e]; exact h))
      exact ⟨o0, k1, k2.trans e.symm, k3.trans q.2.2.2.1.symm, by simp only [Corr.ren]; rw [hs]; exact k4, by simp only [Corr.ren]; rw [hs]; exact k5⟩
    · have := ht t e
      omega
  · have := (hS.fix id hid hl).1
    rw [hlp id hid] at this
    cases this

theorem ACalls.renum {P : Program} {f : FuncId} {args : List Value} {nx0 : Nat} {H0 : Heap} {Q Q' : Value → Nat → Heap → Prop} (h : ACalls P W0 f args nx0 H0 Q)
    (hq : ∀ v n1 G1, Q v n1 G1 → Q' v n1 G1 ∨ ∃ v2 n2 G2 τ, nx0 ≤ n2 ∧ eqVn G1 G2 τ n2 8 v v2 = true ∧ (∀ j p, G2 j = some p → j < n2 ∧ ∃ o, G1 (τ j) = some o ∧ eqOn G1 G2 τ n2 o p = true) ∧
      (∀ i j pi pj, G2 i = some pi → G2 j = some pj → τ i = τ j → i = j) ∧ (∀ j, j < nx0 → τ j = j) ∧ (∀ j p o, j < nx0 → G2 j = some p → G1 j = some o → p.tag = o.tag ∨ ∃ t, p.tag = some t ∧ nx0 ≤ t) ∧
      (∀ m, m < nx0 → isLoop (G1 m) = false) ∧ Q' v2 n2 G2) : ACalls P W0 f args nx0 H0 Q' := by
  intro C w args' hR ha
  refine (h C w args' hR ha).mono ?_
  rintro e w' ⟨v, v', C', n1, G1, he, hv, hR1, hvr, hS⟩
  rcases hq v n1 G1 hv with hq' | ⟨v2, n2, G2, τ, q1, q2, q3, q4, q5, q6, q7, q8⟩
  · exact ⟨v, v', C', n1, G1, he, hq', hR1, hvr, hS⟩
  · obtain ⟨a, b, c⟩ := renum_core hR1 hvr hS hR.base q1 q2 q3 q4 q5 q6 q7
    exact ⟨v2, v', _, n2, G2, he, q8, a, b, c⟩

end
end Go.Am
