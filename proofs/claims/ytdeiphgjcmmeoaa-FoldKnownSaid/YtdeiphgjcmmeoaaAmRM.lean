/-
  Objects numbered anew in the order in which they are reached: the numbering itself, and its check.
-/
import Derived.Test.YtdeiphgjcmmeoaaAmRN
namespace Go.Am
set_option linter.unusedSimpArgs false
set_option linter.unusedVariables false
open Go.RowKit
noncomputable section

def reachA (H : Tree AObj) (a : Addr) : List Nat := match H.get a.block with | some o => if beqON o.tag a.spot then [a.block] else [] | none => []

/-- What a value leads to: the places that are there still. -/
def reachV (H : Tree AObj) : Nat → Value → List Nat
  | 0, _ => []
  | n + 1, v =>
    match v with
    | .pointer (some a) => reachA H a
    | .slice (some a) _ _ => reachA H a
    | .map (some r) => [r]
    | .chan (some r) => [r]
    | .func _ a b => (a.toList ++ b.toList).flatMap (reachV H n)
    | .iface _ v => reachV H n v
    | .agg a => a.toList.flatMap (reachV H n)
    | .tuple a => a.toList.flatMap (reachV H n)
    | _ => []

def reachO (H : Tree AObj) : AObj → List Nat
  | .cells c _ _ _ _ => c.flatMap (reachV H 8)
  | .map es _ _ => es.flatMap fun x => reachV H 8 x.1 ++ reachV H 8 x.2
  | .siter _ _ => []
  | .miter (some m) _ _ _ => [m]
  | .miter none _ _ _ => []
  | .loop _ _ _ _ _ _ _ => []

/-- What is reached, in that order: the new numbers by the old ones, the old ones newest first, how many are new. -/
def numG (H : Tree AObj) (nx0 : Nat) : Nat → List Nat → Tree Nat → List Nat → Nat → Tree Nat × List Nat × Nat
  | 0, _, f, l, k => (f, l, k)
  | _ + 1, [], f, l, k => (f, l, k)
  | n + 1, x :: w, f, l, k =>
    match f.get x with
    | some _ => numG H nx0 n w f l k
    | none =>
      match H.get x with
      | some o => cond (Nat.blt x nx0) (numG H nx0 n (reachO H o ++ w) (f.set x x) l k) (numG H nx0 n (reachO H o ++ w) (f.set x (nx0 + k)) (x :: l) (k + 1))
      | none => numG H nx0 n w f l k

def renT (nx0 : Nat) : Option Nat → Option Nat
  | some t => cond (Nat.blt t nx0) (some t) (some nx0)
  | none => none

def renA (H : Tree AObj) (f : Tree Nat) (nx0 junk : Nat) (a : Addr) : Addr :=
  match H.get a.block with
  | some o => cond (beqON o.tag a.spot) (match f.get a.block with | some b => ⟨b, a.off, renT nx0 a.spot⟩ | none => ⟨junk, a.off, none⟩) ⟨junk, a.off, none⟩
  | none => ⟨junk, a.off, none⟩

def renN (f : Tree Nat) (junk r : Nat) : Nat := match f.get r with | some b => b | none => junk

def renV (H : Tree AObj) (f : Tree Nat) (nx0 junk : Nat) : Nat → Value → Value
  | 0, v => v
  | n + 1, v =>
    match v with
    | .pointer (some a) => .pointer (some (renA H f nx0 junk a))
    | .slice (some a) l c => .slice (some (renA H f nx0 junk a)) l c
    | .map (some r) => .map (some (renN f junk r))
    | .chan (some r) => .chan (some (renN f junk r))
    | .func g a b => .func g ⟨a.toList.map (renV H f nx0 junk n)⟩ ⟨b.toList.map (renV H f nx0 junk n)⟩
    | .iface t v => .iface t (renV H f nx0 junk n v)
    | .agg a => .agg ⟨a.toList.map (renV H f nx0 junk n)⟩
    | .tuple a => .tuple ⟨a.toList.map (renV H f nx0 junk n)⟩
    | v => v

def renO (H : Tree AObj) (f : Tree Nat) (nx0 junk : Nat) : AObj → AObj
  | .cells c e t r q => .cells (c.map (renV H f nx0 junk 8)) e (renT nx0 t) r q
  | .map es bs k => .map (es.map fun x => (renV H f nx0 junk 8 x.1, renV H f nx0 junk 8 x.2)) bs k
  | .miter (some m) a b c => .miter (some (renN f junk m)) a b c
  | o => o

/-- The rows of those below a number, then of the new ones. -/
def lowR (H : Tree AObj) (f : Tree Nat) (nx0 junk : Nat) : Nat → Nat → List (Nat × AObj)
  | _, 0 => []
  | i, k + 1 =>
    match H.get i with
    | some o => (i, renO H f nx0 junk o) :: lowR H f nx0 junk (i + 1) k
    | none => lowR H f nx0 junk (i + 1) k

def newR (H : Tree AObj) (f : Tree Nat) (nx0 junk : Nat) : List Nat → List (Nat × AObj) → List (Nat × AObj)
  | [], acc => acc
  | r :: l, acc =>
    match H.get r with
    | some o => newR H f nx0 junk l ((renN f junk r, renO H f nx0 junk o) :: acc)
    | none => newR H f nx0 junk l acc

def backT (f : Tree Nat) (junk : Nat) : List Nat → Tree Nat → Tree Nat
  | [], b => b
  | r :: l, b => backT f junk l (b.set (renN f junk r) r)

def sigT (nx0 : Nat) (b : Tree Nat) (j : Nat) : Nat := cond (Nat.blt j nx0) j (match b.get j with | some r => r | none => 0)

def okTag (nx0 : Nat) (t t' : Option Nat) : Bool := match t' with | some x => Nat.ble nx0 x || beqON t (some x) | none => t.isNone

def okRow (H1 : Tree AObj) (H2 : Tree AObj) (σ : Nat → Nat) (f : Tree Nat) (nx0 nx2 : Nat) (x : Nat × AObj) : Bool :=
  Nat.blt x.1 nx2 && beqON (f.get (σ x.1)) (some x.1) &&
    match H1.get (σ x.1) with
    | some o => eqOn H1.get H2.get σ nx2 o x.2 && (Nat.ble nx0 x.1 || okTag nx0 o.tag x.2.tag)
    | none => false

/-- A state by the numbers of its order of reach; none where the check fails. -/
def renG (H : Tree AObj) (v : Value) (nx0 K : Nat) (bld : List (Nat × AObj) → Tree AObj) (q : Tree Nat × List Nat × Nat) : Option (Value × List (Nat × AObj)) :=
  let v2 := renV H q.1 nx0 (nx0 + K) 8 v
  let rows := lowR H q.1 nx0 (nx0 + K) 0 nx0 ++ newR H q.1 nx0 (nx0 + K) q.2.1 []
  let σ := sigT nx0 (backT q.1 (nx0 + K) q.2.1 .leaf)
  cond (eqVn H.get (bld rows).get σ (nx0 + K + 1) 8 v v2 && rows.all (okRow H (bld rows) σ q.1 nx0 (nx0 + K + 1))) (some (v2, rows)) none

theorem renG_spec {H : Tree AObj} {v : Value} {nx0 K : Nat} {bld : List (Nat × AObj) → Tree AObj} {q : Tree Nat × List Nat × Nat} {x : Value × List (Nat × AObj)} (hb : ∀ ks m o, (bld ks).get m = some o → (m, o) ∈ ks)
    (h : renG H v nx0 K bld q = some x) : ∃ τ : Nat → Nat, eqVn H.get (bld x.2).get τ (nx0 + K + 1) 8 v x.1 = true ∧ (∀ j p, (bld x.2).get j = some p → j < nx0 + K + 1 ∧ ∃ o, H.get (τ j) = some o ∧ eqOn H.get (bld x.2).get τ (nx0 + K + 1) o p = true) ∧
      (∀ i j pi pj, (bld x.2).get i = some pi → (bld x.2).get j = some pj → τ i = τ j → i = j) ∧ (∀ j, j < nx0 → τ j = j) ∧
      (∀ j p o, j < nx0 → (bld x.2).get j = some p → H.get j = some o → p.tag = o.tag ∨ ∃ t, p.tag = some t ∧ nx0 ≤ t) := by
  unfold renG at h
  simp only [Bool.cond_eq_ite] at h
  split at h
  case isFalse => cases h
  rename_i hc
  cases h
  simp only [Bool.and_eq_true] at hc
  obtain ⟨hv, hr⟩ := hc
  rw [List.all_eq_true] at hr
  have row : ∀ j p, (bld (lowR H q.1 nx0 (nx0 + K) 0 nx0 ++ newR H q.1 nx0 (nx0 + K) q.2.1 [])).get j = some p → j < nx0 + K + 1 ∧ q.1.get (sigT nx0 (backT q.1 (nx0 + K) q.2.1 .leaf) j) = some j ∧
      ∃ o, H.get (sigT nx0 (backT q.1 (nx0 + K) q.2.1 .leaf) j) = some o ∧ eqOn H.get (bld (lowR H q.1 nx0 (nx0 + K) 0 nx0 ++ newR H q.1 nx0 (nx0 + K) q.2.1 [])).get (sigT nx0 (backT q.1 (nx0 + K) q.2.1 .leaf)) (nx0 + K + 1) o p = true ∧
        (nx0 ≤ j ∨ okTag nx0 o.tag p.tag = true) := by
    intro j p hp
    have := hr _ (hb _ _ _ hp)
    unfold okRow at this
    simp only [Bool.and_eq_true] at this
    obtain ⟨⟨h1, h2⟩, h3⟩ := this
    refine ⟨by rw [Nat.blt_eq] at h1; exact h1, beqON_spec h2, ?_⟩
    split at h3
    · rename_i o ho
      simp only [Bool.and_eq_true, Bool.or_eq_true] at h3
      refine ⟨o, ho, h3.1, ?_⟩
      rcases h3.2 with h3 | h3
      · exact .inl (Nat.le_of_ble_eq_true h3)
      · exact .inr h3
    · cases h3
  have low : ∀ j, j < nx0 → sigT nx0 (backT q.1 (nx0 + K) q.2.1 .leaf) j = j := fun j hj => by
    unfold sigT
    rw [show Nat.blt j nx0 = true by rw [Nat.blt_eq]; exact hj]
    rfl
  refine ⟨sigT nx0 (backT q.1 (nx0 + K) q.2.1 .leaf), hv, fun j p hp => ?_, fun i j pi pj hi hj he => ?_, low, fun j p o hj hp ho => ?_⟩
  · obtain ⟨h1, _, o, h3, h4, _⟩ := row j p hp
    exact ⟨h1, o, h3, h4⟩
  · obtain ⟨_, h2, _⟩ := row i pi hi
    obtain ⟨_, g2, _⟩ := row j pj hj
    rw [he, g2] at h2
    cases h2
    rfl
  · obtain ⟨_, _, o', h3, h4, h5⟩ := row j p hp
    rw [low j hj, ho] at h3
    cases h3
    rcases h5 with h5 | h5
    · omega
    · unfold okTag at h5
      split at h5
      · rename_i t ht
        simp only [Bool.or_eq_true] at h5
        rcases h5 with h5 | h5
        · exact .inr ⟨t, ht, Nat.le_of_ble_eq_true h5⟩
        · rw [ht]
          exact .inl (beqON_spec h5).symm
      · rename_i ht
        rw [ht]
        left
        cases ho : o.tag with
        | none => rfl
        | some t => rw [ho] at h5; cases h5

/-! ### two ends side by side: nothing is renamed -/

def pairA (H2 : Tree AObj) (a b : Addr) : List (Nat × Nat) := match H2.get b.block with | some o => cond (beqON o.tag b.spot) [(a.block, b.block)] [] | none => []

def zipL (f : Value → Value → List (Nat × Nat)) : List Value → List Value → List (Nat × Nat)
  | a :: l, b :: l' => f a b ++ zipL f l l'
  | _, _ => []

def pairV (H2 : Tree AObj) : Nat → Value → Value → List (Nat × Nat)
  | 0, _, _ => []
  | n + 1, u, v =>
    match u, v with
    | .pointer (some a), .pointer (some b) => pairA H2 a b
    | .slice (some a) _ _, .slice (some b) _ _ => pairA H2 a b
    | .map (some r), .map (some s) => [(r, s)]
    | .chan (some r), .chan (some s) => [(r, s)]
    | .func _ a b, .func _ a' b' => zipL (pairV H2 n) a.toList a'.toList ++ zipL (pairV H2 n) b.toList b'.toList
    | .iface _ x, .iface _ y => pairV H2 n x y
    | .agg a, .agg b => zipL (pairV H2 n) a.toList b.toList
    | .tuple a, .tuple b => zipL (pairV H2 n) a.toList b.toList
    | _, _ => []

def zipE (f : Value → Value → List (Nat × Nat)) : List (Value × Value) → List (Value × Value) → List (Nat × Nat)
  | a :: l, b :: l' => f a.1 b.1 ++ (f a.2 b.2 ++ zipE f l l')
  | _, _ => []

def pairO (H2 : Tree AObj) (o p : AObj) : List (Nat × Nat) :=
  match o, p with
  | .cells c _ _ _ _, .cells c' _ _ _ _ => zipL (pairV H2 8) c c'
  | .map es _ _, .map es' _ _ => zipE (pairV H2 8) es es'
  | .miter (some m) _ _ _, .miter (some m') _ _ _ => [(m, m')]
  | _, _ => []

/-- The numbers of the one by those of the other, and the other way round. -/
def pairG (H1 H2 : Tree AObj) : Nat → List (Nat × Nat) → Tree Nat → Tree Nat → Tree Nat × Tree Nat
  | 0, _, b, f => (b, f)
  | _ + 1, [], b, f => (b, f)
  | n + 1, x :: w, b, f =>
    match b.get x.2 with
    | some _ => pairG H1 H2 n w b f
    | none =>
      match H1.get x.1, H2.get x.2 with
      | some o, some p => pairG H1 H2 n (pairO H2 o p ++ w) (b.set x.2 x.1) (f.set x.1 x.2)
      | _, _ => pairG H1 H2 n w b f

def lowP : Nat → Nat → List (Nat × Nat)
  | _, 0 => []
  | i, k + 1 => (i, i) :: lowP (i + 1) k

/-- All that is reached, as it is. -/
def keepN (H : Tree AObj) (t : Tree Nat) : Nat → Nat → List (Nat × AObj)
  | _, 0 => []
  | i, k + 1 =>
    match t.get i with
    | some _ =>
      match H.get i with
      | some o => (i, o) :: keepN H t (i + 1) k
      | none => keepN H t (i + 1) k
    | none => keepN H t (i + 1) k

theorem keepN_mem (H : Tree AObj) (t : Tree Nat) : ∀ (k i : Nat) (x : Nat × AObj), x ∈ keepN H t i k → H.get x.1 = some x.2 := by
  intro k
  induction k with
  | zero => intro i x h; simp [keepN] at h
  | succ k ih =>
    intro i x h
    simp only [keepN] at h
    split at h
    · split at h
      · rename_i o ho
        rcases List.mem_cons.1 h with rfl | h
        · exact ho
        · exact ih _ _ h
      · exact ih _ _ h
    · exact ih _ _ h

def okAll (H1 H2 : Tree AObj) (v v2 : Value) (rows : List (Nat × AObj)) (nx0 nx2 : Nat) (q : Tree Nat × Tree Nat) : Bool :=
  eqVn H1.get H2.get (sigT nx0 q.1) nx2 8 v v2 && rows.all (okRow H1 H2 (sigT nx0 q.1) q.2 nx0 nx2)

theorem okAll_spec {H1 H2 : Tree AObj} {v v2 : Value} {rows : List (Nat × AObj)} {nx0 nx2 : Nat} {q : Tree Nat × Tree Nat} (hb : ∀ j p, H2.get j = some p → (j, p) ∈ rows) (h : okAll H1 H2 v v2 rows nx0 nx2 q = true) :
    ∃ τ : Nat → Nat, eqVn H1.get H2.get τ nx2 8 v v2 = true ∧ (∀ j p, H2.get j = some p → j < nx2 ∧ ∃ o, H1.get (τ j) = some o ∧ eqOn H1.get H2.get τ nx2 o p = true) ∧
      (∀ i j pi pj, H2.get i = some pi → H2.get j = some pj → τ i = τ j → i = j) ∧ (∀ j, j < nx0 → τ j = j) ∧
      (∀ j p o, j < nx0 → H2.get j = some p → H1.get j = some o → p.tag = o.tag ∨ ∃ t, p.tag = some t ∧ nx0 ≤ t) := by
  unfold okAll at h
  simp only [Bool.and_eq_true] at h
  obtain ⟨hv, hr⟩ := h
  rw [List.all_eq_true] at hr
  have row : ∀ j p, H2.get j = some p → j < nx2 ∧ q.2.get (sigT nx0 q.1 j) = some j ∧ ∃ o, H1.get (sigT nx0 q.1 j) = some o ∧ eqOn H1.get H2.get (sigT nx0 q.1) nx2 o p = true ∧ (nx0 ≤ j ∨ okTag nx0 o.tag p.tag = true) := by
    intro j p hp
    have := hr _ (hb _ _ hp)
    unfold okRow at this
    simp only [Bool.and_eq_true] at this
    obtain ⟨⟨h1, h2⟩, h3⟩ := this
    refine ⟨by rw [Nat.blt_eq] at h1; exact h1, beqON_spec h2, ?_⟩
    split at h3
    · rename_i o ho
      simp only [Bool.and_eq_true, Bool.or_eq_true] at h3
      refine ⟨o, ho, h3.1, ?_⟩
      rcases h3.2 with h3 | h3
      · exact .inl (Nat.le_of_ble_eq_true h3)
      · exact .inr h3
    · cases h3
  have low : ∀ j, j < nx0 → sigT nx0 q.1 j = j := fun j hj => by
    unfold sigT
    rw [show Nat.blt j nx0 = true by rw [Nat.blt_eq]; exact hj]
    rfl
  refine ⟨sigT nx0 q.1, hv, fun j p hp => ?_, fun i j pi pj hi hj he => ?_, low, fun j p o hj hp ho => ?_⟩
  · obtain ⟨h1, _, o, h3, h4, _⟩ := row j p hp
    exact ⟨h1, o, h3, h4⟩
  · obtain ⟨_, h2, _⟩ := row i pi hi
    obtain ⟨_, g2, _⟩ := row j pj hj
    rw [he, g2] at h2
    cases h2
    rfl
  · obtain ⟨_, _, o', h3, h4, h5⟩ := row j p hp
    rw [low j hj, ho] at h3
    cases h3
    rcases h5 with h5 | h5
    · omega
    · unfold okTag at h5
      split at h5
      · rename_i t ht
        simp only [Bool.or_eq_true] at h5
        rcases h5 with h5 | h5
        · exact .inr ⟨t, ht, Nat.le_of_ble_eq_true h5⟩
        · rw [ht]
          exact .inl (beqON_spec h5).symm
      · rename_i ht
        rw [ht]
        left
        cases ho : o.tag with
        | none => rfl
        | some t => rw [ho] at h5; cases h5

end
end Go.Am
