import Derived.Test.YtmijhkclfoadaaaDoorQEM13
import Derived.Test.YtmijhkclfoadaaaDoorQEM26
namespace Go.Am
set_option linter.unusedSimpArgs false
set_option linter.unusedVariables false
open Go.RowKit
section
variable {P : Program} {W0 : World} {ops : Array Oper}
def Alt (ops : Array Oper) (isL isS isT : Nat → Bool) (ids : Nat → Nat) (i j : Nat) : Prop :=
  (isL j = true ∨ isS j = true) ∧ (∀ (p : Nat) (op : Oper), ops[p]? = some op → dep op j → ∃ n, depN ops n op i) ∧ (isS j = true → (isL i = true ∨ isT i = true) ∧ ids i ≠ ids j)
structure DrawnF (P : Program) (W0 : World) (ops : Array Oper) (st : ASt) (tms : Nat → Nat → Value) (vs : Nat → Value) (Hs : Nat → Heap) (ns : Nat → Nat) (isE isL isS isT : Nat → Bool) (ids : Nat → Nat) : Prop where
  t0 : tms 0 = st.tm
  h0 : Hs 0 = st.H
  n0 : ns 0 = st.nx
  tstep : ∀ (i : Nat) (o : Oper), ops[i]? = some o → tms (i + 1) = tmPut (tms i) o.dst (vs i)
  step : ∀ (i : Nat) (o : Oper), ops[i]? = some o → DStep P W0 ops (tms i) st.n (Hs i) (ns i) o (vs i) (Hs (i + 1)) (ns (i + 1))
  still : ∀ i, isE i = false → Hs (i + 1) = Hs i ∧ ns (i + 1) = ns i
  lex : ∀ (i : Nat) (o : Oper), ops[i]? = some o → ∀ j, dep o j → j < i
  one : ∀ (i j : Nat) (oi oj : Oper) (d : Tmp), ops[i]? = some oi → ops[j]? = some oj → oi.dst = some d → oj.dst = some d → i = j
  read : ∀ (i j : Nat) (oi oj : Oper) (t : Tmp), ops[i]? = some oi → ops[j]? = some oj → (t ∈ opTs oi ∨ gdst ops oi = some t) → oj.dst = some t → (j < i → dep oi j) ∧ (i < j → dep oj i)
  chain : ∀ (i j : Nat) (oj : Oper), isE i = true → isE j = true → ops[j]? = some oj → i < j → (∃ n, depN ops n oj i) ∨ Alt ops isL isS isT ids i j
  lay : ∀ (j : Nat) (oj : Oper), isL j = true → ops[j]? = some oj → layOp oj.op = true ∧ wantsT ops (tms j) oj = true ∧ ids j = ns j ∧ ∃ e, aop P (Hs j) (ns j) (evR (opTs oj) (tms j)) oj = some (vs j, e)
  sto : ∀ (j : Nat) (oj : Oper), isT j = true → ops[j]? = some oj → wantsT ops (tms j) oj = true ∧ ∃ obj, Hs (j + 1) = (Hs j).put (ids j) obj ∧ ns (j + 1) = ns j ∧
    ∀ (H : Heap) (nx : Nat), H (ids j) = Hs j (ids j) → aop P H nx (evR (opTs oj) (tms j)) oj = some (vs j, .upd (ids j) obj)
  stable : ∀ (i : Nat) (oi : Oper) (p : Nat), ops[i]? = some oi → isE i = false → wantsT ops (tms i) oi = true → (p = 0 ∨ ∃ e, p = e + 1 ∧ isE e = true) → p ≤ ops.size → (∀ j, isE j = true → dep oi j → j < p) →
    (∀ (e : Nat) (oe : Oper), isE e = true → e < p → ops[e]? = some oe → ∀ n, ¬ depN ops n oe i) → aop P (Hs p) (ns p) (evR (opTs oi) (tms i)) oi = some (vs i, .none)
  free : ∀ (i : Nat) (oi : Oper), ops[i]? = some oi → isE i = false → wantsT ops (tms i) oi = true → (∀ (H : Heap) (nx : Nat), aop P H nx (evR (opTs oi) (tms i)) oi = some (vs i, .none)) ∨ ∀ (e : Nat) (oe : Oper), isS e = true → ops[e]? = some oe → dep oe i ∨ dep oi e
  inE : ∀ i, isE i = true → i < ops.size
  lE : ∀ i, isL i = true → isE i = true
  sE : ∀ i, isS i = true → isE i = true
  nLS : ∀ i, isL i = true → isS i = false
  tS : ∀ i, isS i = true → isT i = true
variable {st : ASt} {tms : Nat → Nat → Value} {vs : Nat → Value} {Hs : Nat → Heap} {ns : Nat → Nat} {isE isL isS isT : Nat → Bool} {ids : Nat → Nat}
structure FInv (P : Program) (ops : Array Oper) (st : ASt) (tms : Nat → Nat → Value) (vs : Nat → Value) (Hs : Nat → Heap) (ns : Nat → Nat) (isE isL isS isT : Nat → Bool) (ids : Nat → Nat) (C0 : Corr) (bs : Nat → Nat)
    (listed : Array Bool) (tm : Nat → Value) (p : Nat) (Hc : Heap) (C : Corr) (a : Act) : Prop where
  size : listed.size = ops.size
  down : ∀ (i : Nat) (o : Oper), ops[i]? = some o → listed.getD i false = true → ∀ j, dep o j → listed.getD j false = true
  pin : p = 0 ∨ ∃ e, p = e + 1 ∧ isE e = true
  ple : p ≤ ops.size
  pE : ∀ e, isE e = true → e < p → listed.getD e false = true
  flo : ∀ e, isE e = true → listed.getD e false = true → p ≤ e → isL e = true ∨ isS e = true
  alt : ∀ e i, isE e = true → listed.getD e false = true → p ≤ e → isE i = true → p ≤ i → i < e → Alt ops isL isS isT ids i e
  put : ∀ (i : Nat) (o : Oper) (d : Tmp), ops[i]? = some o → o.dst = some d → listed.getD i false = true → (isL i = true ∧ p ≤ i) ∨ tm d = vs i
  old : ∀ t, (∀ (i : Nat) (o : Oper), ops[i]? = some o → o.dst = some t → listed.getD i false = false) → tm t = st.tm t
  ov : ∀ id, (∃ e, isS e = true ∧ listed.getD e false = true ∧ p ≤ e ∧ ids e = id ∧ Hc id = Hs (e + 1) id) ∨ ((∀ e, isS e = true → listed.getD e false = true → p ≤ e → ids e ≠ id) ∧ Hc id = Hs p id)
  pinned : ∀ (e : Nat) (oe : Oper), isL e = true → listed.getD e false = true → p ≤ e → ops[e]? = some oe → ∃ (cs cs' : List Value) (el : TypeId) (esz : Nat) (sh : Option (Nat × Nat)),
    aop P (Hs e) (ns e) (evR (opTs oe) (tms e)) oe = some (shV sh (ns e), .new (.cells cs esz none false (some el))) ∧ C.pin (bs e) = some (.cells cs'.toArray el) ∧ C0.pin (bs e) = none ∧ VRs (ns p) Hc C cs cs' ∧
    (∀ d, oe.dst = some d → a.tmps.getD d undef = shV sh (bs e))
  apart : ∀ e e', isL e = true → listed.getD e false = true → p ≤ e → isL e' = true → listed.getD e' false = true → p ≤ e' → e ≠ e' → bs e ≠ bs e'
def Norm (isE : Nat → Bool) (listed : Array Bool) (p : Nat) : Prop := (∀ e, p ≤ e → isE e = false) ∨ ∃ e, isE e = true ∧ p ≤ e ∧ listed.getD e false = false ∧ ∀ i, p ≤ i → i < e → isE i = false
theorem leastN {Q : Nat → Prop} (h : ∃ n, Q n) : ∃ n, Q n ∧ ∀ m, m < n → ¬ Q m := by
  obtain ⟨n, hn⟩ := h
  induction n using Nat.strongRecOn with
  | _ n ih =>
    by_cases hm : ∃ m, m < n ∧ Q m
    · obtain ⟨m, h1, h2⟩ := hm; exact ih m h1 h2
    · exact ⟨n, hn, fun m h1 h2 => hm ⟨m, h1, h2⟩⟩
theorem DrawnF.range (h : DrawnF P W0 ops st tms vs Hs ns isE isL isS isT ids) : ∀ (k p : Nat), (∀ j, p ≤ j → j < p + k → isE j = false) → Hs (p + k) = Hs p ∧ ns (p + k) = ns p := by
  intro k
  induction k with
  | zero => intro p _; exact ⟨rfl, rfl⟩
  | succ k ih =>
    intro p hp
    obtain ⟨a, b⟩ := ih p (fun j h1 h2 => hp j h1 (by omega))
    obtain ⟨c, d⟩ := h.still (p + k) (hp (p + k) (by omega) (by omega))
    exact ⟨by rw [← Nat.add_assoc, c, a], by rw [← Nat.add_assoc, d, b]⟩
theorem DrawnF.upto (h : DrawnF P W0 ops st tms vs Hs ns isE isL isS isT ids) {p q : Nat} (hle : p ≤ q) (hp : ∀ j, p ≤ j → j < q → isE j = false) : Hs q = Hs p ∧ ns q = ns p := by
  have := h.range (q - p) p (fun j h1 h2 => hp j h1 (by omega))
  rwa [show p + (q - p) = q by omega] at this
theorem DrawnF.tms_put (h : DrawnF P W0 ops st tms vs Hs ns isE isL isS isT ids) : ∀ i, i ≤ ops.size → (∀ (j : Nat) (o : Oper) (d : Tmp), j < i → ops[j]? = some o → o.dst = some d → tms i d = vs j) ∧ (∀ t, (∀ (j : Nat) (o : Oper), j < i → ops[j]? = some o → o.dst ≠ some t) → tms i t = st.tm t) := by
  intro i
  induction i with
  | zero => exact fun _ => ⟨fun j o d hj => by omega, fun t _ => by rw [h.t0]⟩
  | succ i ih =>
    intro hi
    obtain ⟨h1, h2⟩ := ih (by omega)
    have ho : ops[i]? = some ops[i] := by simp
    have ht := h.tstep i _ ho
    refine ⟨fun j o d hj hoj hd => ?_, fun t hn => ?_⟩
    · rw [ht]
      by_cases e : j = i
      · subst e
        rw [ho] at hoj
        cases hoj
        simp [tmPut, hd]
      · have hne : ops[i].dst ≠ some d := fun x => e (h.one _ _ _ _ d hoj ho hd x)
        have := h1 j o d (by omega) hoj hd
        cases hdi : ops[i].dst with
        | none => simpa [tmPut] using this
        | some d' =>
          have : d ≠ d' := fun x => hne (by rw [hdi, x])
          simp only [tmPut, this, if_false]
          exact h1 j o d (by omega) hoj hd
    · rw [ht]
      have hne := hn i _ (by omega) ho
      have := h2 t (fun j o hj hoj => hn j o (by omega) hoj)
      cases hdi : ops[i].dst with
      | none => simpa [tmPut] using this
      | some d' =>
        have hx : t ≠ d' := fun x => hne (by rw [hdi, x])
        simp only [tmPut, hx, if_false]
        exact this
theorem DrawnF.lays (h : DrawnF P W0 ops st tms vs Hs ns isE isL isS isT ids) {j : Nat} {oj : Oper} (hl : isL j = true) (ho : ops[j]? = some oj) : ∃ sh obj, vs j = shV sh (ns j) ∧ Hs (j + 1) = (Hs j).put (ns j) obj ∧ ns (j + 1) = ns j + 1 ∧
    ∀ H nx, aop P H nx (evR (opTs oj) (tms j)) oj = some (shV sh nx, .new obj) := by
  obtain ⟨h1, h2, _, e, h3⟩ := h.lay j oj hl ho
  obtain ⟨sh, obj, e1, e2, e3⟩ := lay_same h1 h3
  refine ⟨sh, obj, e1, ?_⟩
  have hs := (h.step j oj ho).2
  rw [e1, e2] at h3
  have nocall : ∀ f args, calleeE (evR (opTs oj) (tms j)) oj = some (f, args) → False := fun f args hc => by
    unfold calleeE at hc
    cases hop : oj.op <;> simp only [hop] at hc <;> try (cases hc; done)
    rw [hop] at h1; cases h1
  have nocallG : ∀ f args, calleeG (evR (opTs oj) (tms j)) oj = some (f, args) → False := fun f args hc => by
    unfold calleeG at hc
    cases hop : oj.op <;> simp only [hop] at hc <;> try (cases hc; done)
    rw [hop] at h1; cases h1
  rcases hs with ⟨w0, _⟩ | ⟨_, ⟨e', q1, q2, q3⟩ | ⟨f, args, q1, _⟩ | ⟨f, args, q1, _⟩⟩
  · rw [h2] at w0; cases w0
  · rw [h3] at q1
    simp only [Option.some.injEq, Prod.mk.injEq] at q1
    obtain ⟨_, rfl⟩ := q1
    exact ⟨q2, q3, e3⟩
  · exact (nocall f args q1).elim
  · exact (nocallG f args q1).elim
theorem FInv.norm (h : DrawnF P W0 ops st tms vs Hs ns isE isL isS isT ids) {C0 : Corr} {bs : Nat → Nat} {listed : Array Bool} {a : Act} {w : World} {G : Prop}
    (hG : ∀ tm p Hc C, FInv P ops st tms vs Hs ns isE isL isS isT ids C0 bs listed tm p Hc C a → Norm isE listed p → SRel W0 C ⟨tm, st.n, Hc, ns p⟩ a w → Stp st.nx st.H C0 (ns p) Hc C → G) :
    ∀ (k p : Nat) (tm : Nat → Value) (Hc : Heap) (C : Corr), ops.size - p ≤ k → FInv P ops st tms vs Hs ns isE isL isS isT ids C0 bs listed tm p Hc C a → SRel W0 C ⟨tm, st.n, Hc, ns p⟩ a w → Stp st.nx st.H C0 (ns p) Hc C → G := by
  intro k
  induction k with
  | zero =>
    intro p tm Hc C hk hi hs hS
    refine hG tm p Hc C hi (.inl fun e he => ?_) hs hS
    cases hE : isE e with
    | false => rfl
    | true => have := h.inE e hE; omega
  | succ k ih =>
    intro p tm Hc C hk hi hs hS
    by_cases hx : ∃ e, isE e = true ∧ p ≤ e
    case neg =>
      refine hG tm p Hc C hi (.inl fun e he => ?_) hs hS
      cases hE : isE e with
      | false => rfl
      | true => exact absurd ⟨e, hE, he⟩ hx
    obtain ⟨e, ⟨hE, hpe⟩, hmin⟩ := leastN hx
    have hfirst : ∀ i, p ≤ i → i < e → isE i = false := fun i h1 h2 => by
      cases hEi : isE i with
      | false => rfl
      | true => exact absurd ⟨hEi, h1⟩ (hmin i h2)
    cases hl : listed.getD e false with
    | false => exact hG tm p Hc C hi (.inr ⟨e, hE, hpe, hl, hfirst⟩) hs hS
    | true =>
      have hlt := h.inE e hE
      have ho : ops[e]? = some ops[e] := by simp
      obtain ⟨e1, e2⟩ := h.upto hpe hfirst
      have hpE' : ∀ i, isE i = true → i < e + 1 → listed.getD i false = true := fun i hEi hlt' => by
        by_cases c : i < p
        · exact hi.pE i hEi c
        · by_cases c2 : i = e
          · subst c2; exact hl
          · have := hfirst i (by omega) (by omega); rw [hEi] at this; cases this
      rcases hi.flo e hE hl hpe with hL | hSt
      · -- a row that lies there becomes an object
        obtain ⟨cs, cs', el, esz, sh, q1, q2, q3, q4, q5⟩ := hi.pinned e _ hL hl hpe ho
        obtain ⟨sh2, obj, v1, v2, v3, v4⟩ := h.lays hL ho
        have hx := v4 (Hs e) (ns e)
        rw [q1] at hx
        simp only [Option.some.injEq, Prod.mk.injEq, Eff.new.injEq] at hx
        obtain ⟨hx1, rfl⟩ := hx
        have hvs : vs e = shV sh (ns e) := by rw [v1, hx1]
        rw [e2] at hvs v2 v3
        have hidl : ids e = ns p := by rw [(h.lay e _ hL ho).2.2.1, e2]
        obtain ⟨r1, r2⟩ := hs.rel.adopt q2 q4 (esz := esz)
        have hvr := shV_new (nx := ns p) (H := Hc) (o := .cells cs esz none false (some el)) sh (C.re fun k => if k = bs e then none else C.pin k) (bs e) cs'.length
        have hlt1 : ∀ id o, Hc id = some o → id < ns p := fun id o hh => (hs.rel.lt id o hh).1
        refine ih (e + 1) (tmPut tm ops[e].dst (vs e)) (Hc.put (ns p) (.cells cs esz none false (some el))) ((C.re fun k => if k = bs e then none else C.pin k).put (ns p) (bs e, 0) cs'.length) (by omega) ?_ ?_ ?_
        · refine ⟨hi.size, hi.down, .inr ⟨e, rfl, hE⟩, by omega, hpE', fun i hEi hli hle => hi.flo i hEi hli (by omega), fun i j hEi hli hle hEj hlj hji => hi.alt i j hEi hli (by omega) hEj (by omega) hji, ?_, ?_, ?_, ?_, ?_⟩
          · intro i o d hoi hd hli
            by_cases c : i = e
            · subst c
              rw [ho] at hoi
              cases hoi
              right
              simp [tmPut, hd]
            · rcases hi.put i o d hoi hd hli with ⟨c1, c2⟩ | c1
              · left
                refine ⟨c1, ?_⟩
                by_cases c3 : e + 1 ≤ i
                · exact c3
                · have := hfirst i c2 (by omega)
                  rw [h.lE i c1] at this
                  cases this
              · right
                cases hdo : ops[e].dst with
                | none => simpa [tmPut] using c1
                | some d' =>
                  have hne : d ≠ d' := fun x => c (h.one i e o _ d hoi ho hd (by rw [hdo, x]))
                  simp only [tmPut, hne, if_false]
                  exact c1
          · intro t ht
            have hne : ops[e].dst ≠ some t := fun x => by
              have := ht e _ ho x
              rw [hl] at this; cases this
            have := hi.old t ht
            cases hdo : ops[e].dst with
            | none => simpa [tmPut] using this
            | some d' =>
              have hx : t ≠ d' := fun x => hne (by rw [hdo, x])
              simp only [tmPut, hx, if_false]
              exact this
          · intro id
            have hnoS : ∀ i, isS i = true → i ≠ e := fun i hSi x => by subst x; rw [h.nLS i hL] at hSi; cases hSi
            by_cases c : id = ns p
            · right
              refine ⟨fun i hSi hli hle => ?_, ?_⟩
              · have := (hi.alt i e (h.sE i hSi) hli (by omega) hE hpe (by omega)).2.2 hSi
                rw [c, ← hidl]
                exact fun x => this.2 x.symm
              · rw [v2, e1]; simp only [Heap.put, c, if_true]
            · rcases hi.ov id with ⟨i, g1, g2, g3, g4, g5⟩ | ⟨g1, g2⟩
              · left
                refine ⟨i, g1, g2, ?_, g4, by simp only [Heap.put, c, if_false]; exact g5⟩
                have := hnoS i g1
                by_cases c3 : e + 1 ≤ i
                · exact c3
                · have := hfirst i g3 (by omega)
                  rw [h.sE i g1] at this
                  cases this
              · right
                refine ⟨fun i hSi hli hle => g1 i hSi hli (by omega), ?_⟩
                rw [v2, e1]
                simp only [Heap.put, c, if_false]
                exact g2
          · intro i oi hLi hli hle hoi
            obtain ⟨ds, ds', el2, esz2, sh3, k1, k2, k3, k4, k5⟩ := hi.pinned i oi hLi hli (by omega) hoi
            have hne := hi.apart i e hLi hli (by omega) hL hl hpe (by omega)
            refine ⟨ds, ds', el2, esz2, sh3, k1, by simp only [Corr.put, Corr.re, hne, if_false]; exact k2, k3, ?_, k5⟩
            rw [v3]
            exact ⟨k4.1, fun i a b => (k4.2 i a b).mono0 r2⟩
          · intro i j hLi hli hle hLj hlj hlej hij
            exact hi.apart i j hLi hli (by omega) hLj hlj (by omega) hij
        · rw [v3]
          refine ⟨fun t => ?_, hs.sz, r1⟩
          show VR _ _ _ (tmPut tm ops[e].dst (vs e) t) _
          cases hdo : ops[e].dst with
          | none => exact (hs.tm t).mono0 r2
          | some d =>
            by_cases c : t = d
            · subst c
              simp only [tmPut, if_true]
              rw [q5 t hdo, hvs]
              exact hvr
            · simp only [tmPut, c, if_false]
              exact (hs.tm t).mono0 r2
        · rw [v3]
          refine ⟨hS.toStp0.trans r2, fun i o hio => ?_, fun id hid hlp => ?_⟩
          · have hne : i ≠ bs e := fun x => by rw [x, q3] at hio; cases hio
            simp only [Corr.put, Corr.re, hne, if_false]
            exact hS.pin i o hio
          · obtain ⟨g1, g2⟩ := hS.fix id hid hlp
            have hne : id ≠ ns p := by
              cases hq : Hc id with
              | none => rw [hq] at g1; cases g1
              | some o => have := hlt1 id o hq; omega
            exact ⟨by simp only [Heap.put, hne, if_false]; exact g1, by simp only [Corr.put, Corr.re, hne, if_false]; exact g2⟩
      · -- a store that came up is in its turn
        obtain ⟨_, obj, s1, s2, s3⟩ := h.sto e _ (h.tS e hSt) ho
        have hn2 : ns (e + 1) = ns p := by rw [s2, e2]
        refine ih (e + 1) tm Hc C (by omega) ?_ (by rw [hn2]; exact hs) (by rw [hn2]; exact hS)
        refine ⟨hi.size, hi.down, .inr ⟨e, rfl, hE⟩, by omega, hpE', fun i hEi hli hle => hi.flo i hEi hli (by omega), fun i j hEi hli hle hEj hlj hji => hi.alt i j hEi hli (by omega) hEj (by omega) hji, ?_, hi.old, ?_, ?_, ?_⟩
        · intro i o d hoi hd hli
          rcases hi.put i o d hoi hd hli with ⟨c1, c2⟩ | c1
          · left
            refine ⟨c1, ?_⟩
            by_cases c3 : e + 1 ≤ i
            · exact c3
            · by_cases c4 : i = e
              · subst c4; rw [h.nLS i c1] at hSt; cases hSt
              · have := hfirst i c2 (by omega)
                rw [h.lE i c1] at this
                cases this
          · exact .inr c1
        · intro id
          by_cases c : ids e = id
          · right
            refine ⟨fun i hSi hli hle => ?_, ?_⟩
            · have := (hi.alt i e (h.sE i hSi) hli (by omega) hE hpe (by omega)).2.2 hSi
              rw [← c]
              exact fun x => this.2 x.symm
            · rcases hi.ov id with ⟨i, g1, g2, g3, g4, g5⟩ | ⟨g1, g2⟩
              · by_cases ce : i = e
                · subst ce; exact g5
                · exfalso
                  have hie : e < i := by
                    by_cases c3 : e < i
                    · exact c3
                    · have := hfirst i g3 (by omega)
                      rw [h.sE i g1] at this
                      cases this
                  have := (hi.alt i e (h.sE i g1) g2 g3 hE hpe hie).2.2 g1
                  exact this.2 (by rw [c, g4])
              · exact absurd c (g1 e hSt hl hpe)
          · rcases hi.ov id with ⟨i, g1, g2, g3, g4, g5⟩ | ⟨g1, g2⟩
            · left
              refine ⟨i, g1, g2, ?_, g4, g5⟩
              by_cases c3 : e + 1 ≤ i
              · exact c3
              · by_cases c4 : i = e
                · subst c4; exact absurd g4 c
                · have := hfirst i g3 (by omega)
                  rw [h.sE i g1] at this
                  cases this
            · right
              refine ⟨fun i hSi hli hle => g1 i hSi hli (by omega), ?_⟩
              rw [s1, e1]
              have : id ≠ ids e := fun x => c x.symm
              simp only [Heap.put, this, if_false]
              exact g2
        · intro i oi hLi hli hle hoi
          rw [hn2]
          exact hi.pinned i oi hLi hli (by omega) hoi
        · intro i j hLi hli hle hLj hlj hlej hij
          exact hi.apart i j hLi hli (by omega) hLj hlj (by omega) hij
theorem act_put_ne {a : Act} {dst : Option Tmp} {v : Value} {d : Tmp} (h : dst ≠ some d) : (a.put dst v).tmps.getD d undef = a.tmps.getD d undef := by
  cases dst with
  | none => rfl
  | some d' =>
    have hne : d' ≠ d := fun e => h (by rw [e])
    simp only [Act.put]
    rw [Array.getD_eq_getD_getElem?, Array.getElem?_setIfInBounds_ne hne, ← Array.getD_eq_getD_getElem?]
theorem act_put_self {a : Act} {dst : Option Tmp} {v : Value} {d : Tmp} (h : dst = some d) (hd : d < a.tmps.size) : (a.put dst v).tmps.getD d undef = v := by
  subst h
  simp only [Act.put]
  rw [Array.getD_eq_getD_getElem?, Array.getElem?_setIfInBounds_self_of_lt hd]
  rfl
theorem countF {listed : Array Bool} {n i fuel : Nat} (hlt : i < n) (hlts : i < listed.size) (hun : listed.getD i false = false) (hf : ((List.range n).filter fun i => !listed.getD i false).length = fuel + 1) :
    ((List.range n).filter fun j => !(listed.setIfInBounds i true).getD j false).length = fuel := by
  have key : ∀ (l : List Nat), l.Nodup → i ∈ l → ((l.filter fun j => !(listed.setIfInBounds i true).getD j false).length + 1 = (l.filter fun j => !listed.getD j false).length) := by
    intro l
    induction l with
    | nil => intro _ hm; cases hm
    | cons x l ihl =>
      intro hnd hm
      rw [List.nodup_cons] at hnd
      by_cases e : x = i
      · subst e
        have hsame : (l.filter fun j => !(listed.setIfInBounds x true).getD j false) = (l.filter fun j => !listed.getD j false) := by
          apply List.filter_congr
          intro y hy
          rw [getD_set_ne false (fun z : x = y => hnd.1 (by rw [z]; exact hy))]
        rw [List.filter_cons, List.filter_cons]
        simp only [getD_set_self hlts, hun, Bool.not_true, Bool.not_false, Bool.false_eq_true, if_false, if_true, List.length_cons, hsame]
      · have hm' : i ∈ l := by
          cases hm with
          | head => exact absurd rfl e
          | tail _ hm => exact hm
        have := ihl hnd.2 hm'
        rw [List.filter_cons, List.filter_cons, getD_set_ne false (Ne.symm e)]
        split
        · simp only [List.length_cons]; omega
        · exact this
  have := key (List.range n) List.nodup_range (List.mem_range.2 hlt)
  omega
theorem readyF (hlex : ∀ (i : Nat) (o : Oper), ops[i]? = some o → ∀ j, dep o j → j < i) {listed : Array Bool} {fuel : Nat} (hsz : listed.size = ops.size) (hf : ((List.range ops.size).filter fun i => !listed.getD i false).length = fuel + 1) :
    ∃ i, i ∈ Region.ready .any ops listed := by
  have hex : ∃ i, i < ops.size ∧ listed.getD i false = false := by
    cases hl : (List.range ops.size).filter fun i => !listed.getD i false with
    | nil => rw [hl] at hf; simp at hf
    | cons i r =>
      have : i ∈ (List.range ops.size).filter fun i => !listed.getD i false := by rw [hl]; exact List.mem_cons_self ..
      obtain ⟨h1, h2⟩ := List.mem_filter.1 this
      exact ⟨i, List.mem_range.1 h1, by simpa using h2⟩
  obtain ⟨i, ⟨hlt, hun⟩, hmin⟩ := leastN hex
  have ho : ops[i]? = some ops[i] := by simp
  refine ⟨i, mem_ready.2 ⟨by rw [getD_lt (by rw [hsz]; exact hlt) true false]; exact hun, _, ho, fun e he hb => ?_⟩⟩
  have hei := hlex i _ ho e.on ⟨e, he, hb, rfl⟩
  cases hl : listed.getD e.on false with
  | true => rfl
  | false => exact absurd ⟨by omega, hl⟩ (hmin _ hei)
theorem reachF {listed : Array Bool} (hdown : ∀ (i : Nat) (o : Oper), ops[i]? = some o → listed.getD i false = true → ∀ j, dep o j → listed.getD j false = true) : ∀ (n : Nat) (o : Oper) (i : Nat), (∀ j, dep o j → listed.getD j false = true) → depN ops n o i → listed.getD i false = true := by
  intro n
  induction n with
  | zero => intro o i ha hd; exact ha i hd
  | succ n ihn =>
    intro o i ha hd
    rcases hd with hd | ⟨m, om, hom, hdm, hd⟩
    · exact ha i hd
    · exact ihn om i (fun j hj => hdown m om hom (ha m hdm) j hj) hd
variable {C0 : Corr} {bs : Nat → Nat} {listed : Array Bool} {tm : Nat → Value} {p : Nat} {Hc : Heap} {C : Corr} {a : Act} {w : World}
theorem FInv.nodep (hi : FInv P ops st tms vs Hs ns isE isL isS isT ids C0 bs listed tm p Hc C a) (hn : Norm isE listed p) : ∀ (n : Nat) (m : Nat) (om : Oper) (j : Nat), ops[m]? = some om → (∀ j, dep om j → listed.getD j false = true) → depN ops n om j → isE j = true → p ≤ j → False := by
  have base : ∀ (m : Nat) (om : Oper) (j : Nat), ops[m]? = some om → (∀ j, dep om j → listed.getD j false = true) → dep om j → isE j = true → p ≤ j → False := by
    intro m om j hom hall hd hE hpj
    have hl := hall j hd
    rcases hn with hn | ⟨e, h1, h2, h3, h4⟩
    · rw [hn j hpj] at hE; cases hE
    · have hej : e < j := by
        rcases Nat.lt_trichotomy e j with c | c | c
        · exact c
        · subst c; rw [h3] at hl; cases hl
        · rw [h4 j hpj c] at hE; cases hE
      obtain ⟨n, hd2⟩ := (hi.alt j e hE hl hpj h1 h2 hej).2.1 m om hom hd
      have := reachF hi.down n om e hall hd2
      rw [h3] at this; cases this
  intro n
  induction n with
  | zero => exact base
  | succ n ih =>
    intro m om j hom hall hd hE hpj
    rcases hd with hd | ⟨m2, om2, hom2, hdm, hd⟩
    · exact base m om j hom hall hd hE hpj
    · exact ih m2 om2 j hom2 (fun k hk => hi.down m2 om2 hom2 (hall m2 hdm) k hk) hd hE hpj
theorem FInv.reads (h : DrawnF P W0 ops st tms vs Hs ns isE isL isS isT ids) (hi : FInv P ops st tms vs Hs ns isE isL isS isT ids C0 bs listed tm p Hc C a) (hn : Norm isE listed p) {i : Nat} {o : Oper} (ho : ops[i]? = some o) (hun : listed.getD i false = false)
    (hall : ∀ j, dep o j → listed.getD j false = true) {t : Nat} (ht : t ∈ opTs o ∨ gdst ops o = some t) : tms i t = tm t := by
  have hlt : i < ops.size := (Array.getElem?_eq_some_iff.1 ho).1
  obtain ⟨h1, h2⟩ := h.tms_put i (by omega)
  by_cases hw : ∃ (j : Nat) (oj : Oper), ops[j]? = some oj ∧ oj.dst = some t
  · obtain ⟨j, oj, hj, hd⟩ := hw
    obtain ⟨r1, r2⟩ := h.read i j o oj t ho hj ht hd
    by_cases hji : j < i
    · rw [h1 j oj t hji hj hd]
      rcases hi.put j oj t hj hd (hall j (r1 hji)) with ⟨c1, c2⟩ | c
      · exact (hi.nodep hn 0 i o j ho hall (r1 hji) (h.lE j c1) c2).elim
      · exact c.symm
    · have hnl : listed.getD j false = false := by
        by_cases e : j = i
        · subst e; exact hun
        · have hdep := r2 (by omega)
          cases hl : listed.getD j false with
          | false => rfl
          | true => have := hi.down j oj hj hl i hdep; rw [hun] at this; cases this
      rw [h2 t (fun k ok hk hok hdk => by have := h.one k j ok oj t hok hj hdk hd; omega)]
      exact (hi.old t (fun k ok hok hdk => by rw [h.one k j ok oj t hok hj hdk hd]; exact hnl)).symm
  · rw [h2 t (fun j oj hj hoj hd => hw ⟨j, oj, hoj, hd⟩), hi.old t (fun j oj hj hd => absurd ⟨j, oj, hj, hd⟩ hw)]
theorem FInv.heap (hi : FInv P ops st tms vs Hs ns isE isL isS isT ids C0 bs listed tm p Hc C a) (hno : ∀ e, isS e = true → listed.getD e false = true → p ≤ e → False) : Hc = Hs p := by
  funext id
  rcases hi.ov id with ⟨e, g1, g2, g3, _⟩ | ⟨_, g⟩
  · exact (hno e g1 g2 g3).elim
  · exact g
theorem FInv.next (h : DrawnF P W0 ops st tms vs Hs ns isE isL isS isT ids) (hi : FInv P ops st tms vs Hs ns isE isL isS isT ids C0 bs listed tm p Hc C a) {i : Nat} {o : Oper} (ho : ops[i]? = some o) (hun : listed.getD i false = false)
    (hall : ∀ j, dep o j → listed.getD j false = true) {u : Value} {p' : Nat} {Hc' : Heap} {C' : Corr} {a' : Act} {bs' : Nat → Nat} (hu : (isL i = true ∧ p' ≤ i) ∨ u = vs i) (hpp : p ≤ p')
    (hpl : ∀ k, isE k = true → listed.getD k false = true → p ≤ k → p' ≤ k) (hpin : p' = 0 ∨ ∃ e, p' = e + 1 ∧ isE e = true) (hple : p' ≤ ops.size) (hpE : ∀ e, isE e = true → p ≤ e → e < p' → e = i)
    (hflo : isE i = true → p' ≤ i → isL i = true ∨ isS i = true) (halt : ∀ k, isE i = true → p' ≤ i → isE k = true → p' ≤ k → k < i → Alt ops isL isS isT ids k i)
    (hov : ∀ id, (∃ e, isS e = true ∧ (listed.setIfInBounds i true).getD e false = true ∧ p' ≤ e ∧ ids e = id ∧ Hc' id = Hs (e + 1) id) ∨ ((∀ e, isS e = true → (listed.setIfInBounds i true).getD e false = true → p' ≤ e → ids e ≠ id) ∧ Hc' id = Hs p' id))
    (hpd : ∀ (e : Nat) (oe : Oper), isL e = true → (listed.setIfInBounds i true).getD e false = true → p' ≤ e → ops[e]? = some oe → ∃ (cs cs' : List Value) (el : TypeId) (esz : Nat) (sh : Option (Nat × Nat)),
      aop P (Hs e) (ns e) (evR (opTs oe) (tms e)) oe = some (shV sh (ns e), .new (.cells cs esz none false (some el))) ∧ C'.pin (bs' e) = some (.cells cs'.toArray el) ∧ C0.pin (bs' e) = none ∧ VRs (ns p') Hc' C' cs cs' ∧
      (∀ d, oe.dst = some d → a'.tmps.getD d undef = shV sh (bs' e)))
    (hap : ∀ e e', isL e = true → (listed.setIfInBounds i true).getD e false = true → p' ≤ e → isL e' = true → (listed.setIfInBounds i true).getD e' false = true → p' ≤ e' → e ≠ e' → bs' e ≠ bs' e') :
    FInv P ops st tms vs Hs ns isE isL isS isT ids C0 bs' (listed.setIfInBounds i true) (tmPut tm o.dst u) p' Hc' C' a' := by
  have hlt : i < ops.size := (Array.getElem?_eq_some_iff.1 ho).1
  have hlts : i < listed.size := by rw [hi.size]; exact hlt
  have back : ∀ k, k ≠ i → (listed.setIfInBounds i true).getD k false = true → listed.getD k false = true := fun k hk hl => by rwa [getD_set_ne false (Ne.symm hk)] at hl
  refine ⟨by simp [hi.size], ?_, hpin, hple, ?_, ?_, ?_, ?_, ?_, hov, hpd, hap⟩
  · intro k ok hok hk j hj
    apply getD_set_true
    by_cases e : k = i
    · subst e
      rw [ho] at hok
      cases hok
      exact hall j hj
    · exact hi.down k ok hok (back k e hk) j hj
  · intro e he hlt'
    by_cases c : e = i
    · subst c; exact getD_set_self hlts _
    · apply getD_set_true
      by_cases c2 : e < p
      · exact hi.pE e he c2
      · exact absurd (hpE e he (by omega) hlt') c
  · intro e he hl hle
    by_cases c : e = i
    · subst c; exact hflo he hle
    · exact hi.flo e he (back e c hl) (by omega)
  · intro e k he hl hle hk hpk hke
    by_cases c : e = i
    · subst c; exact halt k he hle hk hpk hke
    · exact hi.alt e k he (back e c hl) (by omega) hk (by omega) hke
  · intro k ok d hok hd hk
    by_cases e : k = i
    · subst e
      rw [ho] at hok
      cases hok
      rcases hu with hu | hu
      · exact .inl hu
      · right; simp [tmPut, hd, hu]
    · rcases hi.put k ok d hok hd (back k e hk) with ⟨c1, c2⟩ | c
      · exact .inl ⟨c1, hpl k (h.lE k c1) (back k e hk) c2⟩
      · right
        cases hdo : o.dst with
        | none => simpa [tmPut] using c
        | some d' =>
          have hne : d ≠ d' := fun x => e (h.one k i ok o d hok ho hd (by rw [hdo, x]))
          simp only [tmPut, hne, if_false]
          exact c
  · intro t ht
    have hne : o.dst ≠ some t := fun x => by
      have := ht i o ho x
      rw [getD_set_self hlts] at this
      cases this
    have := hi.old t (fun k ok hok hd => by
      have := ht k ok hok hd
      by_cases e : k = i
      · subst e; exact hun
      · rwa [getD_set_ne false (Ne.symm e)] at this)
    cases hdo : o.dst with
    | none => simpa [tmPut] using this
    | some d' =>
      have hx : t ≠ d' := fun x => hne (by rw [hdo, x])
      simp only [tmPut, hx, if_false]
      exact this
theorem DrawnF.past (h : DrawnF P W0 ops st tms vs Hs ns isE isL isS isT ids) {id : Nat} : ∀ (k p : Nat), p + k ≤ ops.size → (∀ j, p ≤ j → j < p + k → isE j = true → (isL j = true ∨ isT j = true) ∧ ids j ≠ id) → Hs (p + k) id = Hs p id := by
  intro k
  induction k with
  | zero => intro p _ _; rfl
  | succ k ih =>
    intro p hle hp
    rw [← ih p (by omega) (fun j h1 h2 => hp j h1 (by omega))]
    have ho : ops[p + k]? = some ops[p + k] := by simp
    rw [← Nat.add_assoc]
    cases hE : isE (p + k) with
    | false => rw [(h.still (p + k) hE).1]
    | true =>
      obtain ⟨h1, h2⟩ := hp (p + k) (by omega) (by omega) hE
      have h2' : id ≠ ids (p + k) := fun x => h2 x.symm
      rcases h1 with h1 | h1
      · obtain ⟨sh, obj, _, e, _⟩ := h.lays h1 ho
        rw [(h.lay _ _ h1 ho).2.2.1] at h2'
        rw [e]; simp only [Heap.put, h2', if_false]
      · obtain ⟨_, obj, e, _⟩ := h.sto _ _ h1 ho
        rw [e]; simp only [Heap.put, h2', if_false]
theorem drawnF_any (h : DrawnF P W0 ops st tms vs Hs ns isE isL isS isT ids) {D : Nat} (hD : D < st.nx) (hDd : st.H D = none) {ρ : Option Nat} {C0 : Corr} {df : List Deferred} {Q : Exit → Act → World → Prop}
    (hq : ∀ C a w, SRel W0 C ⟨tms ops.size, st.n, Hs ops.size, ns ops.size⟩ a w → Stp st.nx st.H C0 (ns ops.size) (Hs ops.size) C → a.defers = df → Q .normal a w) :
    ∀ (fuel : Nat) (listed : Array Bool) (bs : Nat → Nat) (tm : Nat → Value) (p : Nat) (Hc : Heap) (C : Corr) (a : Act) (w : World), FInv P ops st tms vs Hs ns isE isL isS isT ids C0 bs listed tm p Hc C a → ((List.range ops.size).filter fun i => !listed.getD i false).length = fuel →
      SRel W0 C ⟨tm, st.n, Hc, ns p⟩ a w → Stp st.nx st.H C0 (ns p) Hc C → a.defers = df → wpAnyIn (rf ρ) 0 P .any ops Q fuel listed a w := by
  intro fuel
  induction fuel with
  | zero =>
    intro listed bs tm p Hc C a w hi hf hs hS hdf
    refine FInv.norm h (fun tm p Hc C hi hn hs hS => ?_) (ops.size - p) p tm Hc C (Nat.le_refl _) hi hs hS
    have hall : ∀ i, i < ops.size → listed.getD i false = true := by
      intro i hlt
      cases hl : listed.getD i false with
      | true => rfl
      | false =>
        have : i ∈ (List.range ops.size).filter fun i => !listed.getD i false := List.mem_filter.2 ⟨List.mem_range.2 hlt, by rw [hl]; rfl⟩
        rw [List.length_eq_zero_iff.1 hf] at this
        cases this
    have hnone : ∀ e, p ≤ e → isE e = false := by
      rcases hn with hn | ⟨e, h1, h2, h3, _⟩
      · exact hn
      · rw [hall e (h.inE e h1)] at h3; cases h3
    refine ⟨?_, ?_⟩
    · cases hr : Region.ready .any ops listed with
      | nil => rfl
      | cons j r =>
        have hj : j ∈ Region.ready .any ops listed := by rw [hr]; exact List.mem_cons_self ..
        obtain ⟨h0, o, ho, _⟩ := mem_ready.1 hj
        have hlt : j < ops.size := (Array.getElem?_eq_some_iff.1 ho).1
        have := hall j hlt
        rw [getD_lt (by rw [hi.size]; exact hlt) false true, h0] at this
        cases this
    · obtain ⟨e1, e2⟩ := h.upto hi.ple (fun j h1 _ => hnone j h1)
      have hH : Hc = Hs p := hi.heap fun e h1 h2 h3 => by have := hnone e h3; rw [h.sE e h1] at this; cases this
      have htm : tm = tms ops.size := by
        funext t
        obtain ⟨q1, q2⟩ := h.tms_put ops.size (Nat.le_refl _)
        by_cases hw : ∃ (j : Nat) (oj : Oper), ops[j]? = some oj ∧ oj.dst = some t
        · obtain ⟨j, oj, hj, hd⟩ := hw
          have hlt : j < ops.size := (Array.getElem?_eq_some_iff.1 hj).1
          rw [q1 j oj t hlt hj hd]
          rcases hi.put j oj t hj hd (hall j hlt) with ⟨c1, c2⟩ | c
          · have := hnone j c2; rw [h.lE j c1] at this; cases this
          · exact c
        · rw [q2 t (fun j oj _ hoj hd => hw ⟨j, oj, hoj, hd⟩), hi.old t (fun j oj hj hd => absurd ⟨j, oj, hj, hd⟩ hw)]
      refine hq C a w ?_ ?_ hdf
      · rw [e1, e2, ← htm, ← hH]; exact hs
      · rw [e1, e2, ← hH]; exact hS
  | succ fuel ih =>
    intro listed bs tm p Hc C a w hi hf hs hS hdf
    refine FInv.norm h (fun tm p Hc C hi hn hs hS => ?_) (ops.size - p) p tm Hc C (Nat.le_refl _) hi hs hS
    refine ⟨fun hr => ?_, fun i hir => ?_⟩
    · exfalso
      obtain ⟨i, hir⟩ := readyF h.lex hi.size hf
      rw [hr] at hir
      cases hir
    · obtain ⟨h0, o, ho, hall0⟩ := mem_ready.1 hir
      have hlt : i < ops.size := (Array.getElem?_eq_some_iff.1 ho).1
      have hlts : i < listed.size := by rw [hi.size]; exact hlt
      have hun : listed.getD i false = false := by rw [getD_lt hlts false true]; exact h0
      have hall : ∀ j, dep o j → listed.getD j false = true := fun j ⟨e, he, hb, hj⟩ => hj ▸ hall0 e he hb
      have hrd := fun t ht => hi.reads h hn ho hun hall (t := t) ht
      have hcount := countF hlt hlts hun hf
      have hw : wantsT ops (tms i) o = wantsT ops tm o := wantsT_congr (fun d hd => hrd d (.inr hd))
      have hev : evR (opTs o) (tms i) = evR (opTs o) tm := evR_congr (fun t ht => hrd t (.inl ht))
      have hstep := h.step i o ho
      have back : ∀ k, k ≠ i → (listed.setIfInBounds i true).getD k false = true → listed.getD k false = true := fun k hk hl => by rwa [getD_set_ne false (Ne.symm hk)] at hl
      have fwd : ∀ k, listed.getD k false = true → (listed.setIfInBounds i true).getD k false = true := fun k hk => getD_set_true hk
      -- rows that lie there, behind a step of the state
      have keepP : ∀ {C' : Corr} {v' : Value} {Hn : Heap} {p' : Nat}, Stp (ns p) Hc C (ns p') Hn C' → p ≤ p' → ∀ (e : Nat) (oe : Oper), e ≠ i → isL e = true → listed.getD e false = true → p' ≤ e → ops[e]? = some oe → ∃ (cs cs' : List Value) (el : TypeId) (esz : Nat) (sh : Option (Nat × Nat)),
          aop P (Hs e) (ns e) (evR (opTs oe) (tms e)) oe = some (shV sh (ns e), .new (.cells cs esz none false (some el))) ∧ C'.pin (bs e) = some (.cells cs'.toArray el) ∧ C0.pin (bs e) = none ∧ VRs (ns p') Hn C' cs cs' ∧
          (∀ d, oe.dst = some d → (a.put o.dst v').tmps.getD d undef = shV sh (bs e)) := by
        intro C' v' Hn p' hS' hpp e oe hei hL hl hle hoe
        obtain ⟨cs, cs', el, esz, sh, k1, k2, k3, k4, k5⟩ := hi.pinned e oe hL hl (by omega) hoe
        refine ⟨cs, cs', el, esz, sh, k1, hS'.pin _ _ k2, k3, k4.mono hS', fun d hd => ?_⟩
        rw [act_put_ne (fun x => hei (h.one e i oe o d hoe ho hd x))]
        exact k5 d hd
      cases hE : isE i with
      | false =>
        have hds : DStep P W0 ops tm st.n Hc (ns p) o (vs i) Hc (ns p) := by
          refine ⟨hstep.1, ?_⟩
          cases hwt : wantsT ops tm o with
          | false =>
            rcases hstep.2 with ⟨_, x, _⟩ | ⟨x, _⟩
            · exact .inl ⟨rfl, x, rfl, rfl⟩
            · rw [hw, hwt] at x; cases x
          | true =>
            refine .inr ⟨rfl, .inl ⟨.none, ?_, rfl, rfl⟩⟩
            rw [← hev]
            rcases h.free i o ho hE (by rw [hw, hwt]) with hfr | hfr
            · exact hfr _ _
            · have hH : Hc = Hs p := hi.heap fun e h1 h2 h3 => by
                obtain ⟨oe, hoe⟩ : ∃ oe, ops[e]? = some oe := ⟨_, Array.getElem?_eq_getElem (h.inE e (h.sE e h1))⟩
                rcases hfr e oe h1 hoe with hd | hd
                · have := hi.down e oe hoe h2 i hd
                  rw [hun] at this; cases this
                · exact hi.nodep hn 0 i o e ho hall hd (h.sE e h1) h3
              rw [hH]
              refine h.stable i o p ho hE (by rw [hw, hwt]) hi.pin hi.ple (fun j hj hd => ?_) ?_
              · by_cases c : j < p
                · exact c
                · exact (hi.nodep hn 0 i o j ho hall hd hj (by omega)).elim
              · intro e oe he hep hoe n hd
                have := reachF hi.down n oe i (fun j hj => hi.down e oe hoe (hi.pE e he hep) j hj) hd
                rw [hun] at this
                cases this
        refine hds.wp hs ho ?_
        intro C' v' w' hs' hS'
        have hni : ∀ e, isE e = true → e ≠ i := fun e he x => by rw [x, hE] at he; cases he
        refine ih (listed.setIfInBounds i true) bs (tmPut tm o.dst (vs i)) p Hc C' _ w' ?_ hcount hs' (hS.trans hS') ((put_defers _ _ _).trans hdf)
        refine hi.next h ho hun hall (.inr rfl) (Nat.le_refl _) (fun k _ _ hk => hk) hi.pin hi.ple (fun e _ h1 h2 => by omega) (fun x => by rw [hE] at x; cases x) (fun k x => by rw [hE] at x; cases x) ?_ ?_ ?_
        · intro id
          rcases hi.ov id with ⟨e, g1, g2, g3⟩ | ⟨g1, g2⟩
          · exact .inl ⟨e, g1, fwd e g2, g3⟩
          · exact .inr ⟨fun e h1 h2 h3 => g1 e h1 (back e (hni e (h.sE e h1)) h2) h3, g2⟩
        · exact fun e oe hL hl hle hoe => keepP hS' (Nat.le_refl _) e oe (hni e (h.lE e hL)) hL (back e (hni e (h.lE e hL)) hl) hle hoe
        · exact fun e e' h1 h2 h3 h4 h5 h6 => hi.apart e e' h1 (back e (hni e (h.lE e h1)) h2) h3 h4 (back e' (hni e' (h.lE e' h4)) h5) h6
      | true =>
        have hip : p ≤ i := by
          by_cases c : i < p
          · have := hi.pE i hE c; rw [hun] at this; cases this
          · omega
        -- the first that has not come up
        obtain ⟨e0, z1, z2, z3, z4⟩ : ∃ e, isE e = true ∧ p ≤ e ∧ listed.getD e false = false ∧ ∀ i, p ≤ i → i < e → isE i = false := by
          rcases hn with hn | hn
          · rw [hn i hip] at hE; cases hE
          · exact hn
        by_cases hie : i = e0
        · -- in its turn
          subst hie
          obtain ⟨e1, e2⟩ := h.upto z2 z4
          have hprog : ∃ Hn, DStep P W0 ops tm st.n Hc (ns p) o (vs i) Hn (ns (i + 1)) ∧
              ∀ id, (∃ e, isS e = true ∧ listed.getD e false = true ∧ i + 1 ≤ e ∧ ids e = id ∧ Hn id = Hs (e + 1) id) ∨ ((∀ e, isS e = true → listed.getD e false = true → i + 1 ≤ e → ids e ≠ id) ∧ Hn id = Hs (i + 1) id) := by
            have far : ∀ e, isE e = true → listed.getD e false = true → p ≤ e → i + 1 ≤ e := fun e he hl hle => by
              by_cases c : i + 1 ≤ e
              · exact c
              · by_cases c2 : e = i
                · subst c2; rw [hun] at hl; cases hl
                · have := z4 e hle (by omega); rw [he] at this; cases this
            -- objects where one is put
            have puts : ∀ obj, Hs (i + 1) = (Hs i).put (ids i) obj → (∀ e, isS e = true → listed.getD e false = true → p ≤ e → ids e ≠ ids i) →
                ∀ id, (∃ e, isS e = true ∧ listed.getD e false = true ∧ i + 1 ≤ e ∧ ids e = id ∧ (Hc.put (ids i) obj) id = Hs (e + 1) id) ∨ ((∀ e, isS e = true → listed.getD e false = true → i + 1 ≤ e → ids e ≠ id) ∧ (Hc.put (ids i) obj) id = Hs (i + 1) id) := by
              intro obj hobj hne id
              by_cases c : id = ids i
              · right
                refine ⟨fun e h1 h2 h3 => by rw [c]; exact hne e h1 h2 (by omega), ?_⟩
                rw [hobj]; simp only [Heap.put, c, if_true]
              · rcases hi.ov id with ⟨e, g1, g2, g3, g4, g5⟩ | ⟨g1, g2⟩
                · exact .inl ⟨e, g1, g2, far e (h.sE e g1) g2 g3, g4, by simp only [Heap.put, c, if_false]; exact g5⟩
                · right
                  refine ⟨fun e h1 h2 h3 => g1 e h1 h2 (by omega), ?_⟩
                  rw [hobj, e1]
                  simp only [Heap.put, c, if_false]
                  exact g2
            by_cases hps : ∃ e, isS e = true ∧ listed.getD e false = true ∧ p ≤ e
            · obtain ⟨e, s1, s2, s3⟩ := hps
              have hei := far e (h.sE e s1) s2 s3
              have hne : ∀ e, isS e = true → listed.getD e false = true → p ≤ e → ids e ≠ ids i := fun e s1 s2 s3 x => by
                have := far e (h.sE e s1) s2 s3
                exact ((hi.alt e i (h.sE e s1) s2 s3 hE hip (by omega)).2.2 s1).2 x.symm
              rcases ((hi.alt e i (h.sE e s1) s2 s3 hE hip (by omega)).2.2 s1).1 with hL | hSt
              · obtain ⟨sh, obj, v1, v2, v3, v4⟩ := h.lays hL ho
                have hids := (h.lay i o hL ho).2.2.1
                refine ⟨Hc.put (ids i) obj, ⟨hstep.1, .inr ⟨by rw [← hw]; exact (h.lay i o hL ho).2.1, .inl ⟨.new obj, ?_, ?_, ?_⟩⟩⟩, puts obj (by rw [hids]; exact v2) hne⟩
                · rw [← hev, v4, v1, e2]
                · rw [hids, e2]; rfl
                · rw [v3, e2]; rfl
              · obtain ⟨w1, obj, v2, v3, v4⟩ := h.sto i o hSt ho
                have hid : Hc (ids i) = Hs i (ids i) := by
                  rcases hi.ov (ids i) with ⟨e, g1, g2, g3, g4, _⟩ | ⟨_, g⟩
                  · exact absurd g4 (hne e g1 g2 g3)
                  · rw [g, e1]
                refine ⟨Hc.put (ids i) obj, ⟨hstep.1, .inr ⟨by rw [← hw]; exact w1, .inl ⟨.upd (ids i) obj, ?_, rfl, ?_⟩⟩⟩, puts obj v2 hne⟩
                · rw [← hev]; exact v4 _ _ hid
                · rw [v3, e2]; rfl
            · have hH : Hc = Hs p := hi.heap fun e h1 h2 h3 => hps ⟨e, h1, h2, h3⟩
              refine ⟨Hs (i + 1), ?_, fun id => .inr ⟨fun e h1 h2 h3 => absurd ⟨e, h1, h2, by omega⟩ hps, rfl⟩⟩
              rw [hH, ← e1, ← e2]
              exact hstep.congr (fun t ht => hrd t (.inl ht)) (fun d hd => hrd d (.inr hd))
          obtain ⟨Hn, hds, hov⟩ := hprog
          refine hds.wp hs ho ?_
          intro C' v' w' hs' hS'
          have hni : ∀ e, i + 1 ≤ e → e ≠ i := fun e he x => by omega
          refine ih (listed.setIfInBounds i true) bs (tmPut tm o.dst (vs i)) (i + 1) Hn C' _ w' ?_ hcount hs' (hS.trans hS') ((put_defers _ _ _).trans hdf)
          refine hi.next h ho hun hall (.inr rfl) (by omega) (fun k hk hl hle => ?_) (.inr ⟨i, rfl, hE⟩) (by omega) (fun e he h1 h2 => ?_) (fun _ h2 => by omega) (fun k _ h2 => by omega) ?_ ?_ ?_
          · by_cases c : i + 1 ≤ k
            · exact c
            · by_cases c2 : k = i
              · subst c2; rw [hun] at hl; cases hl
              · have := z4 k hle (by omega); rw [hk] at this; cases this
          · by_cases c2 : e = i
            · exact c2
            · have := z4 e h1 (by omega); rw [he] at this; cases this
          · intro id
            rcases hov id with ⟨e, g1, g2, g3⟩ | ⟨g1, g2⟩
            · exact .inl ⟨e, g1, fwd e g2, g3⟩
            · exact .inr ⟨fun e h1 h2 h3 => g1 e h1 (back e (hni e h3) h2) h3, g2⟩
          · exact fun e oe hL hl hle hoe => keepP hS' (by omega) e oe (hni e hle) hL (back e (hni e hle) hl) hle hoe
          · exact fun e e' h1 h2 h3 h4 h5 h6 => hi.apart e e' h1 (back e (hni e h3) h2) (by omega) h4 (back e' (hni e' h6) h5) (by omega)
        · -- out of turn
          have hlt0 : e0 < i := by
            rcases Nat.lt_trichotomy e0 i with c | c | c
            · exact c
            · exact absurd c.symm hie
            · rw [z4 i hip c] at hE; cases hE
          have halt : ∀ k, isE k = true → p ≤ k → k < i → Alt ops isL isS isT ids k i := fun k hk hpk hki => by
            rcases h.chain k i o hk hE ho hki with ⟨n, hd⟩ | hd
            · exfalso
              exact hi.nodep hn n i o k ho hall hd hk hpk
            · exact hd
          have hni : ∀ e, listed.getD e false = true → e ≠ i := fun e he x => by rw [x, hun] at he; cases he
          rcases (halt e0 z1 z2 hlt0).1 with hL | hSt
          · -- a row is laid
            obtain ⟨sh, obj, v1, v2, v3, v4⟩ := h.lays hL ho
            obtain ⟨hlay, hwi, _⟩ := h.lay i o hL ho
            have hop := v4 Hc (ns p)
            have hopi := v4 (Hs i) (ns i)
            rw [hev] at hop
            obtain ⟨cs, cs', el, esz, sh2, q1, q2, q3, q4⟩ := lay_run (w := w) (evR_sound hs (opTs o)) hlay hop
            simp only [Eff.new.injEq] at q1
            subst q1
            have hsh : sh = sh2 := by
              unfold shV at q3
              cases sh <;> cases sh2 <;> simp only [Value.slice.injEq] at q3 <;> first | rfl | (cases q3; done) | (obtain ⟨_, rfl⟩ := q3; rfl) | (obtain ⟨_, h1, h2⟩ := q3; congr 1; exact Prod.ext h1 h2)
            subst hsh
            obtain ⟨r1, r2⟩ := hs.rel.pinNew (.cells cs'.toArray el)
            have hww := wants_sound hs ops o
            rw [← wantsT_wants] at hww
            unfold wpOpIn
            rw [ho]
            simp only [hww]
            rw [show wantsT ops tm o = true by rw [← hw]; exact hwi]
            simp only [if_true]
            refine ⟨fun _ _ => trivial, ?_⟩
            rw [aop_semAt hop, q4]
            have hdead : ∀ x, Hc D = some x → x.tag ≠ none := fun x hx ht => by
              obtain ⟨y, hy, _⟩ := hS.keep D x hD hx (fun t hh => by rw [ht] at hh; cases hh)
              rw [hDd] at hy; cases hy
            have hvd : VR (ns p) Hc (C.re fun k => if k = w.heap.size then some (.cells cs'.toArray el) else C.pin k) (shV sh D) (shV sh w.heap.size) := shV_dead sh w.heap.size (Nat.lt_of_lt_of_le hD hS.le) hdead
            have hfresh : C0.pin w.heap.size = none := by
              cases hq0 : C0.pin w.heap.size with
              | none => rfl
              | some O =>
                have := (hs.rel.pin _ _ (hS.pin _ _ hq0)).2
                have := (Array.getElem?_eq_some_iff.1 this).1
                omega
            have hbs : ∀ e (oe : Oper), isL e = true → listed.getD e false = true → p ≤ e → ops[e]? = some oe → bs e ≠ w.heap.size := fun e oe h1 h2 h3 h4 x => by
              obtain ⟨_, _, _, _, _, _, k2, _⟩ := hi.pinned e oe h1 h2 h3 h4
              have := (hs.rel.pin _ _ k2).2
              have := (Array.getElem?_eq_some_iff.1 this).1
              omega
            have opE : ∀ e, isL e = true → ∃ oe, ops[e]? = some oe := fun e he => ⟨_, Array.getElem?_eq_getElem (h.inE e (h.lE e he))⟩
            refine ih (listed.setIfInBounds i true) (fun k => if k = i then w.heap.size else bs k) (tmPut tm o.dst (shV sh D)) p Hc _ _ _ ?_ hcount (hs.put hstep.1 r1 r2 hvd) (hS.trans r2) ((put_defers _ _ _).trans hdf)
            refine hi.next h ho hun hall (.inl ⟨hL, hip⟩) (Nat.le_refl _) (fun k _ _ hk => hk) hi.pin hi.ple (fun e _ h1 h2 => by omega) (fun _ _ => .inl hL) (fun k _ _ hk hpk hki => halt k hk hpk hki) ?_ ?_ ?_
            · intro id
              have hnS : ∀ e, isS e = true → e ≠ i := fun e he x => by subst x; rw [h.nLS e hL] at he; cases he
              rcases hi.ov id with ⟨e, g1, g2, g3⟩ | ⟨g1, g2⟩
              · exact .inl ⟨e, g1, fwd e g2, g3⟩
              · exact .inr ⟨fun e h1 h2 h3 => g1 e h1 (back e (hnS e h1) h2) h3, g2⟩
            · intro e oe hLe hle hpe hoe
              by_cases c : e = i
              · subst c
                rw [ho] at hoe
                cases hoe
                refine ⟨cs, cs', el, esz, sh, hopi, by simp [Corr.re], by simpa using hfresh, q2.mono r2, fun d hd => ?_⟩
                rw [act_put_self hd (by rw [hs.sz]; exact hstep.1 d hd)]
                simp
              · have hlb := back e c hle
                have hb := hbs e oe hLe hlb hpe hoe
                obtain ⟨ds, ds', el2, esz2, sh3, k1, k2, k3, k4, k5⟩ := keepP (v' := shV sh w.heap.size) r2 (Nat.le_refl p) e oe c hLe hlb hpe hoe
                refine ⟨ds, ds', el2, esz2, sh3, k1, ?_, ?_, k4, ?_⟩
                · simp only [c, if_false]; exact k2
                · simp only [c, if_false]; exact k3
                · simp only [c, if_false]; exact k5
            · intro e e' h1 h2 h3 h4 h5 h6 hne
              by_cases c : e = i
              · have c' : e' ≠ i := fun x => hne (c.trans x.symm)
                obtain ⟨oe', hoe'⟩ := opE e' h4
                simp only [c, c', if_true, if_false]
                exact fun x => hbs e' oe' h4 (back e' c' h5) h6 hoe' x.symm
              · obtain ⟨oe, hoe⟩ := opE e h1
                by_cases c' : e' = i
                · simp only [c, c', if_true, if_false]
                  exact hbs e oe h1 (back e c h2) h3 hoe
                · simp only [c, c', if_false]
                  exact hi.apart e e' h1 (back e c h2) h3 h4 (back e' c' h5) h6 hne
          · -- a store
            obtain ⟨w1, obj, v2, v3, v4⟩ := h.sto i o (h.tS i hSt) ho
            have hid : Hc (ids i) = Hs i (ids i) := by
              have q1 : Hs i (ids i) = Hs p (ids i) := by
                have := h.past (id := ids i) (i - p) p (by omega) (fun j h1 h2 hEj => (halt j hEj h1 (by omega)).2.2 hSt)
                rwa [show p + (i - p) = i by omega] at this
              rcases hi.ov (ids i) with ⟨e, g1, g2, g3, g4, _⟩ | ⟨_, g⟩
              · exfalso
                rcases Nat.lt_trichotomy e i with c | c | c
                · exact ((halt e (h.sE e g1) g3 c).2.2 hSt).2 g4
                · exact hni e g2 c
                · exact ((hi.alt e i (h.sE e g1) g2 g3 hE hip c).2.2 g1).2 g4.symm
              · rw [g, q1]
            have hds : DStep P W0 ops tm st.n Hc (ns p) o (vs i) (Hc.put (ids i) obj) (ns p) := ⟨hstep.1, .inr ⟨by rw [← hw]; exact w1, .inl ⟨.upd (ids i) obj, by rw [← hev]; exact v4 _ _ hid, rfl, rfl⟩⟩⟩
            refine hds.wp hs ho ?_
            intro C' v' w' hs' hS'
            have hnL : ∀ e, isL e = true → e ≠ i := fun e he x => by subst x; rw [h.nLS e he] at hSt; cases hSt
            refine ih (listed.setIfInBounds i true) bs (tmPut tm o.dst (vs i)) p (Hc.put (ids i) obj) C' _ w' ?_ hcount hs' (hS.trans hS') ((put_defers _ _ _).trans hdf)
            refine hi.next h ho hun hall (.inr rfl) (Nat.le_refl _) (fun k _ _ hk => hk) hi.pin hi.ple (fun e _ h1 h2 => by omega) (fun _ _ => .inr hSt) (fun k _ _ hk hpk hki => halt k hk hpk hki) ?_ ?_ ?_
            · intro id
              by_cases c : id = ids i
              · left
                exact ⟨i, hSt, getD_set_self hlts _, hip, c.symm, by rw [v2]; simp only [Heap.put, c, if_true]⟩
              · rcases hi.ov id with ⟨e, g1, g2, g3, g4, g5⟩ | ⟨g1, g2⟩
                · exact .inl ⟨e, g1, fwd e g2, g3, g4, by simp only [Heap.put, c, if_false]; exact g5⟩
                · refine .inr ⟨fun e h1 h2 h3 => ?_, by simp only [Heap.put, c, if_false]; exact g2⟩
                  by_cases ce : e = i
                  · subst ce; exact fun x => c x.symm
                  · exact g1 e h1 (back e ce h2) h3
            · exact fun e oe hL hl hle hoe => keepP hS' (Nat.le_refl _) e oe (hnL e hL) hL (back e (hnL e hL) hl) hle hoe
            · exact fun e e' h1 h2 h3 h4 h5 h6 => hi.apart e e' h1 (back e (hnL e h1) h2) h3 h4 (back e' (hnL e' h4) h5) h6
theorem Trip.drawnF {id : Nat} {Q : AExit → ASt → Prop} (hm : P.follows .mixedOrders = true) (h : DrawnF P W0 ops st tms vs Hs ns isE isL isS isT ids) {D : Nat} (hD : D < st.nx) (hDd : st.H D = none) (hq : Q .normal ⟨tms ops.size, st.n, Hs ops.size, ns ops.size⟩) : Trip P W0 (.region id ops true) st Q := by
  intro ρ C a w hr hs
  have hs' : SRel W0 C st a w.drew := ⟨hs.tm, hs.sz, hs.rel.drew⟩
  have hfalse : ∀ i, (Array.replicate ops.size false).getD i false = false := fun i => by
    rw [Array.getD_eq_getD_getElem?, Array.getElem?_replicate]; split <;> rfl
  refine wpIn_region_any hm (drawnF_any h hD hDd (C0 := C) (df := a.defers) (fun C' a' w' hs' hS hdf => ⟨.normal, _, C', rfl, hq, hs', hS, rfl, .of_eq hdf⟩) ops.size (Array.replicate ops.size false) (fun _ => 0) st.tm 0 st.H C a _ ?_ ?_ ?_ ?_ rfl)
  · exact ⟨by simp, fun i o _ hl => (by rw [hfalse] at hl; cases hl), .inl rfl, by omega, fun e _ hlt => (by omega), fun e _ hl => (by rw [hfalse] at hl; cases hl), fun e i _ hl => (by rw [hfalse] at hl; cases hl), fun i o d _ _ hl => (by rw [hfalse] at hl; cases hl), fun t _ => rfl,
      fun id => .inr ⟨fun e _ hl => (by rw [hfalse] at hl; cases hl), by rw [h.h0]⟩, fun e oe _ hl => (by rw [hfalse] at hl; cases hl), fun e e' _ hl => (by rw [hfalse] at hl; cases hl)⟩
  · have : ((List.range ops.size).filter fun i => !(Array.replicate ops.size false).getD i false) = List.range ops.size := by
      rw [List.filter_eq_self]
      intro i _
      rw [hfalse]; rfl
    rw [this, List.length_range]
  · rw [h.n0]; exact hs'
  · rw [h.n0]; exact Stp.refl _ _ _
theorem Trip.bump {c : Code} {tm : Nat → Value} {n : Nat} {H : Heap} {nx : Nat} {Q : AExit → ASt → Prop} (h : Trip P W0 c ⟨tm, n, H, nx + 1⟩ Q) : Trip P W0 c ⟨tm, n, H, nx⟩ Q := by
  intro ρ C a w hr hs
  obtain ⟨b1, b2⟩ := hs.rel.bump
  refine wpIn_mono (h ρ C a w (hr.next b2) ⟨fun t => (hs.tm t).mono b2, hs.sz, b1⟩) ?_
  rintro e a' w' ⟨x, st', C', rfl, hq, hs', hS, hn, hm⟩
  exact ⟨x, st', C', rfl, hq, hs', b2.trans hS, hn, hm⟩
theorem Trip.drawnB {id : Nat} {tm : Nat → Value} {n : Nat} {H : Heap} {nx : Nat} {Q : AExit → ASt → Prop} (hm : P.follows .mixedOrders = true) (h : DrawnF P W0 ops ⟨tm, n, H, nx + 1⟩ tms vs Hs ns isE isL isS isT ids) (hq : Q .normal ⟨tms ops.size, n, Hs ops.size, ns ops.size⟩) :
    Trip P W0 (.region id ops true) ⟨tm, n, H, nx⟩ Q := by
  intro ρ C a w hr hs
  have hd : H nx = none := by
    cases hq : H nx with
    | none => rfl
    | some o => have := (hs.rel.lt nx o hq).1; exact absurd this (Nat.lt_irrefl _)
  exact Trip.bump (Trip.drawnF hm h (D := nx) (Nat.lt_succ_self nx) hd hq) ρ C a w hr hs
theorem sto_same {H : Heap} {nx : Nat} {ev : Operand → Option Value} {o : Oper} {t : TypeId} {x y : Operand} {ad : Addr} {v : Value} {e : Eff} (ho : o.op = .store t x y) (hx : ev x = some (.pointer (some ad))) (h : aop P H nx ev o = some (v, e)) :
    ∃ obj, e = .upd ad.block obj ∧ ∀ (H' : Heap) (nx' : Nat), H' ad.block = H ad.block → aop P H' nx' ev o = some (v, .upd ad.block obj) := by
  unfold aop at h
  simp only [ho, hx, Option.bind_some, Option.bind_eq_some_iff, Option.map_eq_some_iff, Prod.mk.injEq] at h
  obtain ⟨u, hu, e', he, rfl, rfl⟩ := h
  simp only [aStore, writeAt] at he
  split at he
  · rename_i hs
    simp only [Option.map_eq_some_iff] at he
    obtain ⟨obj, hobj, rfl⟩ := he
    refine ⟨obj, rfl, fun H' nx' hH => ?_⟩
    unfold aop
    have hset : setc H' ad u.cells.toList = some obj := by unfold setc at hobj ⊢; rw [hH]; exact hobj
    simp only [ho, hx, hu, Option.bind_some, aStore, writeAt, if_pos hs, hset, Option.map_some]
  · cases he
end
end Go.Am
