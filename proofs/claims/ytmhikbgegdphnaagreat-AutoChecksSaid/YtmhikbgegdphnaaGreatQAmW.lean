import Derived.Test.YtmhikbgegdphnaaGreatQAmR
import Derived.Test.YtmhikbgegdphnaaGreatQAmV
namespace Go.Am
set_option linter.unusedSimpArgs false
set_option linter.unusedVariables false
open Go.RowKit Go.ChangeShapes Go.WideShapes Go.ChangeAt
inductive Arg where
  | plain (v : Value)
  | ints (k : IntKind) (xs : List Int)
def NumsAt (H : Heap) (k : IntKind) (v : Value) (xs : List Int) : Prop :=
  (∃ c, v = .slice none 0 c ∧ xs = []) ∨ ∃ a c, v = .slice (some a) xs.length c ∧ ∀ (i : Nat) (h : i < xs.length), cellAt H ⟨a.block, a.off + i, a.spot⟩ (.int k xs[i])
def RowIn (H : Heap) (v : Value) : Prop := v = .slice none 0 0 ∨ ∃ k n c cs, v = .slice (some ⟨k, 0, none⟩) n c ∧ H k = some (.cells cs 1 none true none) ∧ cs.length = c ∧ n ≤ c
def Arg.came (W : World) : Arg → Value → Prop
  | .plain u, v => v = u ∧ plain1 u = true
  | .ints k xs, v => (v = .slice none 0 0 ∧ xs = []) ∨ ∃ (b off len cap : Nat) (zs : List Int) (Cc : Array Value) (el : TypeId) (fr : Nat × Nat), v = .slice (some ⟨b, off, none⟩) len cap ∧ len ≤ cap ∧ zs.length = cap ∧ xs = zs.take len ∧
      W.heap[b]? = some (.cells Cc el fr) ∧ off + cap ≤ Cc.size ∧ ∀ i, i < cap → Cc[off + i]? = some (.int k (zs.getD i 0))
def Arg.at (H : Heap) : Arg → Value → Prop
  | .plain u, v => v = u
  | .ints k xs, v => NumsAt H k v xs ∧ RowIn H v
def All2 {α β : Type} (R : α → β → Prop) : List α → List β → Prop
  | [], [] => True
  | a :: l, b :: l' => R a b ∧ All2 R l l'
  | _, _ => False
theorem All2.cons {α β : Type} {R : α → β → Prop} {a : α} {l : List α} {us : List β} (h : All2 R (a :: l) us) : ∃ b us', us = b :: us' ∧ R a b ∧ All2 R l us' := by
  cases us with
  | nil => exact h.elim
  | cons b us => exact ⟨b, us, rfl, h.1, h.2⟩
theorem All2.nil {α β : Type} {R : α → β → Prop} {us : List β} (h : All2 R [] us) : us = [] := by
  cases us with
  | nil => rfl
  | cons b us => exact h.elim
section
variable {P : Program} {W0 : World} {C : Corr} {nx : Nat} {H : Heap} {w : World}
theorem Rel.read (h : Rel W0 C nx H w) (hpn : ∀ k, C.pin k = none) (hro : ∀ id o, H id = some o → o.ro = true) {c : List Value} {b off : Nat} {Cc : Array Value} {el : TypeId} {fr : Nat × Nat} (hw : w.heap[b]? = some (.cells Cc el fr)) (hle : off + c.length ≤ Cc.size)
    (hp : c.all plain1 = true) (hc : ∀ i, i < c.length → Cc[off + i]? = c[i]?) :
    Rel W0 (C.put nx (b, off) Cc.size) (nx + 1) (H.put nx (.cells c 1 none true none)) w ∧ Stp nx H C (nx + 1) (H.put nx (.cells c 1 none true none)) (C.put nx (b, off) Cc.size) := by
  have hst : Stp nx H C (nx + 1) (H.put nx (.cells c 1 none true none)) (C.put nx (b, off) Cc.size) := ⟨⟨by omega, fun id o' hid ho' ht => by
    have : id ≠ nx := by omega
    simp only [Heap.put, this, if_false] at ho'
    exact ⟨o', ho', rfl, rfl, by simp [Corr.put, this], by simp [Corr.put, this]⟩⟩, fun _ _ x => x, fun id hid hl => by
    have : id ≠ nx := by omega
    simp only [Heap.put, this, if_false]
    exact ⟨hl, by simp [Corr.put, this]⟩⟩
  have hro' : ∀ id o, (H.put nx (.cells c 1 none true none)) id = some o → o.ro = true := by
    intro id o ho
    by_cases e : id = nx
    · simp only [Heap.put, e, if_true, Option.some.injEq] at ho; subst ho; rfl
    · simp only [Heap.put, e, if_false] at ho; exact hro id o ho
  refine ⟨⟨h.below, ?_, ?_, ?_, ?_, h.pin, Nat.le_succ_of_le h.base, fun g og hg hog => ?_, fun _ _ _ => hpn _⟩, hst⟩
  · intro id o' ho'
    by_cases e : id = nx
    · subst e
      simp only [Heap.put, if_true, Option.some.injEq] at ho'
      subst ho'
      exact ⟨by omega, fun t ht => by cases ht⟩
    · simp only [Heap.put, e, if_false] at ho'
      obtain ⟨a, b⟩ := h.lt id o' ho'
      exact ⟨by omega, fun t ht => by have := b t ht; omega⟩
  · intro id o' ho'
    by_cases e : id = nx
    · subst e
      simp only [Heap.put, if_true, Option.some.injEq] at ho'
      subst ho'
      refine ⟨Cc, el, fr, by simpa [Corr.put] using hw, by simp [Corr.put], by simpa [Corr.put] using hle, ?_, ⟨fun hh => (by cases hh), fun t ht => (by cases ht), fun hh => (by cases hh), fun hh => (by cases hh)⟩⟩
      intro i hi hi'
      simp only [Corr.put, if_true] at hi' ⊢
      have := hc i hi
      rw [Array.getElem?_eq_getElem hi', List.getElem?_eq_getElem hi, Option.some.injEq] at this
      rw [this]
      exact plain1_VR (List.all_eq_true.1 hp _ (List.getElem_mem hi))
    · simp only [Heap.put, e, if_false] at ho'
      exact (h.obj id o' ho').mono hst (by simp [Corr.put, e]) (by simp [Corr.put, e]) rfl
  · intro id o' ho' hh
    rw [hro' id o' ho'] at hh; cases hh
  · intro i j oi oj hi _ _ hh
    rw [hro' i oi hi] at hh; cases hh
  · have e : g ≠ nx := by have := h.base; omega
    simp only [Heap.put, e, if_false] at hog
    simpa [Corr.put, e] using h.glob g og hg hog
theorem NumsAt.mono {H' : Heap} {k : IntKind} {v : Value} {xs : List Int} (hh : ∀ id o, H id = some o → H' id = some o) (h : NumsAt H k v xs) : NumsAt H' k v xs := by
  rcases h with h | ⟨a, c, rfl, h⟩
  · exact .inl h
  · refine .inr ⟨a, c, rfl, fun i hi => ?_⟩
    have h1 := h i hi
    obtain ⟨o, ho⟩ := getc_some h1
    unfold cellAt getc at *
    rw [hh _ _ ho]
    rw [ho] at h1
    exact h1
theorem Arg.at_mono {H' : Heap} (hh : ∀ id o, H id = some o → H' id = some o) : ∀ {a : Arg} {v : Value}, a.at H v → a.at H' v := by
  intro a v h
  cases a with
  | plain u => exact h
  | ints k xs =>
    refine ⟨h.1.mono hh, ?_⟩
    rcases h.2 with h | ⟨k, n, c, cs, h1, h2, h3⟩
    · exact .inl h
    · exact .inr ⟨k, n, c, cs, h1, hh _ _ h2, h3⟩
theorem All2.at_mono {H' : Heap} (hh : ∀ id o, H id = some o → H' id = some o) : ∀ {as : List Arg} {vs : List Value}, All2 (Arg.at H) as vs → All2 (Arg.at H') as vs := by
  intro as
  induction as with
  | nil => intro vs h; cases vs <;> first | trivial | exact h.elim
  | cons a as ih =>
    intro vs h
    cases vs with
    | nil => exact h.elim
    | cons v vs => exact ⟨Arg.at_mono hh h.1, ih h.2⟩
theorem start {T : Tables} (W : World) (hT : Tabs T W) : ∀ (as : List Arg) (vs : List Value), All2 (Arg.came W) as vs → ∃ nx H C us, Rel W C nx H W ∧ VRs nx H C us vs ∧ All2 (Arg.at H) as us ∧ (∀ id o, H id = some o → o.ro = true) ∧ (∀ k, C.pin k = none) ∧ ∀ g o, (tabTree T).get g = some o → H g = some o := by
  intro as
  induction as with
  | nil =>
    intro vs h
    cases vs with
    | nil => exact ⟨NG, (tabTree T).get, Corr.tab W, [], Rel.tabs hT (Below.refl _ _), VRs.nil, trivial, fun _ _ h => (by obtain ⟨c, _, rfl⟩ := tabTree_get h; rfl), fun _ => rfl, fun _ _ h => h⟩
    | cons => exact h.elim
  | cons a as ih =>
    intro vs h
    cases vs with
    | nil => exact h.elim
    | cons v vs =>
      obtain ⟨nx, H, C, us, hR, hV, hA, hro, hpn, htb⟩ := ih vs h.2
      have hlt := fun id o (ho : H id = some o) => (hR.lt id o ho).1
      have h1 := h.1
      cases a with
      | plain u =>
        obtain ⟨rfl, hp⟩ := h1
        exact ⟨nx, H, C, v :: us, hR, VRs.cons (plain1_VR hp) hV, ⟨rfl, hA⟩, hro, hpn, htb⟩
      | ints k xs =>
        rcases h1 with ⟨rfl, rfl⟩ | ⟨b, off, len, cap, zs, Cc, el, fr, rfl, hlc, hz, rfl, hw, hle, hc⟩
        · exact ⟨nx, H, C, .slice none 0 0 :: us, hR, VRs.cons (.nils _ _) hV, ⟨⟨.inl ⟨0, rfl, rfl⟩, .inl rfl⟩, hA⟩, hro, hpn, htb⟩
        · obtain ⟨hR', hS⟩ := hR.read hpn hro (c := zs.map (.int k ·)) hw (by simpa [hz] using hle) (by simp [plain1]) (fun i hi => by
            simp only [List.length_map, hz] at hi
            rw [hc i hi, List.getElem?_map, List.getElem?_eq_getElem (by omega)]
            simp [List.getD_eq_getElem?_getD, List.getElem?_eq_getElem (show i < zs.length by omega)])
          have hext : ∀ id o, H id = some o → (H.put nx (.cells (zs.map (.int k ·)) 1 none true none)) id = some o := fun id o ho => by
            have : id ≠ nx := by have := hlt id o ho; omega
            simp only [Heap.put, this, if_false]; exact ho
          refine ⟨nx + 1, _, _, .slice (some ⟨nx, 0, none⟩) len cap :: us, hR', VRs.cons ?_ (hV.mono hS), ⟨⟨.inr ⟨⟨nx, 0, none⟩, cap, by simp [hz]; omega, ?_⟩, .inr ⟨nx, len, cap, zs.map (.int k ·), rfl, by simp [Heap.put], by simpa using hz, hlc⟩⟩, hA.at_mono hext⟩, ?_, hpn, fun g o hg => hext g o (htb g o hg)⟩
          · exact .slc _ _ _ _ _ ⟨by simp, by simp⟩ (fun o ho _ => ⟨by simp [Corr.at, Corr.put], by simp [capOk]⟩)
          · intro i hi
            simp only [List.length_take, hz] at hi
            have hi' : i < zs.length := by omega
            simp [cellAt, getc, Heap.put, hi', List.getElem_take]
            refine ⟨by omega, ?_⟩
            rw [← List.map_drop, ← List.map_take, List.take_one, List.head?_drop, List.getElem?_eq_getElem hi']
            rfl
          · intro id o ho
            by_cases e : id = nx
            · simp only [Heap.put, e, if_true, Option.some.injEq] at ho; subst ho; rfl
            · simp only [Heap.put, e, if_false] at ho; exact hro id o ho
theorem law_callsT {T : Tables} {f : FuncId} {ars : List Arg} {vs : List Value} {W : World} (hT : Tabs T W) (hc : All2 (Arg.came W) ars vs)
    (h : ∀ nx H us, All2 (Arg.at H) ars us → (∀ id o, H id = some o → id < nx) → (∀ g o, (tabTree T).get g = some o → H g = some o) → ACalls P W f us nx H fun v _ _ => v = .bool true) :
    Calls P f vs.toArray W fun e w' => e = .returned (.bool true) ∧ Below W.heap.size W w' := by
  obtain ⟨nx, H, C, us, hR, hV, hA, _, _, htb⟩ := start W hT ars vs hc
  refine (h nx H us hA (fun id o ho => (hR.lt id o ho).1) htb C W vs hR hV).mono ?_
  rintro e w' ⟨v, v', C', nx', H', rfl, rfl, hR', hv, _⟩
  cases hv
  exact ⟨rfl, hR'.below⟩
theorem law_calls {f : FuncId} {ars : List Arg} {vs : List Value} {W : World} (hc : All2 (Arg.came W) ars vs) (h : ∀ nx H us, All2 (Arg.at H) ars us → (∀ id o, H id = some o → id < nx) → ACalls P W f us nx H fun v _ _ => v = .bool true) :
    Calls P f vs.toArray W fun e w' => e = .returned (.bool true) ∧ Below W.heap.size W w' :=
  law_callsT Tabs.nil hc fun nx H us h1 h2 _ => h nx H us h1 h2
theorem rowAt_le {fits : TypeId → Bool} : ∀ (d : Nat) (e : TypeId) (count off n : Nat), rowAt P fits d e count off n = true → P.cellsOf e ≠ 0 ∧ off ≤ count * P.cellsOf e := by
  intro d
  cases d with
  | zero => intro e count off n h; cases h
  | succ d =>
    intro e count off n h
    simp only [rowAt] at h
    split at h
    · cases h
    · rename_i hs
      refine ⟨hs, ?_⟩
      have hd := Nat.div_add_mod off (P.cellsOf e)
      simp only [Bool.or_eq_true, Bool.and_eq_true, beq_iff_eq, decide_eq_true_eq] at h
      rcases h with ⟨⟨h1, h2⟩, _⟩ | ⟨h1, _⟩
      · have := Nat.mul_le_mul_right (P.cellsOf e) (show off / P.cellsOf e ≤ count by omega)
        rw [h1, Nat.mul_comm] at hd
        omega
      · have := Nat.mul_le_mul_right (P.cellsOf e) (show off / P.cellsOf e + 1 ≤ count by omega)
        have hm := Nat.mod_lt off (Nat.pos_of_ne_zero hs)
        rw [Nat.add_mul, Nat.mul_comm (off / _)] at this
        omega
theorem liesAt_le : ∀ (d : Nat) (e : TypeId) (count off : Nat) (u : TypeId) (n : Nat), liesAt P d e count off u n = true → off ≤ count * P.cellsOf e := by
  intro d
  induction d with
  | zero => intro e count off u n h; cases h
  | succ d ih =>
    intro e count off u n h
    simp only [liesAt, Bool.or_eq_true] at h
    rcases h with h | h
    · exact (rowAt_le _ _ _ _ _ h).2
    · split at h
      · exact ih _ _ _ _ _ h
      · cases h
variable {E : Type} {enc : TypeId × Value → E} {W : World}
theorem came_ints {t e : TypeId} {k : IntKind} {r : Reach} {b0 : Nat} {v : Value} {d : DataW E} {ps : List MemPlace} (ht : P.underlying t = some (.slice e)) (he : P.underlying e = some (.int k)) (hc : P.cellsOf e = 1)
    (hval : Value.okWide P W r b0 t v) (h : DataW.Trod enc P W 0 (fun _ => true) true t v d ps) : ∃ xs, Arg.came W (.ints k xs) v ∧ ∀ x ∈ xs, (Lit.int k x).wf = true := by
  obtain ⟨a0, len0, cap0, rfl⟩ := okWide_slice ht hval
  obtain ⟨fuel, hf⟩ := h
  simp only [Value.okWide, ht, Cell.okWide] at hval
  rcases open_ints ht he hc hf with ⟨h1, _⟩ | ⟨a, len, cap, zs, h1, _, hle, hmax, hz, hx, hcell, hwf⟩
  · simp [Value.cells] at h1
    obtain ⟨rfl, rfl, rfl⟩ := h1
    exact ⟨[], .inl ⟨rfl, rfl⟩, fun x hx => by cases hx⟩
  · simp [Value.cells] at h1
    obtain ⟨rfl, rfl, rfl⟩ := h1
    simp only [if_true] at hz
    have hok : len0 ≤ cap0 ∧ (cap0 : Int) ≤ IntKind.i64.max ∧ W.has P r b0 a e cap0 := by
      simpa [Cell.ok, ht] using hval
    obtain ⟨_, _, _, hsp, row, cells, hsh, hlies⟩ := hok
    obtain ⟨b, off, sp⟩ := a
    simp only at hsp
    subst hsp
    simp only [World.shape?] at hsh
    split at hsh
    case h_2 => cases hsh
    rename_i Cc el fr hw
    simp only [Option.some.injEq, Prod.mk.injEq] at hsh
    obtain ⟨rfl, rfl⟩ := hsh
    have hoff : off ≤ Cc.size := by
      have h1 := liesAt_le _ _ _ _ _ _ hlies
      have h2 := Nat.div_mul_le_self Cc.size (P.cellsOf el)
      exact Nat.le_trans h1 h2
    have hcells : ∀ i, i < cap0 → Cc[off + i]? = some (.int k (zs.getD i 0)) := fun i hi => by
      have := hcell i (by omega)
      simpa [add_none, World.cell?, hw] using this
    have hle2 : off + cap0 ≤ Cc.size := by
      rcases Nat.eq_zero_or_pos cap0 with h0 | h0
      · omega
      · have := hcells (cap0 - 1) (by omega)
        have := (Array.getElem?_eq_some_iff.1 this).1
        omega
    exact ⟨zs.take len0, .inr ⟨b, off, len0, cap0, zs, Cc, el, fr, rfl, hle, hz, rfl, hw, hle2, hcells⟩, fun x hx => hwf x (List.mem_of_mem_take hx)⟩
end
end Go.Am
