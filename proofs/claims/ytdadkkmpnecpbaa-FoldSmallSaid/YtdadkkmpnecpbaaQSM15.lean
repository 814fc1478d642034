import Derived.Test.YtdadkkmpnecpbaaQSM14
namespace Go.Am
set_option linter.unusedSimpArgs false
set_option linter.unusedVariables false
set_option linter.unnecessarySimpa false
open Go.RowKit
def depsO (o : Oper) : List Nat := o.after.toList.filterMap fun e => if Region.binds .any e then some e.on else none
theorem depsO_dep {o : Oper} {j : Nat} (h : j ∈ depsO o) : dep o j := by
  unfold depsO at h
  rw [List.mem_filterMap] at h
  obtain ⟨e, he, h⟩ := h
  split at h
  · rename_i hb
    simp only [Option.some.injEq] at h
    exact ⟨e, by simpa using he, hb, h⟩
  · cases h
def reachL (ops : Array Oper) (o : Oper) : List Nat :=
  (List.range ops.size).reverse.foldl (fun S k => if S.any (Nat.beq k) then S ++ (match ops[k]? with | some ok => depsO ok | none => []) else S) (depsO o)
def depT (ops : Array Oper) (j i : Nat) : Bool := match ops[j]? with | some oj => depNB ops 4 oj i || (reachL ops oj).any (Nat.beq i) | none => false
def depD (ops : Array Oper) (j i : Nat) : Bool := match ops[j]? with | some oj => depB oj i | none => false
def front (ops : Array Oper) (l : List Nat) (i : Nat) : Bool := l.all fun j => !depD ops i j
def edgeR (ops : Array Oper) (acts : List Nat) (i : Nat) (o : Oper) (l : List Nat) : Bool := heapFree o.op || l.all fun j => !acts.contains j || depT ops j i
def ActStep (P : Program) (W0 : World) (ops : Array Oper) (acts : List Nat) (K : Nat → Heap → Prop) (i : Nat) (st : ASt) (N : ASt → Prop) : Prop :=
  ∃ o, ops[i]? = some o ∧ dstOk st o = true ∧ acts.contains i = true ∧
    ((wants ops st o = false ∧ N (st.put o.dst undef .none)) ∨
     (wants ops st o = true ∧
       ((∃ v e, aop P st.H st.nx st.ev o = some (v, e) ∧ K (e.nx st.nx) (e.H st.nx st.H) ∧ N (st.put o.dst v e)) ∨
        (∃ f args R, callee st o = some (f, args) ∧ Enters P f ∧ ACalls P W0 f args st.nx st.H R ∧ ∀ v nx' H', R v nx' H' → K nx' H' ∧ N ⟨tmPut st.tm o.dst v, st.n, H', nx'⟩))))
def OpsR (P : Program) (W0 : World) (ops : Array Oper) (acts : List Nat) (K : Nat → Heap → Prop) : Nat → List Nat → ASt → (ASt → Prop) → Prop
  | _, [], st, Q => Q st
  | 0, _ :: _, _, _ => False
  | m + 1, i :: l, st, Q =>
    (acts.contains i = false ∧ front ops l i = true ∧ ∃ o, ops[i]? = some o ∧ dstOk st o = true ∧
      ((wants ops st o = false ∧ OpsR P W0 ops acts K m l (st.put o.dst undef .none) Q) ∨
       (wants ops st o = true ∧ ∃ v, aop P st.H st.nx st.ev o = some (v, .none) ∧ (edgeR ops acts i o l = true ∨ ∀ H' nx', K nx' H' → aop P H' nx' st.ev o = some (v, .none)) ∧ OpsR P W0 ops acts K m l (st.put o.dst v .none) Q))) ∨
    (∀ j ∈ i :: l, front ops ((i :: l).erase j) j = true → ActStep P W0 ops acts K j st fun s => OpsR P W0 ops acts K m ((i :: l).erase j) s Q)
section
variable {P : Program} {W0 : World} {ops : Array Oper} {acts : List Nat} {K : Nat → Heap → Prop}
theorem aop_evR {st : ASt} {o : Oper} {H : Heap} {nx : Nat} : aop P H nx (evR (opTs o) st.tm) o = aop P H nx st.ev o :=
  aop_congr (fun x hx => evR_mem (n := st.n) (nx := st.nx) (H := st.H) (fun t ht => mem_opTs (by rw [← ht]; exact hx)))
theorem front_iff {l : List Nat} {i : Nat} : front ops l i = true ↔ ∀ j ∈ l, depD ops i j = false := by
  unfold front
  rw [List.all_eq_true]
  constructor
  · intro h j hj; have := h j hj; simpa using this
  · intro h j hj; simp [h j hj]
def Pend (P : Program) (ops : Array Oper) (acts : List Nat) (K : Nat → Heap → Prop) (L : List Nat) (T : Nat → Value) (n : Nat) (H : Heap) (nx : Nat) (i : Nat) (o : Oper) : Prop :=
  (∀ d, o.dst = some d → d < n) ∧ ∃ val, (∀ d, o.dst = some d → T d = val) ∧ ((wantsT ops T o = false ∧ val = undef) ∨
    (wantsT ops T o = true ∧ aop P H nx (evR (opTs o) T) o = some (val, .none) ∧ ((∀ j ∈ L, acts.contains j = true → depT ops j i = true) ∨ ∀ H' nx', K nx' H' → aop P H' nx' (evR (opTs o) T) o = some (val, .none))))
variable {D L : List Nat} {listed : Array Bool} {tm T : Nat → Value} {n nx : Nat} {H : Heap}
theorem reach_listed (down : ∀ (i : Nat) (o : Oper), ops[i]? = some o → listed.getD i false = true → ∀ j, dep o j → listed.getD j false = true) : ∀ (m : Nat) (o : Oper) (i : Nat), (∀ j, dep o j → listed.getD j false = true) → depN ops m o i → listed.getD i false = true := by
  intro m
  induction m with
  | zero => intro o i ha hd; exact ha i hd
  | succ m ihm =>
    intro o i ha hd
    rcases hd with hd | ⟨k, ok, hok, hdk, hd⟩
    · exact ha i hd
    · exact ihm ok i (fun j hj => down k ok hok (ha k hdk) j hj) hd
theorem depT_listed (down : ∀ (i : Nat) (o : Oper), ops[i]? = some o → listed.getD i false = true → ∀ j, dep o j → listed.getD j false = true) {i j : Nat} {o : Oper} (ho : ops[j]? = some o) (hall : ∀ k, dep o k → listed.getD k false = true) (h : depT ops j i = true) : listed.getD i false = true := by
  unfold depT at h
  rw [ho] at h
  rcases Bool.or_eq_true _ _ ▸ h with h | h
  · exact reach_listed down 4 o i hall (depNB_iff _ _ _ h)
  · have key : ∀ (l : List Nat) (S : List Nat), (∀ x ∈ S, listed.getD x false = true) → ∀ x ∈ l.foldl (fun S k => if S.any (Nat.beq k) then S ++ (match ops[k]? with | some ok => depsO ok | none => []) else S) S, listed.getD x false = true := by
      intro l
      induction l with
      | nil => intro S hS x hx; exact hS x hx
      | cons k l ih =>
        intro S hS x hx
        refine ih _ (fun y hy => ?_) x hx
        dsimp only at hy
        split at hy
        · rename_i hk
          rw [List.any_eq_true] at hk
          obtain ⟨z, hz, hkz⟩ := hk
          have hkz := Nat.eq_of_beq_eq_true hkz
          subst hkz
          rcases List.mem_append.1 hy with hy | hy
          · exact hS y hy
          · split at hy
            · rename_i ok hok
              exact down _ ok hok (hS _ hz) y (depsO_dep hy)
            · cases hy
        · exact hS y hy
    rw [List.any_eq_true] at h
    obtain ⟨z, hz, hiz⟩ := h
    have hiz := Nat.eq_of_beq_eq_true hiz
    subst hiz
    exact key _ _ (fun x hx => hall x (depsO_dep hx)) _ hz
theorem callR_wp {ρ : Option Nat} {C : Corr} {o : Oper} {f : FuncId} {args : List Value} {R : Value → Nat → Heap → Prop} {a : Act} {w : World} {i : Nat} {KK : Act → World → Prop} {Q : Exit → Act → World → Prop} (hs : SRel W0 C ⟨tm, n, H, nx⟩ a w) (hd : ∀ d, o.dst = some d → d < n) (hw : wantsT ops tm o = true)
    (hc : calleeE (evR (opTs o) tm) o = some (f, args)) (hf : Enters P f) (hcall : ACalls P W0 f args nx H R) (ho : ops[i]? = some o)
    (hk : ∀ v nx' H' C' v' w', R v nx' H' → SRel W0 C' ⟨tmPut tm o.dst v, n, H', nx'⟩ (a.put o.dst v') w' → Stp nx H C nx' H' C' → KK (a.put o.dst v') w') : wpOpIn (rf ρ) 0 P ops Q i KK a w := by
  have hww := wants_sound hs ops o
  rw [← wantsT_wants] at hww
  unfold wpOpIn
  rw [ho]
  simp only [hww, hw, if_true]
  refine ⟨fun _ _ => trivial, ?_⟩
  have hE' := calleeE_sound hs (evR_ev _ _) hc
  obtain ⟨args', hrun, hargs⟩ := callee_sound hs hE' hf
  rw [callee_semAt hE', hrun]
  refine ⟨fun h => (by cases h), callsIn_rf ((hcall C w args' hs.rel hargs).mono ?_)⟩
  rintro e w'' ⟨v0, v', C', nx1, H1, rfl, hr, hR, hv, hS⟩
  exact hk v0 nx1 H1 C' v' w'' hr (hs.put hd hR hS hv) hS
/-! ### one operation each -/
theorem OpsR.nil {m : Nat} {st : ASt} {Q : ASt → Prop} (h : Q st) : OpsR P W0 ops acts K m [] st Q := by cases m <;> exact h
theorem OpsR.one {m i : Nat} {l : List Nat} {o : Oper} {st : ASt} {Q : ASt → Prop} (ho : ops[i]? = some o) (hn : acts.contains i = false) (he : effOp o.op = false) (hk : (front ops l i && edgeR ops acts i o l) = true) (h : OpsL P W0 ops [o] st fun s => OpsR P W0 ops acts K m l s Q) : OpsR P W0 ops acts K (m + 1) (i :: l) st Q := by
  rw [Bool.and_eq_true] at hk
  obtain ⟨hd, h⟩ := h
  refine .inl ⟨hn, hk.1, o, ho, hd, ?_⟩
  rcases h with ⟨hw, h⟩ | ⟨hw, ⟨v, e, hop, h⟩ | ⟨f, args, R, hc, _⟩⟩
  · exact .inl ⟨hw, h⟩
  · have := effOp_none he hop
    subst this
    exact .inr ⟨hw, v, hop, .inl hk.2, h⟩
  · have := goCall_eff (callee_goCall hc)
    rw [he] at this
    cases this
def waitAll (ops : Array Oper) (l all : List Nat) : Bool := l.all fun j => (all.erase j).any fun k => depD ops j k
theorem waitAll_spec {l all : List Nat} (h : waitAll ops l all = true) {j : Nat} (hj : j ∈ l) : front ops (all.erase j) j = false := by
  unfold waitAll at h
  rw [List.all_eq_true] at h
  have := h j hj
  rw [List.any_eq_true] at this
  obtain ⟨k, hk, hd⟩ := this
  cases hf : front ops (all.erase j) j with
  | false => rfl
  | true => rw [front_iff.1 hf k hk] at hd; cases hd
theorem OpsR.act {m i : Nat} {l : List Nat} {st : ASt} {Q : ASt → Prop} (hw : waitAll ops l (i :: l) = true) (h : ActStep P W0 ops acts K i st fun s => OpsR P W0 ops acts K m l s Q) : OpsR P W0 ops acts K (m + 1) (i :: l) st Q := by
  refine .inr fun j hj hf => ?_
  by_cases e : j = i
  · subst e
    rw [List.erase_cons_head]
    exact h
  · have hj2 : j ∈ l := by
      rcases List.mem_cons.1 hj with h | h
      · exact absurd h e
      · exact h
    rw [waitAll_spec hw hj2] at hf
    cases hf
section
variable {i : Nat} {d : Tmp} {ts : Array TypeId} {type : TypeId} {pos : String} {after : Array Edge} {tm : Nat → Value} {n nx : Nat} {H : Heap} {f : FuncId} {R : Value → Nat → Heap → Prop} {N : ASt → Prop}
end
end
end Go.Am
