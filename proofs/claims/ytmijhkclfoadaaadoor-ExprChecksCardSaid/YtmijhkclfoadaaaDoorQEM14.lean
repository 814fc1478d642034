import Derived.Test.YtmijhkclfoadaaaDoorQEM13
namespace Go.Am
set_option linter.unusedSimpArgs false
set_option linter.unusedVariables false
open Go.RowKit
noncomputable section
structure CSt where
  tt : Tree Value
  n : Nat
  ht : Tree AObj
  nx : Nat
  asm : List (FuncId × List Value × Value)
def CSt.tm (s : CSt) (t : Nat) : Value := (s.tt.get t).getD undef
def CSt.st (s : CSt) : ASt := ⟨s.tm, s.n, s.ht.get, s.nx⟩
def Eff.tree (e : Eff) (nx : Nat) (t : Tree AObj) : Tree AObj :=
  match e with
  | .none => t
  | .new o => t.set nx o
  | .upd id o => t.set id o
  | .bump id o => t.set id o
theorem Eff.tree_get (e : Eff) (nx : Nat) (t : Tree AObj) : (e.tree nx t).get = e.H nx t.get := by
  funext m
  cases e <;> simp [Eff.tree, Eff.H, Tree.get_set, Heap.put]
def CSt.put (s : CSt) (dst : Option Tmp) (v : Value) (ht : Tree AObj) (nx : Nat) (asm : List (FuncId × List Value × Value)) : CSt :=
  match s with
  | ⟨tt, n, _, _, _⟩ => ⟨match dst with | some d => tt.set d v | none => tt, n, ht, nx, asm⟩
theorem CSt.put_st (s : CSt) (dst : Option Tmp) (v : Value) (ht : Tree AObj) (nx : Nat) (asm : List (FuncId × List Value × Value)) : (s.put dst v ht nx asm).st = ⟨tmPut s.st.tm dst v, s.n, ht.get, nx⟩ := by
  cases s
  cases dst with
  | none => rfl
  | some d =>
    simp only [CSt.put, CSt.st, tmPut]
    congr 1
    funext t
    simp only [CSt.tm, Tree.get_set]
    split <;> simp
inductive Job where
  | code (c : Code)
  | loop (c : Code)
  | scope (b c : Code)
  | ops (ops : Array Oper) (l : List Oper)
  | dops (ops : Array Oper) (l : List Oper)
  | call (f : FuncId) (args : List Value)
structure DTr where
  s : CSt
  v : Value
  e : Bool
structure Out where
  x : AExit
  v : Value
  s : CSt
  tr : List DTr
def argTree : List Value → Nat → Tree Value → Tree Value
  | [], _, t => t
  | v :: l, i, t => argTree l (i + 1) (t.set i v)
def aResult (P : Program) (st : ASt) : ResultVar → Option Value
  | .tmp t => some (st.tm t)
  | .cell a t =>
    match st.tm a with
    | .pointer (some a) => readAt P st.H t a
    | _ => none
def aResultL (P : Program) (st : ASt) : List ResultVar → Option (List Value)
  | [] => some []
  | r :: l =>
    match aResult P st r, aResultL P st l with
    | some v, some vs => some (v :: vs)
    | _, _ => none
def aResults (P : Program) (st : ASt) (rs : Array ResultVar) : Option Value :=
  match aResultL P st rs.toList with
  | some [v] => some v
  | some l => some (.tuple l.toArray)
  | none => none
def allIdx {α : Type} (f : Nat → α → Bool) : Nat → List α → Bool
  | _, [] => true
  | i, x :: l => f i x && allIdx f (i + 1) l
theorem allIdx_spec {α : Type} {f : Nat → α → Bool} : ∀ (l : List α) (k : Nat), allIdx f k l = true → ∀ i x, l[i]? = some x → f (k + i) x = true := by
  intro l
  induction l with
  | nil => intro k _ i x h; simp at h
  | cons y l ih =>
    intro k h i x hx
    simp only [allIdx, Bool.and_eq_true] at h
    cases i with
    | zero => simp only [List.getElem?_cons_zero, Option.some.injEq] at hx; subst hx; exact h.1
    | succ i =>
      have := ih (k + 1) h.2 i x (by simpa using hx)
      rwa [show k + 1 + i = k + (i + 1) by omega] at this
def depB (o : Oper) (j : Nat) : Bool := o.after.toList.any fun e => Region.binds .any e && e.on == j
theorem depB_iff {o : Oper} {j : Nat} : depB o j = true ↔ dep o j := by
  unfold depB dep
  rw [List.any_eq_true]
  constructor
  · rintro ⟨e, he, h⟩
    simp only [Bool.and_eq_true, beq_iff_eq] at h
    exact ⟨e, by simpa using he, h.1, h.2⟩
  · rintro ⟨e, he, h1, h2⟩
    exact ⟨e, by simpa using he, by simp [h1, h2]⟩
def statOk (ops : Array Oper) : Bool :=
  allIdx (fun i o => o.after.toList.all fun e => !Region.binds .any e || decide (e.on < i)) 0 ops.toList &&
  allIdx (fun i oi => allIdx (fun j oj => i == j || (match oi.dst, oj.dst with | some d, some d' => d != d' | _, _ => true)) 0 ops.toList) 0 ops.toList &&
  allIdx (fun i oi => allIdx (fun j oj => i == j || (match oj.dst with
    | some t => if (opTs oi).contains t || gdst ops oi == some t then (if j < i then depB oi j else depB oj i) else true
    | none => true)) 0 ops.toList) 0 ops.toList
theorem nbeq {a b : Nat} (h : Nat.beq a b = true) : a = b := Nat.eq_of_beq_eq_true h
def beqON : Option Nat → Option Nat → Bool
  | none, none => true
  | some a, some b => Nat.beq a b
  | _, _ => false
theorem beqON_spec {a b : Option Nat} (h : beqON a b = true) : a = b := by
  cases a <;> cases b <;> simp only [beqON] at h <;> first | rfl | (cases h; done) | rw [nbeq h]
def beqA (a b : Addr) : Bool := Nat.beq a.block b.block && Nat.beq a.off b.off && beqON a.spot b.spot
theorem beqA_spec {a b : Addr} (h : beqA a b = true) : a = b := by
  simp only [beqA, Bool.and_eq_true] at h
  obtain ⟨⟨h1, h2⟩, h3⟩ := h
  cases a
  cases b
  simp only at h1 h2 h3
  rw [nbeq h1, nbeq h2, beqON_spec h3]
def beqOA : Option Addr → Option Addr → Bool
  | none, none => true
  | some a, some b => beqA a b
  | _, _ => false
theorem beqOA_spec {a b : Option Addr} (h : beqOA a b = true) : a = b := by
  cases a <;> cases b <;> simp only [beqOA] at h <;> first | rfl | (cases h; done) | rw [beqA_spec h]
def beqI : Int → Int → Bool
  | .ofNat a, .ofNat b => Nat.beq a b
  | .negSucc a, .negSucc b => Nat.beq a b
  | _, _ => false
theorem beqI_spec {a b : Int} (h : beqI a b = true) : a = b := by
  cases a <;> cases b <;> simp only [beqI] at h <;> first | (cases h; done) | rw [nbeq h]
def veq1 : Value → Value → Bool
  | .bool a, .bool b => a == b
  | .int k a, .int k' b => decide (k = k') && beqI a b
  | .string a, .string b => a.data.toList == b.data.toList
  | .nilFunc, .nilFunc => true
  | .nilIface, .nilIface => true
  | .pointer a, .pointer b => beqOA a b
  | .slice a l c, .slice a' l' c' => beqOA a a' && Nat.beq l l' && Nat.beq c c'
  | .map a, .map b => beqON a b
  | .func (.func f) a b, .func (.func g) a' b' => Nat.beq f g && a.toList.isEmpty && a'.toList.isEmpty && b.toList.isEmpty && b'.toList.isEmpty
  | _, _ => false
def veqL : List Value → List Value → Bool
  | [], [] => true
  | a :: l, b :: l' => veq1 a b && veqL l l'
  | _, _ => false
def veqA : Value → Value → Bool
  | .agg a, .agg b => veqL a.toList b.toList
  | a, b => veq1 a b
def veqT : List Value → List Value → Bool
  | [], [] => true
  | a :: l, b :: l' => veqA a b && veqT l l'
  | _, _ => false
def veq : Value → Value → Bool
  | .agg a, .agg b => veqL a.toList b.toList
  | .tuple a, .tuple b => veqT a.toList b.toList
  | a, b => veq1 a b
theorem veq1_spec {a b : Value} (h : veq1 a b = true) : a = b := by
  unfold veq1 at h
  split at h
  case h_9 =>
    rename_i f a b g a' b'
    simp only [Bool.and_eq_true, List.isEmpty_iff] at h
    obtain ⟨⟨⟨⟨h0, h1⟩, h2⟩, h3⟩, h4⟩ := h
    obtain rfl := nbeq h0
    have e1 : a = #[] := by apply Array.ext'; simpa using h1
    have e2 : a' = #[] := by apply Array.ext'; simpa using h2
    have e3 : b = #[] := by apply Array.ext'; simpa using h3
    have e4 : b' = #[] := by apply Array.ext'; simpa using h4
    rw [e1, e2, e3, e4]
  case h_1 => rw [beq_iff_eq] at h; rw [h]
  case h_2 => simp only [Bool.and_eq_true, decide_eq_true_eq] at h; obtain ⟨rfl, h⟩ := h; rw [beqI_spec h]
  case h_3 x y =>
    rw [beq_iff_eq] at h
    obtain ⟨⟨x⟩⟩ := x
    obtain ⟨⟨y⟩⟩ := y
    simp only at h
    rw [h]
  case h_6 => rw [beqOA_spec h]
  case h_7 => simp only [Bool.and_eq_true] at h; obtain ⟨⟨h1, h2⟩, h3⟩ := h; rw [beqOA_spec h1, nbeq h2, nbeq h3]
  case h_8 => rw [beqON_spec h]
  case h_10 => cases h
  all_goals rfl
theorem veqL_spec : ∀ {a b : List Value}, veqL a b = true → a = b := by
  intro a
  induction a with
  | nil => intro b h; cases b with
    | nil => rfl
    | cons x y => simp [veqL] at h
  | cons x l ih =>
    intro b h
    cases b with
    | nil => simp [veqL] at h
    | cons y l' =>
      simp only [veqL, Bool.and_eq_true] at h
      rw [veq1_spec h.1, ih h.2]
theorem veqA_spec {a b : Value} (h : veqA a b = true) : a = b := by
  unfold veqA at h
  split at h
  · rename_i x y; have := veqL_spec h; obtain ⟨x⟩ := x; obtain ⟨y⟩ := y; simp only at this; rw [this]
  · exact veq1_spec h
theorem veqT_spec : ∀ {a b : List Value}, veqT a b = true → a = b := by
  intro a
  induction a with
  | nil => intro b h; cases b with
    | nil => rfl
    | cons x y => simp [veqT] at h
  | cons x l ih =>
    intro b h
    cases b with
    | nil => simp [veqT] at h
    | cons y l' =>
      simp only [veqT, Bool.and_eq_true] at h
      rw [veqA_spec h.1, ih h.2]
theorem veq_spec {a b : Value} (h : veq a b = true) : a = b := by
  unfold veq at h
  split at h
  · rename_i x y; have := veqL_spec h; obtain ⟨x⟩ := x; obtain ⟨y⟩ := y; simp only at this; rw [this]
  · rename_i x y; have := veqT_spec h; obtain ⟨x⟩ := x; obtain ⟨y⟩ := y; simp only at this; rw [this]
  · exact veq1_spec h
def sameAns (r : Option (Value × Eff)) (v : Value) : Bool :=
  match r with
  | some (u, .none) => veq u v
  | _ => false
theorem sameAns_spec {r : Option (Value × Eff)} {v : Value} (h : sameAns r v = true) : r = some (v, .none) := by
  unfold sameAns at h
  split at h
  · rw [veq_spec h]
  · cases h
def dynOk (P : Program) (ops : Array Oper) (tr : List DTr) (s' : CSt) : Bool :=
  let es := (tr.zipIdx.filter fun x => x.1.e).map (·.2)
  let at_ (p : Nat) : CSt := match tr[p]? with | some d => d.s | none => s'
  -- one behind the other
  allIdx (fun j oj => !es.contains j || es.all fun i => !(decide (i < j) && es.all fun k => !(decide (i < k) && decide (k < j))) || depB oj i) 0 ops.toList &&
  allIdx (fun i oi => match tr[i]? with
    | some d => d.e || !wantsT ops d.s.tm oi || (0 :: es.map (· + 1)).all fun p =>
        es.any (fun j => depB oi j && decide (p ≤ j)) || es.any (fun e => decide (e < p) && (match ops[e]? with | some oe => depB oe i | none => false)) ||
        sameAns (aop P (at_ p).ht.get (at_ p).nx (evR (opTs oi) d.s.tm) oi) d.v
    | none => false) 0 ops.toList
def Eff.isNone : Eff → Bool
  | .none => true
  | _ => false
def exec (P : Program) (xs : List Nat) (ov : FuncId → List Value → Option Value) : Nat → Job → CSt → Option Out
  | 0, _, _ => none
  | n + 1, job, s =>
    match job with
    | .code c =>
      match c with
      | .skip => some ⟨.normal, undef, s, []⟩
      | .label _ => some ⟨.normal, undef, s, []⟩
      | .exit id => some ⟨.exit id, undef, s, []⟩
      | .goto l => some ⟨.goto l, undef, s, []⟩
      | .ret => some ⟨.ret, undef, s, []⟩
      | .seq a b =>
        match exec P xs ov n (.code a) s with
        | some ⟨.normal, _, s', _⟩ => exec P xs ov n (.code b) s'
        | r => r
      | .cond c a b =>
        match s.st.ev c with
        | some (.bool true) => exec P xs ov n (.code a) s
        | some (.bool false) => exec P xs ov n (.code b) s
        | _ => none
      | .block id c =>
        match exec P xs ov n (.code c) s with
        | some ⟨.exit id', v, s', t⟩ => if id' = id then some ⟨.normal, v, s', t⟩ else some ⟨.exit id', v, s', t⟩
        | r => r
      | .loop c => exec P xs ov n (.loop c) s
      | .region _ ops draw =>
        if draw then
          if statOk ops then
            match exec P xs ov n (.dops ops ops.toList) s with
            | some ⟨_, _, s', tr⟩ => if dynOk P ops tr s' then some ⟨.normal, undef, s', []⟩ else none
            | none => none
          else none
        else exec P xs ov n (.ops ops ops.toList) s
      | .scope b => exec P xs ov n (.scope b b) s
      | _ => none
    | .loop c =>
      match exec P xs ov n (.code c) s with
      | some ⟨.normal, _, s', _⟩ => exec P xs ov n (.loop c) s'
      | r => r
    | .scope b c =>
      match exec P xs ov n (.code c) s with
      | some ⟨.goto l, v, s', t⟩ =>
        match findLabel b l with
        | some rest => exec P xs ov n (.scope b rest) s'
        | none => some ⟨.goto l, v, s', t⟩
      | r => r
    | .ops _ [] => some ⟨.normal, undef, s, []⟩
    | .ops ops (o :: l) =>
      if dstOk s.st o then
        if wants ops s.st o then
          match callee s.st o with
          | some (f, args) =>
            if xs.contains f then
              match args with
              | [x] => exec P xs ov n (.ops ops l) (s.put o.dst x s.ht s.nx s.asm)
              | _ => none
            else
              match exec P xs ov n (.call f args) s with
              | some ⟨_, v, s', _⟩ => exec P xs ov n (.ops ops l) (s.put o.dst v s'.ht s'.nx s'.asm)
              | none => none
          | none =>
            match aop P s.ht.get s.nx s.st.ev o with
            | some (v, e) => exec P xs ov n (.ops ops l) (s.put o.dst v (e.tree s.nx s.ht) (e.nx s.nx) s.asm)
            | none => none
        else exec P xs ov n (.ops ops l) (s.put o.dst undef s.ht s.nx s.asm)
      else none
    | .dops _ [] => some ⟨.normal, undef, s, []⟩
    | .dops ops (o :: l) =>
      if dstOk s.st o then
        if wantsT ops s.tm o then
          match calleeE (evR (opTs o) s.tm) o with
          | some (f, args) =>
            match exec P xs ov n (.call f args) s with
            | some ⟨_, v, s', _⟩ =>
              match exec P xs ov n (.dops ops l) (s.put o.dst v s'.ht s'.nx s'.asm) with
              | some ⟨x, u, s2, tr⟩ => some ⟨x, u, s2, ⟨s, v, true⟩ :: tr⟩
              | none => none
            | none => none
          | none =>
            match aop P s.ht.get s.nx (evR (opTs o) s.tm) o with
            | some (v, e) =>
              match exec P xs ov n (.dops ops l) (s.put o.dst v (e.tree s.nx s.ht) (e.nx s.nx) s.asm) with
              | some ⟨x, u, s2, tr⟩ => some ⟨x, u, s2, ⟨s, v, !e.isNone⟩ :: tr⟩
              | none => none
            | none => none
        else
          match exec P xs ov n (.dops ops l) (s.put o.dst undef s.ht s.nx s.asm) with
          | some ⟨x, u, s2, tr⟩ => some ⟨x, u, s2, ⟨s, undef, false⟩ :: tr⟩
          | none => none
      else none
    | .call f args =>
      match ov f args with
      | some v => some ⟨.ret, v, ⟨s.tt, s.n, s.ht, s.nx, (f, args, v) :: s.asm⟩, []⟩
      | none =>
      match P.funcs[f]? with
      | some fn =>
        match fn.body with
        | some c =>
          match exec P xs ov n (.code c) ⟨argTree args 0 .leaf, args.length + (fn.ntmps - args.length), s.ht, s.nx, s.asm⟩ with
          | some ⟨.normal, _, s', _⟩ => (aResults P s'.st fn.results).map fun v => ⟨.ret, v, s', []⟩
          | some ⟨.ret, _, s', _⟩ => (aResults P s'.st fn.results).map fun v => ⟨.ret, v, s', []⟩
          | _ => none
        | none => none
      | none => none
end
end Go.Am
