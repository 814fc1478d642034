import Derived.Test.YtmijhkclfoadaaaDoorQEM25
import Derived.Test.YtmijhkclfoadaaaDoorQEM27
namespace Go.Am
set_option linter.unusedSimpArgs false
set_option linter.unusedVariables false
open Go.RowKit
noncomputable section
def refsV : Nat → Value → List Nat
  | 0, _ => []
  | n + 1, v =>
    match v with
    | .pointer (some a) => [a.block]
    | .slice (some a) _ _ => [a.block]
    | .map (some r) => [r]
    | .chan (some l) => [l]
    | .func _ a b => (a.toList ++ b.toList).flatMap (refsV n)
    | .iface _ v => refsV n v
    | .agg a => a.toList.flatMap (refsV n)
    | .tuple a => a.toList.flatMap (refsV n)
    | _ => []
def refsO : AObj → List Nat
  | .cells c _ _ _ _ => c.flatMap (refsV 8)
  | .map es _ _ => es.flatMap fun x => refsV 8 x.1 ++ refsV 8 x.2
  | .siter _ _ => []
  | .miter (some m) _ _ _ => [m]
  | .miter none _ _ _ => []
  | .loop _ _ _ _ _ _ _ => []
def markG (H : Tree AObj) : Nat → List Nat → Tree Unit → Tree Unit
  | 0, _, t => t
  | _ + 1, [], t => t
  | n + 1, x :: l, t =>
    match t.get x with
    | some _ => markG H n l t
    | none =>
      match H.get x with
      | some o => markG H n (refsO o ++ l) (t.set x ())
      | none => markG H n l t
def keepG (H : Tree AObj) (t : Tree Unit) : Nat → Nat → List (Nat × AObj)
  | _, 0 => []
  | i, k + 1 =>
    match t.get i with
    | some _ =>
      match H.get i with
      | some o => (i, o) :: keepG H t (i + 1) k
      | none => keepG H t (i + 1) k
    | none => keepG H t (i + 1) k
def rebuild (ks : List (Nat × AObj)) : Tree AObj := ks.foldl (fun t x => t.set x.1 x.2) .leaf
theorem keepG_mem (H : Tree AObj) (t : Tree Unit) : ∀ (k i : Nat) (x : Nat × AObj), x ∈ keepG H t i k → H.get x.1 = some x.2 := by
  intro k
  induction k with
  | zero => intro i x h; simp [keepG] at h
  | succ k ih =>
    intro i x h
    simp only [keepG] at h
    split at h
    · split at h
      · rename_i o ho
        rcases List.mem_cons.1 h with rfl | h
        · exact ho
        · exact ih _ _ h
      · exact ih _ _ h
    · exact ih _ _ h
theorem rebuild_get (ks : List (Nat × AObj)) (m : Nat) (o : AObj) (h : (rebuild ks).get m = some o) : (m, o) ∈ ks := by
  have key : ∀ (ks : List (Nat × AObj)) (t : Tree AObj), (ks.foldl (fun t x => t.set x.1 x.2) t).get m = some o → (m, o) ∈ ks ∨ t.get m = some o := by
    intro ks
    induction ks with
    | nil => intro t h; exact .inr h
    | cons x ks ih =>
      intro t h
      rcases ih _ h with h | h
      · exact .inl (List.mem_cons_of_mem _ h)
      · rw [Tree.get_set] at h
        split at h
        · rename_i e
          cases h
          subst e
          exact .inl (List.mem_cons_self ..)
        · exact .inr h
  rcases key ks .leaf h with h | h
  · exact h
  · rw [Tree.get_leaf] at h; cases h
def beqL {α : Type} (f : α → α → Bool) : List α → List α → Bool
  | [], [] => true
  | a :: l, b :: l' => f a b && beqL f l l'
  | _, _ => false
theorem beqL_spec {α : Type} {f : α → α → Bool} (hf : ∀ a b, f a b = true → a = b) : ∀ (a b : List α), beqL f a b = true → a = b := by
  intro a
  induction a with
  | nil => intro b h; cases b with
    | nil => rfl
    | cons x y => simp [beqL] at h
  | cons x l ih =>
    intro b h
    cases b with
    | nil => simp [beqL] at h
    | cons y l' =>
      simp only [beqL, Bool.and_eq_true] at h
      rw [hf _ _ h.1, ih _ h.2]
def beqV : Nat → Value → Value → Bool
  | 0, _, _ => false
  | n + 1, v, u =>
    match v, u with
    | .agg a, .agg b => beqL (beqV n) a.toList b.toList
    | .tuple a, .tuple b => beqL (beqV n) a.toList b.toList
    | .iface t a, .iface s b => Nat.beq t s && beqV n a b
    | .func (.func f) a b, .func (.func g) a' b' => Nat.beq f g && beqL (beqV n) a.toList a'.toList && beqL (beqV n) b.toList b'.toList
    | a, b => veq1 a b
theorem beqV_spec : ∀ (n : Nat) (v u : Value), beqV n v u = true → v = u := by
  intro n
  induction n with
  | zero => intro v u h; simp [beqV] at h
  | succ n ih =>
    intro v u h
    unfold beqV at h
    split at h
    · rename_i a b; have := beqL_spec ih _ _ h; congr 1; exact Array.toList_inj.1 this
    · rename_i a b; have := beqL_spec ih _ _ h; congr 1; exact Array.toList_inj.1 this
    · simp only [Bool.and_eq_true] at h; rw [nbeq h.1, ih _ _ h.2]
    · simp only [Bool.and_eq_true] at h
      obtain ⟨⟨h0, h1⟩, h2⟩ := h
      obtain rfl := nbeq h0
      rw [Array.toList_inj.1 (beqL_spec ih _ _ h1), Array.toList_inj.1 (beqL_spec ih _ _ h2)]
    · exact veq1_spec h
def beqE (x y : Value × Value) : Bool := beqV 8 x.1 y.1 && beqV 8 x.2 y.2
theorem beqE_spec (x y : Value × Value) (h : beqE x y = true) : x = y := by
  simp only [beqE, Bool.and_eq_true] at h
  exact Prod.ext (beqV_spec _ _ _ h.1) (beqV_spec _ _ _ h.2)
def beqO : AObj → AObj → Bool
  | .cells c e t r q, .cells c' e' t' r' q' => beqL (beqV 8) c c' && Nat.beq e e' && beqON t t' && (r == r') && beqON q q'
  | .map es bs k, .map es' bs' k' => beqL beqE es es' && beqL Nat.beq bs bs' && Nat.beq k k'
  | .siter s p, .siter s' p' => s.data.toList == s'.data.toList && Nat.beq p p'
  | .miter m a b c, .miter m' a' b' c' => beqON m m' && Nat.beq a a' && beqL Nat.beq b b' && Nat.beq c c'
  | _, _ => false
theorem beqO_spec (x y : AObj) (h : beqO x y = true) : x = y := by
  unfold beqO at h
  split at h
  · simp only [Bool.and_eq_true, beq_iff_eq] at h
    obtain ⟨⟨⟨⟨h1, h2⟩, h3⟩, h4⟩, h5⟩ := h
    rw [beqL_spec (beqV_spec 8) _ _ h1, nbeq h2, beqON_spec h3, h4, beqON_spec h5]
  · simp only [Bool.and_eq_true] at h
    obtain ⟨⟨h1, h2⟩, h3⟩ := h
    rw [beqL_spec beqE_spec _ _ h1, beqL_spec (fun _ _ => nbeq) _ _ h2, nbeq h3]
  · rename_i s p s' p'
    simp only [Bool.and_eq_true, beq_iff_eq] at h
    obtain ⟨h1, h2⟩ := h
    obtain rfl := nbeq h2
    obtain ⟨⟨s⟩⟩ := s
    obtain ⟨⟨s'⟩⟩ := s'
    simp only at h1
    rw [h1]
  · simp only [Bool.and_eq_true] at h
    obtain ⟨⟨⟨h1, h2⟩, h3⟩, h4⟩ := h
    rw [beqON_spec h1, nbeq h2, beqL_spec (fun _ _ => nbeq) _ _ h3, nbeq h4]
  · cases h
def beqK (x y : Value × List (Nat × AObj)) : Bool := beqV 8 x.1 y.1 && beqL (fun a b => Nat.beq a.1 b.1 && beqO a.2 b.2) x.2 y.2
theorem beqK_spec (x y : Value × List (Nat × AObj)) (h : beqK x y = true) : x = y := by
  simp only [beqK, Bool.and_eq_true] at h
  refine Prod.ext (beqV_spec _ _ _ h.1) (beqL_spec (fun a b hab => ?_) _ _ h.2)
  simp only [Bool.and_eq_true] at hab
  exact Prod.ext (nbeq hab.1) (beqO_spec _ _ hab.2)
def dedup (l : List (Value × List (Nat × AObj))) : List (Value × List (Nat × AObj)) :=
  l.foldl (fun acc x => if acc.any (beqK x) then acc else acc ++ [x]) []
theorem dedup_mem (l : List (Value × List (Nat × AObj))) (x : Value × List (Nat × AObj)) (h : x ∈ l) : x ∈ dedup l := by
  have key : ∀ (l acc : List (Value × List (Nat × AObj))), x ∈ l ∨ x ∈ acc → x ∈ l.foldl (fun acc x => if acc.any (beqK x) then acc else acc ++ [x]) acc := by
    intro l
    induction l with
    | nil => intro acc h; rcases h with h | h; cases h; exact h
    | cons y l ih =>
      intro acc h
      simp only [List.foldl_cons]
      refine ih _ ?_
      rcases h with h | h
      · rcases List.mem_cons.1 h with rfl | h
        · right
          split
          · rename_i ha
            rw [List.any_eq_true] at ha
            obtain ⟨z, hz, he⟩ := ha
            rw [beqK_spec _ _ he]
            exact hz
          · exact List.mem_append.2 (.inr (List.mem_singleton.2 rfl))
        · exact .inl h
      · right
        split
        · exact h
        · exact List.mem_append.2 (.inl h)
  exact key l [] (.inl h)
abbrev Asm := List (FuncId × List Value × Value)
def bindS {α : Type} (k : α → Option (List Out)) : List α → Option (List Out)
  | [] => some []
  | o :: l =>
    match k o with
    | some a =>
      match bindS k l with
      | some b => some (a ++ b)
      | none => none
    | none => none
def thenS (r : Option (List Out)) (k : Out → Option (List Out)) : Option (List Out) :=
  match r with
  | some [o] => k o
  | some (o :: o' :: l) => bindS k (o :: o' :: l)
  | _ => none
def nextOf (st : ASt) (o : Oper) : Option Value :=
  match o.op with
  | .next it false => st.ev it
  | _ => none
def resS (P : Program) (rs : Array ResultVar) (o : Out) : Option Out :=
  match o.x with
  | .normal => (aResults P o.s.st rs).map fun v => ⟨.ret, v, o.s, []⟩
  | .ret => (aResults P o.s.st rs).map fun v => ⟨.ret, v, o.s, []⟩
  | _ => none
def resL (P : Program) (rs : Array ResultVar) : List Out → Option (List Out)
  | [] => some []
  | o :: l =>
    match resS P rs o, resL P rs l with
    | some a, some b => some (a :: b)
    | _, _ => none
def cleanS (nx0 : Nat) (o : Out) : Value × List (Nat × AObj) :=
  (o.v, keepG o.s.ht (markG o.s.ht 1000000 (refsV 8 o.v ++ List.range nx0) .leaf) 0 o.s.nx)
def noLoops (t : Tree AObj) : Nat → Bool
  | 0 => true
  | k + 1 => !isLoop (t.get k) && noLoops t k
theorem noLoops_spec {t : Tree AObj} : ∀ (k : Nat), noLoops t k = true → ∀ m, m < k → isLoop (t.get m) = false := by
  intro k
  induction k with
  | zero => intro _ m hm; omega
  | succ k ih =>
    intro h m hm
    simp only [noLoops, Bool.and_eq_true, Bool.not_eq_true'] at h
    by_cases e : m = k
    · subst e; exact h.1
    · exact ih h.2 m (by omega)
def mergeC (s : CSt) (l : List Out) : List Out :=
  (dedup (l.map (cleanS s.nx))).map fun x => ⟨.ret, x.1, ⟨.leaf, 0, rebuild x.2, l.foldl (fun n o => max n o.s.nx) 0, s.asm⟩, []⟩
def numS (nx0 : Nat) (o : Out) : Out × (Tree Nat × List Nat × Nat) := (o, numG o.s.ht nx0 1000000 (reachV o.s.ht 8 o.v ++ List.range nx0) .leaf [] 0)
def renL (nx0 K : Nat) : List (Out × (Tree Nat × List Nat × Nat)) → Option (List (Value × List (Nat × AObj)))
  | [] => some []
  | x :: l =>
    match renG x.1.s.ht x.1.v nx0 K rebuild x.2, renL nx0 K l with
    | some a, some b => some (a :: b)
    | _, _ => none
def mostS (l : List (Out × (Tree Nat × List Nat × Nat))) : Nat := l.foldl (fun n x => max n x.2.2.2) 0
def mergeR (s : CSt) (l : List Out) : Option (List Out) :=
  match renL s.nx (mostS (l.map (numS s.nx))) (l.map (numS s.nx)) with
  | some rs => some ((dedup rs).map fun x => ⟨.ret, x.1, ⟨.leaf, 0, rebuild x.2, s.nx + mostS (l.map (numS s.nx)) + 1, s.asm⟩, []⟩)
  | none => none
def mergeS (s : CSt) (l : List Out) : Option (List Out) :=
  if l.all fun o => o.s.asm.length == s.asm.length && noLoops o.s.ht s.nx then
    match mergeC s l with
    | [] => some []
    | [o] => some [o]
    | ds => match mergeR s l with | some r => some r | none => some ds
  else none
structure XRec where
  s : CSt
  v : Value
structure XSt where
  s : CSt
  r : List (Option XRec)
def XSt.has (x : XSt) (i : Nat) : Bool :=
  match x.r[i]? with
  | some (some _) => true
  | _ => false
def XSt.did (x : XSt) (i : Nat) (o : Oper) (v : Value) (ht : Tree AObj) (nx : Nat) (asm : Asm) : XSt := ⟨x.s.put o.dst v ht nx asm, x.r.set i (some ⟨x.s, v⟩)⟩
def depsIn (o : Oper) (x : XSt) : Bool := o.after.toList.all fun e => !Region.binds .any e || x.has e.on
def closeX (P : Program) (ops : Array Oper) (es : List Nat) : Nat → List Oper → XSt → Option XSt
  | _, [], x => some x
  | i, o :: l, x =>
    if x.has i || es.contains i || !depsIn o x then closeX P ops es (i + 1) l x
    else if dstOk x.s.st o then
      if wantsT ops x.s.tm o then
        match aop P x.s.ht.get x.s.nx (evR (opTs o) x.s.tm) o with
        | some (v, .none) => closeX P ops es (i + 1) l (x.did i o v x.s.ht x.s.nx x.s.asm)
        | _ => none
      else closeX P ops es (i + 1) l (x.did i o undef x.s.ht x.s.nx x.s.asm)
    else none
def stableX (P : Program) (ops : Array Oper) (es : List Nat) (x : XSt) : Bool :=
  allIdx (fun i o => es.contains i || (match x.r[i]? with
    | some (some d) => !wantsT ops d.s.tm o || (es.any fun e => x.has e && (match ops[e]? with | some oe => depB oe i | none => false)) || sameAns (aop P x.s.ht.get x.s.nx (evR (opTs o) d.s.tm) o) d.v
    | _ => true)) 0 ops.toList
def readyX (ops : Array Oper) (es : List Nat) (x : XSt) : List Nat :=
  es.filter fun e => !x.has e && (match ops[e]? with | some o => depsIn o x | none => false)
def kindOp : Op → Nat
  | .move _ | .assign _ | .pick _ _ _ | .build _ _ | .nilCheck _ | .unOp _ _ _ | .makeFunc _ _ _ | .fieldAddr _ _ _ | .field _ _ _ | .indexAddr _ _ _ | .index _ _ _ | .extract _ _ => 0
  | .binOp op _ _ _ _ => match op with | .eql => 1 | .neq => 1 | _ => 0
  | .load _ _ | .lookup _ _ _ _ | .entry _ | .slice _ _ _ _ _ => 1
  | .call c => match c.callee with | .builtin b => (match b with | .len | .min | .max | .cap => 1 | _ => 2) | _ => 2
  | _ => 2
def allP (f : Nat → Oper → Bool) (k : Nat) (l : List Oper) : Bool :=
  List.rec (motive := fun _ => (Nat → Oper → Bool) → Nat → Bool) (fun _ _ => true) (fun o _ ih f k => Bool.rec (motive := fun _ => Bool) false (ih f (Nat.succ k)) (f k o)) l f k
theorem allP_spec {f : Nat → Oper → Bool} : ∀ (l : List Oper) (k : Nat), allP f k l = true → ∀ i x, l[i]? = some x → f (k + i) x = true := by
  intro l
  induction l with
  | nil => intro k _ i x h; simp at h
  | cons y l ih =>
    intro k h i x hx
    have h' : Bool.rec (motive := fun _ => Bool) false (allP f (Nat.succ k) l) (f k y) = true := h
    cases hf : f k y with
    | false => rw [hf] at h'; cases h'
    | true =>
      rw [hf] at h'
      cases i with
      | zero => simp only [List.getElem?_cons_zero, Option.some.injEq] at hx; subst hx; exact hf
      | succ i =>
        have := ih (Nat.succ k) h' i x (by simpa using hx)
        rwa [show Nat.succ k + i = k + (i + 1) by omega] at this
def memT (t : Nat) (l : List Nat) : Bool := List.rec (motive := fun _ => Bool) false (fun x _ ih => Bool.rec (motive := fun _ => Bool) ih true (Nat.beq t x)) l
theorem memT_iff (t : Nat) (l : List Nat) : t ∈ l → memT t l = true := by
  induction l with
  | nil => intro h; cases h
  | cons x l ih =>
    intro h
    show Bool.rec (motive := fun _ => Bool) (memT t l) true (Nat.beq t x) = true
    rcases List.mem_cons.1 h with rfl | h
    · rw [Nat.beq_refl]
    · cases Nat.beq t x with
      | true => rfl
      | false => exact ih h
def edgeOk (i : Nat) (o : Oper) : Bool := o.after.toList.all fun e => !Region.binds .any e || Nat.blt e.on i
def between (ops : Array Oper) (i j : Nat) : Bool := !allP (fun k o => Bool.rec (motive := fun _ => Bool) true (Bool.rec (motive := fun _ => Bool) true (!Nat.beq (kindOp o.op) 2) (Nat.blt k j)) (Nat.blt i k)) 0 ops.toList
def isT (g : Option Tmp) (t : Tmp) : Bool := Option.rec (motive := fun _ => Bool) false (fun u => Nat.beq u t) g
def actI (ops : Array Oper) (i : Nat) : Bool := match ops[i]? with | some o => Nat.beq (kindOp o.op) 2 | none => false
def pairOk (ops : Array Oper) (i : Nat) (oi : Oper) (ts : List Tmp) (g : Option Tmp) (ki : Nat) (j : Nat) (oj : Oper) : Bool :=
  Bool.rec (motive := fun _ => Bool)
    (Bool.rec (motive := fun _ => Bool) false
      (Bool.rec (motive := fun _ => Bool) true
        (Bool.rec (motive := fun _ => Bool) true (depB oj i || (Nat.beq (Nat.mul ki (kindOp oj.op)) 4 && between ops i j)) (Nat.ble 2 (Nat.mul ki (kindOp oj.op)))) (Nat.blt i j))
      (Option.rec (motive := fun _ => Bool) true (fun t =>
        Bool.rec (motive := fun _ => Bool) false
          (Bool.rec (motive := fun _ => Bool) true (Bool.rec (motive := fun _ => Bool) (depB oj i) (depB oi j) (Nat.blt j i)) (memT t ts || isT g t))
          (!isT oi.dst t)) oj.dst))
    true (Nat.beq i j)
def regG (kk : Oper → Nat) (ops : Array Oper) : Bool :=
  allP (fun i oi => edgeOk i oi && allP (pairOk ops i oi (opTs oi) (gdst ops oi) (kk oi)) 0 ops.toList) 0 ops.toList
def regOk (ops : Array Oper) : Bool := regG (fun o => kindOp o.op) ops
def statF (ops : Array Oper) : Bool := regG (fun _ => 0) ops
def headS (tr : List DTr) (s' : CSt) : CSt := match tr with | [] => s' | d :: _ => d.s
def ptsG (s' : CSt) : List DTr → Nat → List (Nat × CSt)
  | [], _ => []
  | d :: tr, i => cond d.e ((i + 1, headS tr s') :: ptsG s' tr (i + 1)) (ptsG s' tr (i + 1))
def esG : List DTr → Nat → List Nat
  | [], _ => []
  | d :: tr, i => cond d.e (i :: esG tr (i + 1)) (esG tr (i + 1))
def waitsB (ops : Array Oper) : Nat → Nat → Nat → Bool
  | 0, _, _ => false
  | n + 1, e, i => match ops[e]? with | some oe => oe.after.toList.any fun d => Region.binds .any d && (Nat.beq d.on i || (Nat.blt i d.on && waitsB ops n d.on i)) | none => false
theorem waitsB_spec {ops : Array Oper} : ∀ (n e i : Nat) (oe : Oper), ops[e]? = some oe → waitsB ops n e i = true → ∃ m, depN ops m oe i := by
  intro n
  induction n with
  | zero => intro e i oe _ h; cases h
  | succ n ih =>
    intro e i oe ho h
    unfold waitsB at h
    rw [ho] at h
    simp only [List.any_eq_true, Bool.and_eq_true, Bool.or_eq_true] at h
    obtain ⟨d, hd, hb, h⟩ := h
    have hdep : dep oe d.on := ⟨d, by simpa using hd, hb, rfl⟩
    rcases h with h | ⟨_, h⟩
    · exact ⟨0, by have : d.on = i := Nat.eq_of_beq_eq_true h; rw [← this]; exact hdep⟩
    · cases hom : ops[d.on]? with
      | none =>
        cases n with
        | zero => cases h
        | succ n => unfold waitsB at h; rw [hom] at h; cases h
      | some om =>
        obtain ⟨m, hm⟩ := ih d.on i om hom h
        exact ⟨m + 1, .inr ⟨d.on, om, hom, hdep, hm⟩⟩
def readG (P : Program) (ops : Array Oper) (es : List Nat) (i : Nat) (o : Oper) (d : DTr) (q : Nat × CSt) : Bool :=
  (es.any fun j => depB o j && decide (q.1 ≤ j)) || (es.any fun e => decide (e < q.1) && (match ops[e]? with | some oe => depB oe i | none => false)) ||
    sameAns (aop P q.2.ht.get q.2.nx (evR (opTs o) d.s.tm) o) d.v || (es.any fun e => decide (e < q.1) && waitsB ops 6 e i)
def waitO (ops : Array Oper) (o : Oper) (j k : Nat) : Bool := depB o k || waitsB ops 6 j k
theorem depN_trans {ops : Array Oper} {p i m : Nat} {op : Oper} (hp : ops[p]? = some op) (hm : depN ops m op i) : ∀ (n : Nat) (o : Oper), depN ops n o p → ∃ k, depN ops k o i := by
  intro n
  induction n with
  | zero => intro o h; exact ⟨m + 1, .inr ⟨p, op, hp, h, hm⟩⟩
  | succ n ih =>
    intro o h
    rcases h with h | ⟨q, oq, h1, h2, h3⟩
    · exact ⟨m + 1, .inr ⟨p, op, hp, h, hm⟩⟩
    · obtain ⟨k, hk⟩ := ih oq h3
      exact ⟨k + 1, .inr ⟨q, oq, h1, h2, hk⟩⟩
theorem waitO_spec {ops : Array Oper} {o : Oper} {j k : Nat} (ho : ops[j]? = some o) (h : waitO ops o j k = true) : ∃ n, depN ops n o k := by
  unfold waitO at h
  rw [Bool.or_eq_true] at h
  rcases h with h | h
  · exact ⟨0, depB_iff.1 h⟩
  · exact waitsB_spec 6 j k o ho h
def prevOk (ops : Array Oper) (o : Oper) (j : Nat) (prev : Option Nat) : Bool := match prev with | some k => waitO ops o j k | none => true
def storeId (ev : Operand → Option Value) (op : Op) : Option Nat :=
  match op with
  | .store _ a _ => match ev a with | some (.pointer (some x)) => some x.block | _ => none
  | _ => none
def floId (ops : Array Oper) (o : Oper) (d : DTr) : Option Nat :=
  cond (wantsT ops d.s.tm o) (cond (layOp o.op) (some d.s.nx) (storeId (evR (opTs o) d.s.tm) o.op)) none
def waitG (ops : Array Oper) (i j : Nat) : Bool := ops.toList.zipIdx.all fun p => !depB p.1 j || waitO ops p.1 p.2 i
def otherId (a b : Option Nat) : Bool := match a, b with | some a, some b => !Nat.beq a b | _, _ => false
def turnOk (ops : Array Oper) (o : Oper) (j : Nat) (idj : Option Nat) (q : Nat × Option Nat) : Bool :=
  depB o q.1 || (waitG ops q.1 j && (layOp o.op || otherId q.2 idj))
def actsGo (ops : Array Oper) : List Oper → List DTr → Nat → Option Nat → List Nat → List (Nat × Option Nat) → List Nat → List Nat → Option (List Nat × List Nat)
  | o :: l, d :: tr, j, prev, fl, acs, ls, ss =>
    cond d.e
      (cond (prevOk ops o j prev && fl.all fun k => waitO ops o j k) (actsGo ops l tr (j + 1) (some j) [] ((j, floId ops o d) :: acs) ls ss)
        (cond ((floId ops o d).isSome && acs.all (turnOk ops o j (floId ops o d)))
          (cond (layOp o.op) (actsGo ops l tr (j + 1) prev (j :: fl) ((j, floId ops o d) :: acs) (j :: ls) ss) (actsGo ops l tr (j + 1) prev (j :: fl) ((j, floId ops o d) :: acs) ls (j :: ss))) none))
      (actsGo ops l tr (j + 1) prev fl acs ls ss)
  | [], [], _, _, _, _, ls, ss => some (ls, ss)
  | _, _, _, _, _, _, _, _ => none
def readsGo (P : Program) (ops : Array Oper) (pts : List (Nat × CSt)) (es ss : List Nat) : List Oper → List DTr → Nat → Bool
  | o :: l, d :: tr, i =>
    (d.e || Nat.beq (kindOp o.op) 0 || !wantsT ops d.s.tm o || (pts.all (readG P ops es i o d) && ss.all fun e => depB o e || (match ops[e]? with | some oe => depB oe i | none => false))) && readsGo P ops pts es ss l tr (i + 1)
  | [], [], _ => true
  | _, _, _ => false
def dynG (P : Program) (ops : Array Oper) (tr : List DTr) (s' : CSt) : Bool :=
  match actsGo ops ops.toList tr 0 none [] [] [] [] with
  | some r => readsGo P ops ((0, headS tr s') :: ptsG s' tr 0) (esG tr 0) r.2 ops.toList tr 0
  | none => false
def CSt.bump (s : CSt) : CSt := ⟨s.tt, s.n, s.ht, s.nx + 1, s.asm⟩
inductive SJob where
  | code (c : Code)
  | loop (c : Code)
  | scope (b c : Code)
  | ops (ops : Array Oper) (l : List Oper)
  | dops (ops : Array Oper) (l : List Oper)
  | call (f : FuncId) (args : List Value)
  | xbr (ops : Array Oper) (es : List Nat) (r : List (Option XRec))
def nextX (P : Program) (ops : Array Oper) (es : List Nat) (y : XSt) (k : XSt → Option (List Out)) : Option (List Out) :=
  match closeX P ops es 0 ops.toList y with
  | some z => k z
  | none => none
abbrev RecS := SJob → CSt → Option (List Out)
def actsOf (ops : Array Oper) : List Nat := (ops.toList.zipIdx.filter fun x => Nat.beq (kindOp x.1.op) 2).map (·.2)
def rangeS (rc : RecS) (g : Operand) (ps : Array Tmp) (asg body : Code) (s : CSt) : Option (List Out) :=
  match s.st.ev g with
  | some (.func (.func f) first cap) =>
    cond (Nat.blt f YB)
      (thenS (rc (.call f ((first.toList ++ [.chan (some s.nx)]) ++ cap.toList)) ⟨s.tt, s.n, s.ht.set s.nx (.loop .ready none s.tt s.n ps.toList asg body), s.nx + 1, s.asm⟩) fun o =>
        match o.s.ht.get s.nx with
        | some (.loop stt pend tt n ps asg body) =>
          match stt with
          | .busy => none
          | _ =>
            match pend with
            | none => some [⟨.normal, undef, ⟨s.tt, s.n, o.s.ht.del s.nx, o.s.nx, o.s.asm⟩, []⟩]
            | some c => rc (.code c) ⟨s.tt, s.n, o.s.ht.del s.nx, o.s.nx, o.s.asm⟩
        | _ => none) none
  | _ => none
def roundS (rc : RecS) (l : Nat) (args : List Value) (s : CSt) : Option (List Out) :=
  match s.ht.get l with
  | some (.loop .ready _ tt n ps asg body) =>
    match putArgs n tt ps args with
    | some t1 =>
      thenS (rc (.code asg) ⟨t1, n, s.ht, s.nx, s.asm⟩) fun o =>
        match o.x with
        | .normal =>
          match o.s.ht.get l with
          | some (.loop .ready pend2 tt2 n2 ps2 asg2 body2) =>
            thenS (rc (.code body) ⟨o.s.tt, o.s.n, o.s.ht.set l (.loop .busy pend2 tt2 n2 ps2 asg2 body2), o.s.nx, o.s.asm⟩) fun q =>
              match q.s.ht.get l with
              | some (.loop _ _ tt3 n3 ps3 asg3 body3) =>
                some [⟨.ret, .bool (jumpOf q.x).isNone, ⟨q.s.tt, q.s.n, q.s.ht.set l (.loop (endSt q.x) (jumpOf q.x) tt3 n3 ps3 asg3 body3), q.s.nx, q.s.asm⟩, []⟩]
              | _ => none
          | _ => none
        | _ => none
    | none => none
  | _ => none
def codeS (P : Program) (fl : Nat → Bool) (rc : RecS) (c : Code) (s : CSt) : Option (List Out) :=
      match c with
      | .skip => some [⟨.normal, undef, s, []⟩]
      | .label _ => some [⟨.normal, undef, s, []⟩]
      | .exit id => some [⟨.exit id, undef, s, []⟩]
      | .goto l => some [⟨.goto l, undef, s, []⟩]
      | .ret => some [⟨.ret, undef, s, []⟩]
      | .seq a b => thenS (rc (.code a) s) fun o => match o.x with | .normal => rc (.code b) o.s | _ => some [o]
      | .cond c a b =>
        match s.st.ev c with
        | some (.bool true) => rc (.code a) s
        | some (.bool false) => rc (.code b) s
        | _ => none
      | .block id c => thenS (rc (.code c) s) fun o => match o.x with | .exit id' => if id' = id then some [⟨.normal, o.v, o.s, o.tr⟩] else some [o] | _ => some [o]
      | .loop c => rc (.loop c) s
      | .region id ops draw =>
        if draw then
          if fl id then
            if statOk ops then nextX P ops (actsOf ops) ⟨s, List.replicate ops.size none⟩ fun z => rc (.xbr ops (actsOf ops) z.r) z.s else none
          else if statOk ops then
            if regOk ops then
              match rc (.dops ops ops.toList) s with
              | some [o] => some [⟨.normal, undef, o.s, []⟩]
              | _ => none
            else
              match rc (.dops ops ops.toList) s.bump with
              | some [o] =>
                if dynG P ops o.tr o.s then some [⟨.normal, undef, o.s, []⟩]
                else
                  let es := (o.tr.zipIdx.filter fun x => x.1.e).map (·.2)
                  nextX P ops es ⟨s, List.replicate ops.size none⟩ fun z => rc (.xbr ops es z.r) z.s
              | _ => none
          else none
        else rc (.ops ops ops.toList) s
      | .scope b => rc (.scope b b) s
      | .rangeFunc g ps asg body => rangeS rc g ps asg body s
      | _ => none
def loopS (rc : RecS) (c : Code) (s : CSt) : Option (List Out) :=
  thenS (rc (.code c) s) fun o => match o.x with | .normal => rc (.loop c) o.s | _ => some [o]
def scopeS (rc : RecS) (b c : Code) (s : CSt) : Option (List Out) :=
  thenS (rc (.code c) s) fun o =>
        match o.x with
        | .goto l =>
          match findLabel b l with
          | some rest => rc (.scope b rest) o.s
          | none => some [o]
        | _ => some [o]
def opsS (P : Program) (xs : List Nat) (rc : RecS) (ops : Array Oper) (l : List Oper) (s : CSt) : Option (List Out) :=
    match l with
    | [] => some [⟨.normal, undef, s, []⟩]
    | o :: l =>
      cond (dstOk s.st o)
        (cond (wants ops s.st o)
          (match calleeG s.st.ev o with
          | some (f, args) =>
            cond (xs.contains f)
              (match args with
              | [x] => rc (.ops ops l) (s.put o.dst x s.ht s.nx s.asm)
              | _ => none)
              (cond (xs.contains (XB + f))
              (match idxV args with
              | some x => rc (.ops ops l) (s.put o.dst x s.ht s.nx s.asm)
              | none => none)
              (thenS (rc (.call f args) s) fun r => rc (.ops ops l) (s.put o.dst r.v r.s.ht r.s.nx r.s.asm)))
          | none =>
            match nextOf s.st o with
            | some it =>
              match aNexts s.ht.get it with
              | some rs => bindS (fun r => rc (.ops ops l) (s.put o.dst r.1 (r.2.tree s.nx s.ht) (r.2.nx s.nx) s.asm)) rs
              | none => none
            | none =>
              match aop P s.ht.get s.nx s.st.ev o with
              | some (v, e) => rc (.ops ops l) (s.put o.dst v (e.tree s.nx s.ht) (e.nx s.nx) s.asm)
              | none => none)
          (rc (.ops ops l) (s.put o.dst undef s.ht s.nx s.asm)))
        none
def dopsS (P : Program) (rc : RecS) (ops : Array Oper) (l : List Oper) (s : CSt) : Option (List Out) :=
    match l with
    | [] => some [⟨.normal, undef, s, []⟩]
    | o :: l =>
      if dstOk s.st o then
        if wantsT ops s.tm o then
          match calleeG (evR (opTs o) s.tm) o with
          | some (f, args) =>
            match rc (.call f args) s with
            | some [r] =>
              match rc (.dops ops l) (s.put o.dst r.v r.s.ht r.s.nx r.s.asm) with
              | some [q] => some [⟨q.x, q.v, q.s, ⟨s, r.v, true⟩ :: q.tr⟩]
              | _ => none
            | _ => none
          | none =>
            match aop P s.ht.get s.nx (evR (opTs o) s.tm) o with
            | some (v, e) =>
              match rc (.dops ops l) (s.put o.dst v (e.tree s.nx s.ht) (e.nx s.nx) s.asm) with
              | some [q] => some [⟨q.x, q.v, q.s, ⟨s, v, !e.isNone⟩ :: q.tr⟩]
              | _ => none
            | none => none
        else
          match rc (.dops ops l) (s.put o.dst undef s.ht s.nx s.asm) with
          | some [q] => some [⟨q.x, q.v, q.s, ⟨s, undef, false⟩ :: q.tr⟩]
          | _ => none
      else none
def xbrS (P : Program) (rc : RecS) (ops : Array Oper) (es : List Nat) (r : List (Option XRec)) (s : CSt) : Option (List Out) :=
      let x : XSt := ⟨s, r⟩
      if stableX P ops es x then
        match readyX ops es x with
        | [] => if allIdx (fun i _ => x.has i) 0 ops.toList then some [⟨.normal, undef, x.s, []⟩] else none
        | rs => bindS (fun e =>
            match ops[e]? with
            | some o =>
              if dstOk x.s.st o then
                if wantsT ops x.s.tm o then
                  match calleeG (evR (opTs o) x.s.tm) o with
                  | some (f, args) => thenS (rc (.call f args) x.s) fun r => nextX P ops es (x.did e o r.v r.s.ht r.s.nx r.s.asm) fun z => rc (.xbr ops es z.r) z.s
                  | none =>
                    match aop P x.s.ht.get x.s.nx (evR (opTs o) x.s.tm) o with
                    | some (v, ef) => nextX P ops es (x.did e o v (ef.tree x.s.nx x.s.ht) (ef.nx x.s.nx) x.s.asm) fun z => rc (.xbr ops es z.r) z.s
                    | none => none
                else nextX P ops es (x.did e o undef x.s.ht x.s.nx x.s.asm) fun z => rc (.xbr ops es z.r) z.s
              else none
            | none => none) rs
      else none
def callS (P : Program) (ov : Nat → FuncId → List Value → Option Value) (rc : RecS) (f : FuncId) (args : List Value) (s : CSt) : Option (List Out) :=
      match ov s.asm.length f args with
      | some v => some [⟨.ret, v, ⟨s.tt, s.n, s.ht, s.nx, (f, args, v) :: s.asm⟩, []⟩]
      | none => cond (Nat.ble YB f) (roundS rc (f - YB) args s)
        (match P.funcs[f]? with
      | some fn =>
        match fn.body with
        | some c =>
          match rc (.code c) ⟨argTree args 0 .leaf, args.length + (fn.ntmps - args.length), s.ht, s.nx, s.asm⟩ with
          | some l =>
            match resL P fn.results l with
            | some [o] => some [o]
            | some l => (match mergeS s l with | some m => some m | none => some l)
            | none => none
          | none => none
        | none => none
      | none => none)
def flagOf (ov : Nat → FuncId → List Value → Option Value) (id : Nat) : Bool := (ov 0 (1000000000 + id) []).isSome
def execS (P : Program) (xs : List Nat) (ov : Nat → FuncId → List Value → Option Value) : Nat → SJob → CSt → Option (List Out)
  | 0, _, _ => none
  | n + 1, job, s =>
    match job with
    | .code c => codeS P (flagOf ov) (execS P xs ov n) c s
    | .loop c => loopS (execS P xs ov n) c s
    | .scope b c => scopeS (execS P xs ov n) b c s
    | .ops ops l => opsS P xs (execS P xs ov n) ops l s
    | .dops ops l => dopsS P (execS P xs ov n) ops l s
    | .xbr ops es r => xbrS P (execS P xs ov n) ops es r s
    | .call f args => callS P ov (execS P xs ov n) f args s
theorem bindS_spec {α : Type} {k : α → Option (List Out)} : ∀ {l : List α} {outs : List Out}, bindS k l = some outs → ∀ o ∈ l, ∃ a, k o = some a ∧ ∀ x ∈ a, x ∈ outs := by
  intro l
  induction l with
  | nil => intro outs _ o h; cases h
  | cons y l ih =>
    intro outs h o ho
    simp only [bindS] at h
    split at h
    · rename_i a ha
      split at h
      · rename_i b hb
        cases h
        rcases List.mem_cons.1 ho with rfl | ho
        · exact ⟨a, ha, fun x hx => List.mem_append.2 (.inl hx)⟩
        · obtain ⟨a', e, hm⟩ := ih hb o ho
          exact ⟨a', e, fun x hx => List.mem_append.2 (.inr (hm x hx))⟩
      · cases h
    · cases h
theorem bindS_back {α : Type} {k : α → Option (List Out)} : ∀ {l : List α} {outs : List Out}, bindS k l = some outs → ∀ x ∈ outs, ∃ o ∈ l, ∃ a, k o = some a ∧ x ∈ a := by
  intro l
  induction l with
  | nil => intro outs h x hx; simp only [bindS, Option.some.injEq] at h; subst h; cases hx
  | cons y l ih =>
    intro outs h x hx
    simp only [bindS] at h
    split at h
    · rename_i a ha
      split at h
      · rename_i b hb
        cases h
        rcases List.mem_append.1 hx with hx | hx
        · exact ⟨y, List.mem_cons_self .., a, ha, hx⟩
        · obtain ⟨o, ho, r⟩ := ih hb x hx; exact ⟨o, List.mem_cons_of_mem _ ho, r⟩
      · cases h
    · cases h
theorem thenS_spec {r : Option (List Out)} {k : Out → Option (List Out)} {outs : List Out} (h : thenS r k = some outs) : ∃ l, r = some l ∧ ∀ o ∈ l, ∃ a, k o = some a ∧ ∀ x ∈ a, x ∈ outs := by
  unfold thenS at h
  split at h
  · rename_i o
    exact ⟨[o], rfl, fun o' ho' => by rw [List.mem_singleton.1 ho']; exact ⟨outs, h, fun x hx => hx⟩⟩
  · exact ⟨_, rfl, bindS_spec h⟩
  · cases h
theorem thenS_back {r : Option (List Out)} {k : Out → Option (List Out)} {outs : List Out} (h : thenS r k = some outs) : ∃ l, r = some l ∧ (∀ o ∈ l, ∃ a, k o = some a ∧ ∀ x ∈ a, x ∈ outs) ∧ ∀ x ∈ outs, ∃ o ∈ l, ∃ a, k o = some a ∧ x ∈ a := by
  unfold thenS at h
  split at h
  · rename_i o
    exact ⟨[o], rfl, fun o' ho' => by rw [List.mem_singleton.1 ho']; exact ⟨outs, h, fun x hx => hx⟩, fun x hx => ⟨o, List.mem_singleton.2 rfl, outs, h, hx⟩⟩
  · exact ⟨_, rfl, bindS_spec h, bindS_back h⟩
  · cases h
theorem has_iff {x : XSt} {i : Nat} : x.has i = true ↔ ∃ d, x.r[i]? = some (some d) := by
  unfold XSt.has
  split
  · rename_i d h; exact ⟨fun _ => ⟨d, h⟩, fun _ => rfl⟩
  · rename_i h; exact ⟨fun q => (by cases q), fun ⟨d, q⟩ => absurd q (h d)⟩
theorem depsIn_iff {o : Oper} {x : XSt} : depsIn o x = true ↔ ∀ j, dep o j → x.has j = true := by
  unfold depsIn
  rw [List.all_eq_true]
  constructor
  · rintro h j ⟨e, he, hb, rfl⟩
    have := h e (by simpa using he)
    simpa [hb] using this
  · intro h e he
    cases hb : Region.binds .any e with
    | false => simp
    | true => simpa using h e.on ⟨e, by simpa using he, hb, rfl⟩
structure XPre (ops : Array Oper) (es : List Nat) (st0 : ASt) (x : XSt) : Prop where
  len : x.r.length = ops.size
  n : x.s.n = st0.n
  down : ∀ (i : Nat) (o : Oper), ops[i]? = some o → x.has i = true → ∀ j, dep o j → x.has j = true
  val : ∀ (i : Nat) (o : Oper) (d : Tmp) (rc : XRec), ops[i]? = some o → x.r[i]? = some (some rc) → o.dst = some d → x.s.tm d = rc.v
  old : ∀ t, (∀ (i : Nat) (o : Oper), ops[i]? = some o → o.dst = some t → x.has i = false) → x.s.tm t = st0.tm t
  snap : ∀ (i : Nat) (o : Oper) (rc : XRec) (t : Tmp), ops[i]? = some o → x.r[i]? = some (some rc) → (t ∈ opTs o ∨ gdst ops o = some t) →
    (∀ (j : Nat) (oj : Oper) (rj : XRec), ops[j]? = some oj → oj.dst = some t → dep o j → x.r[j]? = some (some rj) → rc.s.tm t = rj.v) ∧
    ((∀ (j : Nat) (oj : Oper), ops[j]? = some oj → oj.dst = some t → ¬ dep o j) → rc.s.tm t = st0.tm t)
  fits : ∀ (i : Nat) (o : Oper), ops[i]? = some o → x.has i = true → ∀ d, o.dst = some d → d < st0.n
  pure : ∀ (i : Nat) (o : Oper) (rc : XRec), ops[i]? = some o → x.r[i]? = some (some rc) → es.contains i = false → wantsT ops rc.s.tm o = false → rc.v = undef
theorem did_has {x : XSt} {i j : Nat} {o : Oper} {v : Value} {ht : Tree AObj} {nx : Nat} {asm : Asm} (hi : i < x.r.length) : (x.did i o v ht nx asm).has j = (decide (j = i) || x.has j) := by
  unfold XSt.did XSt.has
  simp only
  by_cases e : j = i
  · subst e; simp [hi]
  · have : ¬ i = j := fun q => e q.symm
    simp [e, List.getElem?_set, this]
theorem did_r {x : XSt} {i j : Nat} {o : Oper} {v : Value} {ht : Tree AObj} {nx : Nat} {asm : Asm} (hi : i < x.r.length) : (x.did i o v ht nx asm).r[j]? = if j = i then some (some ⟨x.s, v⟩) else x.r[j]? := by
  unfold XSt.did
  simp only [List.getElem?_set]
  by_cases e : j = i
  · subst e; simp [hi]
  · have : ¬ i = j := fun q => e q.symm
    simp [e, this]
theorem did_tm {x : XSt} {i : Nat} {o : Oper} {v : Value} {ht : Tree AObj} {nx : Nat} {asm : Asm} : (x.did i o v ht nx asm).s.tm = tmPut x.s.tm o.dst v := by
  have := congrArg ASt.tm (CSt.put_st x.s o.dst v ht nx asm)
  exact this
section
variable {ops : Array Oper} {es : List Nat} {st0 : ASt}
theorem XPre.fresh (hread : ∀ (i j : Nat) (oi oj : Oper) (t : Tmp), ops[i]? = some oi → ops[j]? = some oj → (t ∈ opTs oi ∨ gdst ops oi = some t) → oj.dst = some t → (j < i → dep oi j) ∧ (i < j → dep oj i)) {x : XSt} (h : XPre ops es st0 x) {i : Nat} {o : Oper} (ho : ops[i]? = some o) (hn : x.has i = false) {t : Tmp} (ht : t ∈ opTs o ∨ gdst ops o = some t)
    (hnd : ∀ (j : Nat) (oj : Oper), ops[j]? = some oj → oj.dst = some t → ¬ dep o j) : x.s.tm t = st0.tm t := by
  refine h.old t fun j oj hoj hd => ?_
  cases hj : x.has j with
  | false => rfl
  | true =>
    exfalso
    obtain ⟨r1, r2⟩ := hread i j o oj t ho hoj ht hd
    have hno := hnd j oj hoj hd
    have h1 : ¬ j < i := fun q => hno (r1 q)
    by_cases e : i = j
    · subst e; rw [hn] at hj; cases hj
    · have := h.down j oj hoj hj i (r2 (by omega))
      rw [hn] at this
      cases this
theorem XPre.did (hlex : ∀ (i : Nat) (o : Oper), ops[i]? = some o → ∀ j, dep o j → j < i)
    (hone : ∀ (i j : Nat) (oi oj : Oper) (d : Tmp), ops[i]? = some oi → ops[j]? = some oj → oi.dst = some d → oj.dst = some d → i = j)
    (hread : ∀ (i j : Nat) (oi oj : Oper) (t : Tmp), ops[i]? = some oi → ops[j]? = some oj → (t ∈ opTs oi ∨ gdst ops oi = some t) → oj.dst = some t → (j < i → dep oi j) ∧ (i < j → dep oj i)) {x : XSt} (h : XPre ops es st0 x) {i : Nat} {o : Oper} {v : Value} {ht : Tree AObj} {nx : Nat} {asm : Asm} (ho : ops[i]? = some o) (hn : x.has i = false) (hdeps : ∀ j, dep o j → x.has j = true)
    (hd : ∀ d, o.dst = some d → d < st0.n) (hp : es.contains i = false → wantsT ops x.s.tm o = false → v = undef) : XPre ops es st0 (x.did i o v ht nx asm) := by
  have hlt : i < x.r.length := by rw [h.len]; exact (Array.getElem?_eq_some_iff.1 ho).1
  refine ⟨by simp [XSt.did, h.len], by simp only [XSt.did, CSt.put]; exact h.n, ?_, ?_, ?_, ?_, ?_, ?_⟩
  · intro k ok hok hk j hj
    rw [did_has hlt] at hk ⊢
    by_cases e : k = i
    · subst e
      rw [ho] at hok
      cases hok
      rw [hdeps j hj]
      simp
    · simp only [e, decide_false, Bool.false_or] at hk
      rw [h.down k ok hok hk j hj]
      simp
  · intro k ok d rc hok hr hdk
    rw [did_tm]
    rw [did_r hlt] at hr
    split at hr
    · rename_i e
      subst e
      rw [ho] at hok
      cases hok
      cases hr
      simp [tmPut, hdk]
    · rename_i e
      have := h.val k ok d rc hok hr hdk
      cases hdo : o.dst with
      | none => simpa [tmPut] using this
      | some d' =>
        have hne : d ≠ d' := fun q => e (hone k i ok o d hok ho hdk (by rw [hdo, q]))
        simp only [tmPut, hne, if_false]
        exact this
  · intro t ht0
    rw [did_tm]
    have hne : o.dst ≠ some t := fun q => by
      have := ht0 i o ho q
      rw [did_has hlt] at this
      simp at this
    have := h.old t (fun k ok hok hdk => by
      have := ht0 k ok hok hdk
      rw [did_has hlt] at this
      simp only [Bool.or_eq_false_iff] at this
      exact this.2)
    cases hdo : o.dst with
    | none => simpa [tmPut] using this
    | some d' =>
      have hx : t ≠ d' := fun q => hne (by rw [hdo, q])
      simp only [tmPut, hx, if_false]
      exact this
  · intro k ok rc t hok hr ht0
    rw [did_r hlt] at hr
    split at hr
    · rename_i e
      subst e
      rw [ho] at hok
      cases hok
      cases hr
      refine ⟨fun j oj rj hoj hdj hdep hrj => ?_, fun hnd => h.fresh hread ho hn ht0 hnd⟩
      have hji := hlex k o ho j hdep
      rw [did_r hlt, if_neg (by omega)] at hrj
      exact h.val j oj t rj hoj hrj hdj
    · rename_i e
      obtain ⟨s1, s2⟩ := h.snap k ok rc t hok hr ht0
      refine ⟨fun j oj rj hoj hdj hdep hrj => ?_, s2⟩
      have hj := h.down k ok hok (has_iff.2 ⟨rc, hr⟩) j hdep
      have hji : j ≠ i := fun q => by subst q; rw [hn] at hj; cases hj
      rw [did_r hlt, if_neg hji] at hrj
      exact s1 j oj rj hoj hdj hdep hrj
  · intro k ok hok hk d hdk
    rw [did_has hlt] at hk
    by_cases e : k = i
    · subst e; rw [ho] at hok; cases hok; exact hd d hdk
    · simp only [e, decide_false, Bool.false_or] at hk
      exact h.fits k ok hok hk d hdk
  · intro k ok rc hok hr hes hw
    rw [did_r hlt] at hr
    split at hr
    · rename_i e
      subst e
      rw [ho] at hok
      cases hok
      cases hr
      exact hp hes hw
    · exact h.pure k ok rc hok hr hes hw
theorem closeX_spec (hlex : ∀ (i : Nat) (o : Oper), ops[i]? = some o → ∀ j, dep o j → j < i)
    (hone : ∀ (i j : Nat) (oi oj : Oper) (d : Tmp), ops[i]? = some oi → ops[j]? = some oj → oi.dst = some d → oj.dst = some d → i = j)
    (hread : ∀ (i j : Nat) (oi oj : Oper) (t : Tmp), ops[i]? = some oi → ops[j]? = some oj → (t ∈ opTs oi ∨ gdst ops oi = some t) → oj.dst = some t → (j < i → dep oi j) ∧ (i < j → dep oj i)) {P : Program} : ∀ (l : List Oper) (i : Nat) (x y : XSt), closeX P ops es i l x = some y → l = ops.toList.drop i → XPre ops es st0 x →
    XPre ops es st0 y ∧ (∀ (j : Nat) (rc : XRec), x.r[j]? = some (some rc) → y.r[j]? = some (some rc)) ∧ (∀ e, es.contains e = true → y.has e = x.has e) ∧ (∀ k, k < i → y.has k = x.has k) ∧
    y.s.ht = x.s.ht ∧ y.s.nx = x.s.nx ∧ y.s.asm = x.s.asm ∧ (∀ (j : Nat) (o : Oper), i ≤ j → ops[j]? = some o → es.contains j = false → (∀ k, dep o k → y.has k = true) → y.has j = true) := by
  intro l
  induction l with
  | nil =>
    intro i x y h hl hx
    simp only [closeX, Option.some.injEq] at h
    subst h
    refine ⟨hx, fun _ _ h => h, fun _ _ => rfl, fun _ _ => rfl, rfl, rfl, rfl, fun j o hij ho _ _ => ?_⟩
    exfalso
    have h1 : ops.toList.length ≤ i := by
      have := congrArg List.length hl
      simp only [List.length_nil, List.length_drop] at this
      omega
    have h2 := (Array.getElem?_eq_some_iff.1 ho).1
    rw [Array.length_toList] at h1
    omega
  | cons o l ih =>
    intro i x y h hl hx
    obtain ⟨ho, hl'⟩ := drop_head hl
    have hlt : i < x.r.length := by rw [hx.len]; exact (Array.getElem?_eq_some_iff.1 ho).1
    simp only [closeX] at h
    split at h
    · rename_i hc
      obtain ⟨a1, a2, a3, a4, a5, a6, a7, a8⟩ := ih (i + 1) x y h hl' hx
      refine ⟨a1, a2, a3, fun k hk => a4 k (by omega), a5, a6, a7, fun j oj hij hoj hes hdj => ?_⟩
      by_cases e : j = i
      · subst e
        rw [ho] at hoj
        cases hoj
        rw [a4 j (by omega)]
        rw [Bool.or_eq_true, Bool.or_eq_true] at hc
        rcases hc with (hc | hc) | hc
        · exact hc
        · rw [hes] at hc; cases hc
        · exfalso
          have hd : depsIn o x = true := depsIn_iff.2 fun k hk => by
            rw [← a4 k (by have := hlex j o ho k hk; omega)]
            exact hdj k hk
          rw [hd] at hc
          cases hc
      · exact a8 j oj (by omega) hoj hes hdj
    · rename_i hc
      simp only [Bool.or_eq_true, not_or, Bool.not_eq_true', Bool.not_eq_true, Bool.not_eq_false'] at hc
      obtain ⟨⟨hc1, hc2⟩, hc3⟩ := hc
      have hdeps := depsIn_iff.1 (by simpa using hc3)
      split at h
      case isFalse => cases h
      rename_i hdo
      have hfit : ∀ d, o.dst = some d → d < st0.n := fun d hd => by
        have := dstOk_spec hdo d hd
        rw [← hx.n]
        exact this
      have go : ∀ (v : Value), (wantsT ops x.s.tm o = false → v = undef) → closeX P ops es (i + 1) l (x.did i o v x.s.ht x.s.nx x.s.asm) = some y →
          XPre ops es st0 y ∧ (∀ (j : Nat) (rc : XRec), x.r[j]? = some (some rc) → y.r[j]? = some (some rc)) ∧ (∀ e, es.contains e = true → y.has e = x.has e) ∧ (∀ k, k < i → y.has k = x.has k) ∧
          y.s.ht = x.s.ht ∧ y.s.nx = x.s.nx ∧ y.s.asm = x.s.asm ∧ (∀ (j : Nat) (o : Oper), i ≤ j → ops[j]? = some o → es.contains j = false → (∀ k, dep o k → y.has k = true) → y.has j = true) := by
        intro v hv h
        obtain ⟨a1, a2, a3, a4, a5, a6, a7, a8⟩ := ih (i + 1) _ y h hl' (hx.did hlex hone hread ho hc1 hdeps hfit (fun _ hw => hv hw))
        refine ⟨a1, fun j rc hr => a2 j rc ?_, fun e he => ?_, fun k hk => ?_, a5, a6, a7, fun j oj hij hoj hes hdj => ?_⟩
        · rw [did_r hlt, if_neg]
          · exact hr
          · intro q; subst q; rw [has_iff.2 ⟨rc, hr⟩] at hc1; cases hc1
        · rw [a3 e he, did_has hlt]
          have : e ≠ i := fun q => by subst q; rw [he] at hc2; cases hc2
          simp [this]
        · rw [a4 k (by omega), did_has hlt]
          have : k ≠ i := by omega
          simp [this]
        · by_cases e : j = i
          · subst e
            rw [a4 j (by omega), did_has hlt]
            simp
          · exact a8 j oj (by omega) hoj hes hdj
      split at h
      · rename_i hw
        split at h
        · rename_i v hop
          exact go v (fun q => by rw [hw] at q; cases q) h
        · cases h
      · exact go undef (fun _ => rfl) h
end
structure XInv (ops : Array Oper) (es : List Nat) (st0 : ASt) (x : XSt) (listed : Array Bool) (tm : Nat → Value) : Prop where
  size : listed.size = ops.size
  down : ∀ (i : Nat) (o : Oper), ops[i]? = some o → listed.getD i false = true → ∀ j, dep o j → listed.getD j false = true
  sub : ∀ i, listed.getD i false = true → x.has i = true
  eff : ∀ e, es.contains e = true → x.has e = true → listed.getD e false = true
  put : ∀ (i : Nat) (o : Oper) (d : Tmp) (rc : XRec), ops[i]? = some o → o.dst = some d → listed.getD i false = true → x.r[i]? = some (some rc) → tm d = rc.v
  old : ∀ t, (∀ (i : Nat) (o : Oper), ops[i]? = some o → o.dst = some t → listed.getD i false = false) → tm t = st0.tm t
def XClosed (ops : Array Oper) (es : List Nat) (y : XSt) : Prop := ∀ (j : Nat) (o : Oper), ops[j]? = some o → es.contains j = false → (∀ k, dep o k → y.has k = true) → y.has j = true
def XJob (P : Program) (W0 : World) (ops : Array Oper) (es : List Nat) (x : XSt) (outs : List Out) : Prop :=
  ∀ (st0 : ASt), XPre ops es st0 x → XClosed ops es x → ∀ (ρ : Option Nat) (df : List Deferred) (C0 : Corr) (Q : Exit → Act → World → Prop),
    (∀ o ∈ outs, ∀ C a w, SRel W0 C o.s.st a w → o.s.n = st0.n → Stp st0.nx st0.H C0 o.s.nx o.s.ht.get C → a.defers = df → Q .normal a w) →
    ∀ (fuel : Nat) (listed : Array Bool) (tm : Nat → Value) (C : Corr) (a : Act) (w : World), XInv ops es st0 x listed tm → ((List.range ops.size).filter fun i => !listed.getD i false).length = fuel →
      SRel W0 C ⟨tm, st0.n, x.s.ht.get, x.s.nx⟩ a w → Stp st0.nx st0.H C0 x.s.nx x.s.ht.get C → a.defers = df → wpAnyIn (rf ρ) 0 P .any ops Q fuel listed a w
def JobS (P : Program) (W0 : World) (job : SJob) (s : CSt) (outs : List Out) : Prop :=
  match job with
  | .code c => Trip P W0 c s.st fun x st' => ∃ o ∈ outs, x = o.x ∧ st' = o.s.st
  | .loop c => ∃ k, Rnd P W0 c (fun x st' => ∃ o ∈ outs, x = o.x ∧ st' = o.s.st) k s.st
  | .scope b c => ∃ k, Scp P W0 b (fun x st' => ∃ o ∈ outs, x = o.x ∧ st' = o.s.st) k c s.st
  | .ops ops l => (∀ o ∈ outs, o.x = .normal) ∧ ∀ i, l = ops.toList.drop i → Ops P W0 ops (List.range' i l.length) s.st fun st' => ∃ o ∈ outs, st' = o.s.st
  | .dops ops l => ∀ o ∈ outs, TrOk P W0 ops l s o.tr o.s
  | .call f args => GCalls P W0 f args s.nx s.ht.get fun v nx H => ∃ o ∈ outs, v = o.v ∧ nx = o.s.nx ∧ H = o.s.ht.get
  | .xbr ops es r => (∀ o ∈ outs, o.x = .normal) ∧ (statOk ops = true → XJob P W0 ops es ⟨s, r⟩ outs)
end
end Go.Am
