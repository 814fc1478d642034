import Derived.Test.YtmijhkclfoadaaaDoorQEM29
namespace Go.Am
set_option linter.unusedSimpArgs false
set_option linter.unusedVariables false
open Go.RowKit
noncomputable section
def tmF (tt : Tree Value) (t : Tmp) : Value := Option.rec (motive := fun _ => Value) undef (fun v => v) ((slotOf t).get tt)
theorem tmF_eq (s : CSt) : tmF s.tt = s.tm := by
  funext t
  show Option.rec (motive := fun _ => Value) undef (fun v => v) (s.tt.get t) = (s.tt.get t).getD undef
  cases s.tt.get t <;> rfl
def evTmp (t : Tmp) (tt : Tree Value) : Option Value := some (tmF tt t)
def evConst (v : Value) (_ : Tree Value) : Option Value := Bool.rec (motive := fun _ => Option Value) (Bool.rec (motive := fun _ => Option Value) none (some v) (plainC v)) (some v) (plain1 v)
def evGlobal (g : Nat) (_ : Tree Value) : Option Value := Bool.rec (motive := fun _ => Option Value) none (some (.pointer (some ⟨g, 0, none⟩))) (Nat.blt g NG)
def evFunc (f : FuncId) (_ : Tree Value) : Option Value := some (.func (.func f) #[] #[])
def evF (tt : Tree Value) (x : Operand) : Option Value := Operand.rec (motive := fun _ => Tree Value → Option Value) evTmp evConst evGlobal evFunc x tt
theorem evF_eq (s : CSt) : evF s.tt = s.st.ev := by
  funext x
  cases x with
  | tmp t => show some (tmF s.tt t) = some (s.tm t); rw [tmF_eq]
  | const v =>
    show Bool.rec (motive := fun _ => Option Value) (Bool.rec (motive := fun _ => Option Value) none (some v) (plainC v)) (some v) (plain1 v) = if plainC v then some v else none
    cases h1 : plain1 v with
    | true => rw [plainC_of h1]; rfl
    | false => cases plainC v <;> rfl
  | global g =>
    show Bool.rec (motive := fun _ => Option Value) none (some (.pointer (some ⟨g, 0, none⟩))) (Nat.blt g NG) = cond (Nat.blt g NG) _ _
    cases Nat.blt g NG <;> rfl
  | func f => rfl
def dstF (n : Nat) (dst : Option Tmp) : Bool := Option.rec (motive := fun _ => Bool) true (fun d => Nat.ble (Nat.succ d) n) dst
theorem dstF_eq (s : CSt) (o : Oper) : dstF s.n o.dst = dstOk s.st o := by
  unfold dstOk dstF
  cases o.dst with
  | none => rfl
  | some d =>
    show Nat.ble (Nat.succ d) s.n = decide (d < s.n)
    rw [Bool.eq_iff_iff, decide_eq_true_eq]
    exact iff_of_eq Nat.ble_eq
def asBool (v : Value) : Option Bool :=
  Value.rec (motive_1 := fun _ => Option Bool) (motive_2 := fun _ => Unit) (motive_3 := fun _ => Unit)
    (fun b => some b) (fun _ _ => none) (fun _ _ => none) (fun _ _ _ => none) (fun _ => none) (fun _ => none) (fun _ _ _ => none) (fun _ => none) (fun _ => none)
    (fun _ _ _ _ _ => none) none (fun _ _ _ => none) none (fun _ _ => none) (fun _ _ => none) (fun _ _ => ()) () (fun _ _ _ _ => ()) v
def asFn (v : Value) : Option (Fn × List Value × List Value) :=
  Value.rec (motive_1 := fun _ => Option (Fn × List Value × List Value)) (motive_2 := fun _ => Unit) (motive_3 := fun _ => Unit)
    (fun _ => none) (fun _ _ => none) (fun _ _ => none) (fun _ _ _ => none) (fun _ => none) (fun _ => none) (fun _ _ _ => none) (fun _ => none) (fun _ => none)
    (fun f a b _ _ => some (f, a.toList, b.toList)) none (fun _ _ _ => none) none (fun _ _ => none) (fun _ _ => none) (fun _ _ => ()) () (fun _ _ _ _ => ()) v
def asYl (v : Value) : Option Nat :=
  Value.rec (motive_1 := fun _ => Option Nat) (motive_2 := fun _ => Unit) (motive_3 := fun _ => Unit)
    (fun _ => none) (fun _ _ => none) (fun _ _ => none) (fun _ _ _ => none) (fun _ => none) (fun _ => none) (fun _ _ _ => none) (fun _ => none) (fun r => r)
    (fun _ _ _ _ _ => none) none (fun _ _ _ => none) none (fun _ _ => none) (fun _ _ => none) (fun _ _ => ()) () (fun _ _ _ _ => ()) v
def asInt (v : Value) : Option (IntKind × Int) :=
  Value.rec (motive_1 := fun _ => Option (IntKind × Int)) (motive_2 := fun _ => Unit) (motive_3 := fun _ => Unit)
    (fun _ => none) (fun k n => some (k, n)) (fun _ _ => none) (fun _ _ _ => none) (fun _ => none) (fun _ => none) (fun _ _ _ => none) (fun _ => none) (fun _ => none) (fun _ _ _ _ _ => none) none (fun _ _ _ => none) none (fun _ _ => none) (fun _ _ => none) (fun _ _ => ()) () (fun _ _ _ _ => ()) v
def asPtr (v : Value) : Option Addr :=
  Value.rec (motive_1 := fun _ => Option Addr) (motive_2 := fun _ => Unit) (motive_3 := fun _ => Unit)
    (fun _ => none) (fun _ _ => none) (fun _ _ => none) (fun _ _ _ => none) (fun _ => none) (fun a => a) (fun _ _ _ => none) (fun _ => none) (fun _ => none) (fun _ _ _ _ _ => none) none (fun _ _ _ => none) none (fun _ _ => none) (fun _ _ => none) (fun _ _ => ()) () (fun _ _ _ _ => ()) v
def asSlc (v : Value) : Option (Addr × Nat × Nat) :=
  Value.rec (motive_1 := fun _ => Option (Addr × Nat × Nat)) (motive_2 := fun _ => Unit) (motive_3 := fun _ => Unit)
    (fun _ => none) (fun _ _ => none) (fun _ _ => none) (fun _ _ _ => none) (fun _ => none) (fun _ => none) (fun a l c => Option.rec (motive := fun _ => Option (Addr × Nat × Nat)) none (fun a => some (a, l, c)) a) (fun _ => none) (fun _ => none) (fun _ _ _ _ _ => none) none (fun _ _ _ => none) none (fun _ _ => none) (fun _ _ => none) (fun _ _ => ()) () (fun _ _ _ _ => ()) v
def asAgg (v : Value) : Option (List Value) :=
  Value.rec (motive_1 := fun _ => Option (List Value)) (motive_2 := fun _ => Unit) (motive_3 := fun _ => Unit)
    (fun _ => none) (fun _ _ => none) (fun _ _ => none) (fun _ _ _ => none) (fun _ => none) (fun _ => none) (fun _ _ _ => none) (fun _ => none) (fun _ => none) (fun _ _ _ _ _ => none) none (fun _ _ _ => none) none (fun a _ => some a.toList) (fun _ _ => none) (fun _ _ => ()) () (fun _ _ _ _ => ()) v
def asTup (v : Value) : Option (List Value) :=
  Value.rec (motive_1 := fun _ => Option (List Value)) (motive_2 := fun _ => Unit) (motive_3 := fun _ => Unit)
    (fun _ => none) (fun _ _ => none) (fun _ _ => none) (fun _ _ _ => none) (fun _ => none) (fun _ => none) (fun _ _ _ => none) (fun _ => none) (fun _ => none) (fun _ _ _ _ _ => none) none (fun _ _ _ => none) none (fun _ _ => none) (fun a _ => some a.toList) (fun _ _ => ()) () (fun _ _ _ _ => ()) v
def asFid (f : Fn) : Option FuncId :=
  Fn.rec (motive := fun _ => Option FuncId) (fun f => some f) (fun _ => none) (fun _ _ => none) (fun _ _ _ _ => none) (fun _ => none) f
def nthV (c : List Value) : Nat → Option Value :=
  List.rec (motive := fun _ => Nat → Option Value) (fun _ => none)
    (fun x _ ih n => Nat.rec (motive := fun _ => Value → (Nat → Option Value) → Option Value) (fun x _ => some x) (fun m _ _ k => k m) n x ih) c
def consO (x : Value) (r : Option (List Value)) : Option (List Value) :=
  Option.rec (motive := fun _ => Value → Option (List Value)) (fun _ => none) (fun l x => some (x :: l)) r x
def cutV (c : List Value) : Nat → Nat → Option (List Value) :=
  List.rec (motive := fun _ => Nat → Nat → Option (List Value))
    (fun off n => Nat.rec (motive := fun _ => Option (List Value)) (some []) (fun _ _ => none) (Nat.add off n))
    (fun x _ ih off n => Nat.rec (motive := fun _ => Nat → Value → (Nat → Nat → Option (List Value)) → Option (List Value))
      (fun n x k => Nat.rec (motive := fun _ => Value → (Nat → Nat → Option (List Value)) → Option (List Value)) (fun _ _ => some []) (fun m _ x k => consO x (k 0 m)) n x k)
      (fun off _ n _ k => k off n) off n x ih) c
def putL (c : List Value) : Nat → List Value → Option (List Value) :=
  List.rec (motive := fun _ => Nat → List Value → Option (List Value))
    (fun off vs => Nat.rec (motive := fun _ => List Value → Option (List Value)) (fun vs => List.rec (motive := fun _ => Option (List Value)) (some []) (fun _ _ _ => none) vs) (fun _ _ _ => none) off vs)
    (fun x l ih off vs => Nat.rec (motive := fun _ => List Value → Value → List Value → (Nat → List Value → Option (List Value)) → Option (List Value))
      (fun vs x l k => List.rec (motive := fun _ => Value → List Value → (Nat → List Value → Option (List Value)) → Option (List Value)) (fun x l _ => some (x :: l)) (fun v vs _ _ _ k => consO v (k 0 vs)) vs x l k)
      (fun off _ vs x _ k => consO x (k off vs)) off vs x l ih) c
def lenV (c : List Value) : Nat := List.rec (motive := fun _ => Nat) 0 (fun _ _ ih => Nat.succ ih) c
def sameSpot (a b : Option Nat) : Bool :=
  Option.rec (motive := fun _ => Option Nat → Bool) (fun b => Option.rec (motive := fun _ => Bool) true (fun _ => false) b)
    (fun x b => Option.rec (motive := fun _ => Nat → Bool) (fun _ => false) (fun y x => Nat.beq x y) b x) a b
def rdK (P : Program) (t : TypeId) : Option (Option Nat) :=
  match P.underlying t with
  | none => none
  | some d => if isAggD d then (szOf P t).map some else some none
def cellAtF (o : AObj) (off : Nat) (spot : Option Nat) : Option Value :=
  AObj.rec (motive := fun _ => Nat → Option Nat → Option Value) (fun c _ t _ _ off spot => Bool.rec (motive := fun _ => Option Value) none (nthV c off) (sameSpot t spot)) (fun _ _ _ _ _ => none) (fun _ _ _ _ => none) (fun _ _ _ _ _ _ => none) (fun _ _ _ _ _ _ _ _ _ => none) o off spot
def cellsAtF (o : AObj) (off : Nat) (spot : Option Nat) (n : Nat) : Option (List Value) :=
  AObj.rec (motive := fun _ => Nat → Option Nat → Nat → Option (List Value)) (fun c _ t _ _ off spot n => Bool.rec (motive := fun _ => Option (List Value)) none (cutV c off n) (sameSpot t spot)) (fun _ _ _ _ _ _ => none) (fun _ _ _ _ _ => none) (fun _ _ _ _ _ _ _ => none) (fun _ _ _ _ _ _ _ _ _ _ => none) o off spot n
def readF (P : Program) (t : TypeId) (ht : Tree AObj) (a : Addr) : Option Value :=
  Option.rec (motive := fun _ => Option Value) none (fun k =>
    Addr.rec (motive := fun _ => Option Value) (fun b off spot =>
      Option.rec (motive := fun _ => Option Value) none (fun o =>
        Option.rec (motive := fun _ => Option Value) (cellAtF o off spot)
          (fun n => Option.rec (motive := fun _ => Option Value) none (fun l => some (.agg ⟨l⟩)) (cellsAtF o off spot n)) k) ((slotOf b).get ht)) a) (rdK P t)
def loadF (P : Program) (t : TypeId) (ht : Tree AObj) (v : Value) : Option Value :=
  Option.rec (motive := fun _ => Option Value) none (fun a => readF P t ht a) (asPtr v)
def cellsF (v : Value) : List Value := Option.rec (motive := fun _ => List Value) [v] (fun l => l) (asAgg v)
def one' (v : Value) : Bool :=
  Value.rec (motive_1 := fun _ => Bool) (motive_2 := fun _ => Unit) (motive_3 := fun _ => Unit)
    (fun _ => true) (fun _ _ => true) (fun _ _ => true) (fun _ _ _ => true) (fun _ => true) (fun _ => true) (fun _ _ _ => true) (fun _ => true) (fun _ => true)
    (fun _ _ _ _ _ => true) true (fun _ _ _ => true) true (fun _ _ => false) (fun _ _ => false) (fun _ _ => ()) () (fun _ _ _ _ => ()) v
def ones' (l : List Value) : Bool := List.rec (motive := fun _ => Bool) true (fun v _ ih => Bool.rec (motive := fun _ => Bool) false ih (one' v)) l
def setF (o : AObj) (off : Nat) (spot : Option Nat) (vs : List Value) : Option AObj :=
  AObj.rec (motive := fun _ => Nat → Option Nat → List Value → Option AObj)
    (fun c e t ro q off spot vs => Bool.rec (motive := fun _ => Option AObj) none
      (Bool.rec (motive := fun _ => Option AObj) (Bool.rec (motive := fun _ => Option AObj) none (Option.rec (motive := fun _ => Option AObj) none (fun c' => some (.cells c' e t false q)) (putL c off vs)) (ones' vs)) none ro) (sameSpot t spot))
    (fun _ _ _ _ _ _ => none) (fun _ _ _ _ _ => none) (fun _ _ _ _ _ _ _ => none) (fun _ _ _ _ _ _ _ _ _ _ => none) o off spot vs
def writeF (P : Program) (t : TypeId) (ht : Tree AObj) (a : Addr) (vs : List Value) : Option Eff :=
  Addr.rec (motive := fun _ => Option Eff) (fun b off spot =>
    Option.rec (motive := fun _ => Option Eff) none (fun sz =>
      Bool.rec (motive := fun _ => Option Eff) none
        (Option.rec (motive := fun _ => Option Eff) none (fun o => Option.rec (motive := fun _ => Option Eff) none (fun o' => some (.upd b o')) (setF o off spot vs)) ((slotOf b).get ht)) (Nat.beq sz (lenV vs))) (szOf P t)) a
def storeF (P : Program) (t : TypeId) (ht : Tree AObj) (v u : Value) : Option Eff :=
  Option.rec (motive := fun _ => Option Eff) none (fun a => writeF P t ht a (cellsF u)) (asPtr v)
def idxK (P : Program) (t : TypeId) : Option (Option Nat × Nat) :=
  match P.underlying t with
  | some (.array len elem) => (szOf P elem).map fun n => (some len, n)
  | some (.slice elem) => (szOf P elem).map fun n => (none, n)
  | _ => none
def asNat (i : Int) : Option Nat := Int.rec (motive := fun _ => Option Nat) (fun n => some n) (fun _ => none) i
def asIdx (v : Value) : Option Nat := Option.rec (motive := fun _ => Option Nat) none (fun q => Prod.rec (motive := fun _ => Option Nat) (fun _ i => asNat i) q) (asInt v)
def stepTo (a : Addr) (i size len : Nat) : Option Value :=
  Bool.rec (motive := fun _ => Option Value) none (Addr.rec (motive := fun _ => Option Value) (fun b off spot => some (.pointer (some ⟨b, Nat.add off (Nat.mul i size), spot⟩))) a) (Nat.blt i len)
def idxF (P : Program) (t : TypeId) (v j : Value) : Option Value :=
  Option.rec (motive := fun _ => Option Value) none (fun q => Prod.rec (motive := fun _ => Option Value) (fun k size =>
    Option.rec (motive := fun _ => Option Value) none (fun i =>
      Option.rec (motive := fun _ => Option Value)
        (Option.rec (motive := fun _ => Option Value) none (fun y => Prod.rec (motive := fun _ => Option Value) (fun a y => stepTo a i size y.1) y) (asSlc v))
        (fun len => Option.rec (motive := fun _ => Option Value) none (fun a => stepTo a i size len) (asPtr v)) k) (asIdx j)) q) (idxK P t)
def fldK (P : Program) (t : TypeId) (f : Nat) : Option (Nat × TypeId) :=
  match P.underlying t with
  | some (.struct fields) => (fields[f]?).map fun fd => (fd.offset, fd.type)
  | _ => none
def fadK (P : Program) (t : TypeId) (f : Nat) : Option Nat :=
  match fldK P t f with
  | some (off, ty) => (match szOf P ty with | some n => if n = 0 then none else some off | none => none)
  | none => none
def fadF (P : Program) (t : TypeId) (v : Value) (f : Nat) : Option Value :=
  Option.rec (motive := fun _ => Option Value) none (fun d =>
    Option.rec (motive := fun _ => Option Value) none (fun a => Addr.rec (motive := fun _ => Option Value) (fun b off spot => some (.pointer (some ⟨b, Nat.add off d, spot⟩))) a) (asPtr v)) (fadK P t f)
def partF (P : Program) (t : TypeId) (cs : List Value) (off : Nat) : Option Value :=
  Option.rec (motive := fun _ => Option Value) none (fun k =>
    Option.rec (motive := fun _ => Option Value) (nthV cs off) (fun n => Option.rec (motive := fun _ => Option Value) none (fun l => some (.agg ⟨l⟩)) (cutV cs off n)) k) (rdK P t)
def fldF (P : Program) (t : TypeId) (v : Value) (f : Nat) : Option Value :=
  Option.rec (motive := fun _ => Option Value) none (fun q => Prod.rec (motive := fun _ => Option Value) (fun off ty =>
    Option.rec (motive := fun _ => Option Value) none (fun cs => partF P ty cs off) (asAgg v)) q) (fldK P t f)
def extF (v : Value) (i : Nat) : Option Value := Option.rec (motive := fun _ => Option Value) none (fun l => nthV l i) (asTup v)
def kNo (k : IntKind) : Nat := IntKind.rec (motive := fun _ => Nat) 0 1 2 3 4 5 6 7 k
def maxK (k : IntKind) : Nat := IntKind.rec (motive := fun _ => Nat) 127 32767 2147483647 9223372036854775807 255 65535 4294967295 18446744073709551615 k
def minK (k : IntKind) : Nat := IntKind.rec (motive := fun _ => Nat) 128 32768 2147483648 9223372036854775808 0 0 0 0 k
def wrapF (k : IntKind) (n : Int) : Int :=
  Int.rec (motive := fun _ => IntKind → Int) (fun m k => Bool.rec (motive := fun _ => Int) (k.wrap (.ofNat m)) (.ofNat m) (Nat.ble m (maxK k))) (fun m k => Bool.rec (motive := fun _ => Int) (k.wrap (.negSucc m)) (.negSucc m) (Nat.blt m (minK k))) n k
def subN (m n : Nat) : Int := Bool.rec (motive := fun _ => Int) (.ofNat (Nat.sub m n)) (.negSucc (Nat.sub (Nat.sub n m) 1)) (Nat.blt m n)
def addI (a b : Int) : Int :=
  Int.rec (motive := fun _ => Int → Int) (fun m b => Int.rec (motive := fun _ => Nat → Int) (fun n m => .ofNat (Nat.add m n)) (fun n m => subN m (Nat.succ n)) b m)
    (fun m b => Int.rec (motive := fun _ => Nat → Int) (fun n m => subN n (Nat.succ m)) (fun n m => .negSucc (Nat.succ (Nat.add m n))) b m) a b
def negI (a : Int) : Int :=
  Int.rec (motive := fun _ => Int) (fun m => Nat.rec (motive := fun _ => Int) (.ofNat 0) (fun k _ => .negSucc k) m) (fun m => .ofNat (Nat.succ m)) a
def eqI (a b : Int) : Bool :=
  Int.rec (motive := fun _ => Int → Bool) (fun m b => Int.rec (motive := fun _ => Nat → Bool) (fun n m => Nat.beq m n) (fun _ _ => false) b m)
    (fun m b => Int.rec (motive := fun _ => Nat → Bool) (fun _ _ => false) (fun n m => Nat.beq m n) b m) a b
def ltI (a b : Int) : Bool :=
  Int.rec (motive := fun _ => Int → Bool) (fun m b => Int.rec (motive := fun _ => Nat → Bool) (fun n m => Nat.blt m n) (fun _ _ => false) b m)
    (fun m b => Int.rec (motive := fun _ => Nat → Bool) (fun _ _ => true) (fun n m => Nat.blt n m) b m) a b
def notB (b : Bool) : Bool := Bool.rec (motive := fun _ => Bool) true false b
abbrev KBin := IntKind → Int → IntKind → Int → Option Value
def same2 (k k' : IntKind) (v : Value) : Option Value := Bool.rec (motive := fun _ => Option Value) none (some v) (Nat.beq (kNo k) (kNo k'))
def same3 (k k' : IntKind) (v : Option Value) : Option Value := Bool.rec (motive := fun _ => Option Value) none v (Nat.beq (kNo k) (kNo k'))
def bAdd : KBin := fun k x k' y => same2 k k' (.int k (wrapF k (addI x y)))
def bSub : KBin := fun k x k' y => same2 k k' (.int k (wrapF k (addI x (negI y))))
def bOld (op : BinOp) : KBin := fun k x k' y => same3 k k' (intArith op k x y)
def bSh (op : BinOp) : KBin := fun k x _ y => aShift op k x y
def bEql : KBin := fun k x k' y => same2 k k' (.bool (eqI x y))
def bNeq : KBin := fun k x k' y => same2 k k' (.bool (notB (eqI x y)))
def bLss : KBin := fun k x k' y => same2 k k' (.bool (ltI x y))
def bLeq : KBin := fun k x k' y => same2 k k' (.bool (notB (ltI y x)))
def bGtr : KBin := fun k x k' y => same2 k k' (.bool (ltI y x))
def bGeq : KBin := fun k x k' y => same2 k k' (.bool (notB (ltI x y)))
def binI (op : BinOp) : KBin :=
  BinOp.rec (motive := fun _ => KBin) bAdd bSub (bOld .mul) (bOld .quo) (bOld .rem) (bOld .and) (bOld .or) (bOld .xor) (bSh .shl) (bSh .shr) (bOld .andNot) bEql bNeq bLss bLeq bGtr bGeq op
def binF (P : Program) (ht : Tree AObj) (op : BinOp) (t : TypeId) (x y : Operand) (a b : Value) : Option Value :=
  Option.rec (motive := fun _ => Option Value) (aBin P ht.get op t x y a b)
    (fun p => Option.rec (motive := fun _ => Option Value) (aBin P ht.get op t x y a b)
      (fun q => Prod.rec (motive := fun _ => Option Value) (fun k n => Prod.rec (motive := fun _ => Option Value) (fun k' m => binI op k n k' m) q) p) (asInt b)) (asInt a)
def cvK (P : Program) (src dst : TypeId) : Option IntKind :=
  match P.underlying src, P.underlying dst with
  | some _, some (.int k) => some k
  | _, _ => none
def cvF (P : Program) (nx : Nat) (ht : Tree AObj) (src dst : TypeId) (v : Value) : Option (Value × Eff) :=
  Option.rec (motive := fun _ => Option (Value × Eff)) (match aConvert P nx ht.get src dst v with | some r => some r | none => match aConvPtr P ht.get src dst v with | some r => some (r, .none) | none => (aIntStr P src dst v).map (·, .none))
    (fun k => Option.rec (motive := fun _ => Option (Value × Eff)) none (fun q => Prod.rec (motive := fun _ => Option (Value × Eff)) (fun _ n => some (.int k (wrapF k n), .none)) q) (asInt v)) (cvK P src dst)
def lenK (P : Program) (ts : Array TypeId) : Bool :=
  match ts[0]? with
  | some t => (match P.underlying t with | some (.slice _) => true | _ => false)
  | none => false
def lenF (P : Program) (ht : Tree AObj) (ts : Array TypeId) (vs : List Value) : Option Value :=
  List.rec (motive := fun _ => Option Value) none (fun v r _ => List.rec (motive := fun _ => Option Value)
    (Bool.rec (motive := fun _ => Option Value) (aLen P ht.get ts v)
      (Option.rec (motive := fun _ => Option Value) (aLen P ht.get ts v) (fun y => Prod.rec (motive := fun _ => Option Value) (fun _ y => some (.int .i64 (.ofNat y.1))) y) (asSlc v)) (lenK P ts))
    (fun _ _ _ => none) r) vs
def fillF (place : Nat → Option (Nat × Nat)) (parts : List (Nat × Value)) : List Value → Option (List Value) :=
  List.rec (motive := fun _ => List Value → Option (List Value)) (fun cells => some cells)
    (fun x _ ih cells => Prod.rec (motive := fun _ => Option (List Value)) (fun i v =>
      Option.rec (motive := fun _ => Option (List Value)) none (fun q => Prod.rec (motive := fun _ => Option (List Value)) (fun off size =>
        Bool.rec (motive := fun _ => Option (List Value)) none (Option.rec (motive := fun _ => Option (List Value)) none ih (putL cells off (cellsF v))) (Nat.beq (lenV (cellsF v)) size)) q) (place i)) x) parts
def bdK (P : Program) (t : TypeId) : Option (List Value × (Nat → Option (Nat × Nat))) :=
  match P.underlying t, zeroOf P t with
  | some (.struct fields), some z => if fields.toList.all fun f => (szOf P f.type).isSome then some (z, fieldPlaces P fields) else none
  | some (.array _ elem), some z => (szOf P elem).map fun size => (z, fun i => some (i * size, size))
  | _, _ => none
def buildF (P : Program) (t : TypeId) (parts : List (Nat × Value)) : Option Value :=
  Option.rec (motive := fun _ => Option Value) none (fun q => Prod.rec (motive := fun _ => Option Value) (fun z place => Option.rec (motive := fun _ => Option Value) none (fun l => some (.agg ⟨l⟩)) (fillF place parts z)) q) (bdK P t)
def bsK (P : Program) (t : TypeId) (len : Nat) : Option (TypeId × Nat × List Value) :=
  match P.underlying t with
  | some (.slice elem) =>
    match szOf P elem, zeroOf P elem with
    | some size, some z => if len * size ≤ 16777216 ∧ z.length = size then some (elem, size, rep len z) else none
    | _, _ => none
  | _ => none
def buildSliceF (P : Program) (nx : Nat) (t : TypeId) (len : Nat) (parts : List (Nat × Value)) : Option (Value × Eff) :=
  Option.rec (motive := fun _ => Option (Value × Eff)) none (fun q => Prod.rec (motive := fun _ => Option (Value × Eff)) (fun elem q => Prod.rec (motive := fun _ => Option (Value × Eff)) (fun size z =>
    Option.rec (motive := fun _ => Option (Value × Eff)) none (fun l => some (.slice (some ⟨nx, 0, none⟩) len len, .new (.cells l size none false (some elem)))) (fillF (fun i => some (i * size, size)) parts z)) q) q) (bsK P t len)
def apK (P : Program) (ts : Array TypeId) : Option (TypeId × Nat × Nat) :=
  match ts[0]?, ts[1]? with
  | some st, some xt =>
    match P.underlying st, P.underlying xt with
    | some (.slice elem), some xd =>
      match szOf P elem, bytesOfT P elem, zeroOf P elem with
      | some size, some bytes, some z => if notInt xd ∧ z.length = size then some (elem, size, bytes) else none
      | _, _, _ => none
    | _, _ => none
  | _, _ => none
def cellsOfO (o : AObj) : Option (List Value × Nat × Option Nat × Bool × Option TypeId) :=
  AObj.rec (motive := fun _ => Option (List Value × Nat × Option Nat × Bool × Option TypeId)) (fun c e t r q => some (c, e, t, r, q)) (fun _ _ _ => none) (fun _ _ => none) (fun _ _ _ _ => none) (fun _ _ _ _ _ _ _ => none) o
def roomF (m bytes : Nat) : Bool := Bool.rec (motive := fun _ => Bool) false (Nat.ble (Nat.mul (Nat.add (Nat.mul 2 m) 192) bytes) 281474976710656) (Nat.ble m 1099511627776)
def growF (ht : Tree AObj) (nx : Nat) (elem size bytes : Nat) (a : Addr) (len n : Nat) (xs : List Value) : Option (Value × Eff) :=
  Addr.rec (motive := fun _ => Option (Value × Eff)) (fun b off spot =>
    Option.rec (motive := fun _ => Option (Value × Eff)) none (fun _ =>
    Option.rec (motive := fun _ => Option (Value × Eff)) none (fun o => Option.rec (motive := fun _ => Option (Value × Eff)) none (fun y =>
      Prod.rec (motive := fun _ => Option (Value × Eff)) (fun c y => Prod.rec (motive := fun _ => Option (Value × Eff)) (fun esz y => Prod.rec (motive := fun _ => Option (Value × Eff)) (fun tag y => Prod.rec (motive := fun _ => Option (Value × Eff)) (fun ro q =>
        Bool.rec (motive := fun _ => Option (Value × Eff)) none
          (Option.rec (motive := fun _ => Option (Value × Eff)) none (fun old => some (.slice (some ⟨b, 0, some nx⟩) (Nat.add len n) (Nat.add len n), .bump b (.cells (old ++ xs) size (some nx) false q))) (cutV c off (Nat.mul len size)))
          (Bool.rec (motive := fun _ => Bool) false (Bool.rec (motive := fun _ => Bool) (Bool.rec (motive := fun _ => Bool) false (Bool.rec (motive := fun _ => Bool) false (roomF (Nat.add len n) bytes) (sameSpot q (some elem))) (Nat.beq esz size)) false ro) (sameSpot tag spot))) y) y) y) y)
      (cellsOfO o)) ((slotOf b).get ht)) spot) a
def appF (P : Program) (ht : Tree AObj) (nx : Nat) (ts : Array TypeId) (s x : Value) : Option (Value × Eff) :=
  Option.rec (motive := fun _ => Option (Value × Eff)) none (fun q => Prod.rec (motive := fun _ => Option (Value × Eff)) (fun elem q => Prod.rec (motive := fun _ => Option (Value × Eff)) (fun size bytes =>
    Option.rec (motive := fun _ => Option (Value × Eff)) none (fun y => Prod.rec (motive := fun _ => Option (Value × Eff)) (fun xa y => Prod.rec (motive := fun _ => Option (Value × Eff)) (fun n _ =>
      Addr.rec (motive := fun _ => Option (Value × Eff)) (fun xb xo xspot =>
      Option.rec (motive := fun _ => Option (Value × Eff)) none (fun o =>
      Option.rec (motive := fun _ => Option (Value × Eff)) none (fun xs =>
        Bool.rec (motive := fun _ => Option (Value × Eff)) none (Bool.rec (motive := fun _ => Option (Value × Eff))
          (Option.rec (motive := fun _ => Option (Value × Eff)) none (fun z => Prod.rec (motive := fun _ => Option (Value × Eff)) (fun a z => growF ht nx elem size bytes a z.1 n xs) z) (asSlc s)) none (Nat.beq (Nat.mul n size) 0)) (ones' xs)) (cellsAtF o xo xspot (Nat.mul n size))) ((slotOf xb).get ht)) xa) y) y) (asSlc x)) q) q) (apK P ts)
def appendF (P : Program) (ht : Tree AObj) (nx : Nat) (ts : Array TypeId) (s x : Value) : Option (Value × Eff) :=
  Option.rec (motive := fun _ => Option (Value × Eff)) (aBuiltin P ht.get nx .append ts [s, x]) (fun r => some r) (appF P ht nx ts s x)
def plainF (P : Program) : Nat → List Field → Bool
  | _, [] => true
  | i, f :: fs => (decide (f.name ≠ "_") && Nat.beq f.offset i && (match P.underlying f.type with | some (.int _) => true | _ => false)) && plainF P (i + 1) fs
def keyK (P : Program) (kt : TypeId) : Option Nat :=
  match P.underlying kt with
  | some (.struct fs) => if P.stoodInHeld kt then none else if plainF P 0 fs.toList then some fs.toList.length else none
  | _ => none
def eq2 (a b : Option (IntKind × Int)) (r : Option Bool) : Option Bool :=
  Option.rec (motive := fun _ => Option Bool) none (fun p => Option.rec (motive := fun _ => Option Bool) none (fun q =>
    Prod.rec (motive := fun _ => Option Bool) (fun k x => Prod.rec (motive := fun _ => Option Bool) (fun k' y => Bool.rec (motive := fun _ => Option Bool) none (Bool.rec (motive := fun _ => Option Bool) (some false) r (eqI x y)) (Nat.beq (kNo k) (kNo k'))) q) p) b) a
def eqInts (n : Nat) : List Value → List Value → Option Bool :=
  Nat.rec (motive := fun _ => List Value → List Value → Option Bool) (fun _ _ => some true)
    (fun _ ih xs ys => List.rec (motive := fun _ => Option Bool) none (fun x xs _ => List.rec (motive := fun _ => Option Bool) none (fun y ys _ => eq2 (asInt x) (asInt y) (ih xs ys)) ys) xs) n
def eqKey (P : Program) (ht : Tree AObj) (kt : TypeId) (k k' : Value) : Option Bool :=
  Option.rec (motive := fun _ => Option Bool) (aEq P ht.get 60 kt k k') (fun n =>
    Option.rec (motive := fun _ => Option Bool) (aEq P ht.get 60 kt k k') (fun xs => Option.rec (motive := fun _ => Option Bool) (aEq P ht.get 60 kt k k') (fun ys =>
      Option.rec (motive := fun _ => Option Bool) (aEq P ht.get 60 kt k k') (fun b => some b) (eqInts n xs ys)) (asAgg k')) (asAgg k)) (keyK P kt)
def findF (P : Program) (ht : Tree AObj) (kt : TypeId) (k : Value) (es : List (Value × Value)) : Nat → Option (Option (Nat × Value)) :=
  List.rec (motive := fun _ => Nat → Option (Option (Nat × Value))) (fun _ => some none)
    (fun x _ ih i => Prod.rec (motive := fun _ => Option (Option (Nat × Value))) (fun k' v => Option.rec (motive := fun _ => Option (Option (Nat × Value))) none (fun b => Bool.rec (motive := fun _ => Option (Option (Nat × Value))) (ih (Nat.succ i)) (some (some (i, v))) b) (eqKey P ht kt k k')) x) es
def ckF (P : Program) (kt : TypeId) (k : Value) : Bool :=
  Option.rec (motive := fun _ => Bool) (aCheckKey P 60 kt k) (fun n =>
    Option.rec (motive := fun _ => Bool) (aCheckKey P 60 kt k) (fun xs => Bool.rec (motive := fun _ => Bool) (aCheckKey P 60 kt k) true (Nat.ble n (lenV xs))) (asAgg k)) (keyK P kt)
def lookupF (P : Program) (ht : Tree AObj) (t : TypeId) (x k : Value) (ok : Bool) : Option Value :=
  match P.underlying t with
  | some (.map kt et) =>
    match mapOf ht.get x, zeroV P et with
    | some es, some z =>
      if ckF P kt k ∧ (P.underlying kt).isSome then
        match findF P ht kt k es 0 with
        | some (some (_, v)) => some (if ok then .tuple #[v, .bool true] else v)
        | some none => some (if ok then .tuple #[z, .bool false] else z)
        | none => none
      else none
    | _, _ => none
  | _ => none
def updateF (P : Program) (ht : Tree AObj) (t : TypeId) (m k v : Value) : Option Eff :=
  match P.underlying t, m with
  | some (.map kt _), .map (some r) =>
    match ht.get r with
    | some (.map es bs clk) =>
      if ckF P kt k ∧ (P.underlying kt).isSome ∧ keyOk ht.get k then
        match findF P ht kt k es 0 with
        | some (some (i, _)) =>
          match es[i]? with
          | some (k0, _) => if aMapUpdate.veqk k0 k then some (.upd r (.map (es.set i (k, v)) bs clk)) else none
          | none => none
        | some none => some (.upd r (.map (es ++ [(k, v)]) (bs ++ [clk]) (clk + 1)))
        | none => none
      else none
    | _ => none
  | _, _ => none
def mapEntryF (P : Program) (ht : Tree AObj) (t : TypeId) (m k : Value) : Option (Value × Eff) :=
  match P.underlying t, m with
  | some (.map kt et), .map (some r) =>
    match ht.get r with
    | some (.map es bs clk) =>
      if ckF P kt k ∧ (P.underlying kt).isSome ∧ plainKey k then
        match findF P ht kt k es 0 with
        | some (some (i, _)) =>
          match es[i]?, bs[i]? with
          | some (k0, v0), some b => if aMapUpdate.veqk k0 k then some (.tuple #[v0, goInt b], .upd r (.map (es.set i (k, v0)) bs clk)) else none
          | _, _ => none
        | some none =>
          match zeroV P et with
          | some z => some (.tuple #[z, goInt clk], .upd r (.map (es ++ [(k, z)]) (bs ++ [clk]) (clk + 1)))
          | none => none
        | none => none
      else none
    | _ => none
  | _, _ => none
inductive FJob where
  | code (c : Code)
  | loop (c : Code)
  | scope (b c : Code)
  | ops (q : Nat) (ops : Array Oper) (l : List Oper)
  | call (f : FuncId) (args : List Value)
  | old (j : SJob)
abbrev RecF := FJob → Tree Value → Nat → Tree AObj → Nat → Asm → Option (List Out)
abbrev RO := Option (List Out)
abbrev KOp := Program → (Value → Eff → RO) → (FuncId → List Value → RO) → (List (Value × Eff) → RO) → Tree Value → Tree AObj → Nat → RO
def putT (tt : Tree Value) (dst : Option Tmp) (v : Value) : Tree Value := Option.rec (motive := fun _ => Tree Value) tt (fun d => (slotOf d).set v tt) dst
def finE (K : Value → Eff → RO) (r : Option (Value × Eff)) : RO := Option.rec (motive := fun _ => RO) none (fun ve => Prod.rec (motive := fun _ => RO) K ve) r
def finV (K : Value → Eff → RO) (r : Option Value) : RO := Option.rec (motive := fun _ => RO) none (fun v => K v .none) r
def obind {α β : Type} (r : Option α) (k : α → Option β) : Option β := Option.rec (motive := fun _ => Option β) none k r
theorem obind_eq {α β : Type} (r : Option α) (k : α → Option β) : obind r k = r.bind k := by cases r <;> rfl
def kMove (x : Operand) : KOp := fun _ K C X tt ht nx => finV K (evF tt x)
def kPick (c a b : Operand) : KOp := fun _ K C X tt ht nx =>
  finV K (obind (evF tt c) fun v => obind (asBool v) fun y => Bool.rec (motive := fun _ => Option Value) (evF tt b) (evF tt a) y)
def kAlloc (t : TypeId) : KOp := fun P K C X tt ht nx => finE K (aAlloc P nx t)
def kBox (t : TypeId) (x : Operand) : KOp := fun _ K C X tt ht nx =>
  finE K ((evF tt x).map fun v => (.pointer (some ⟨nx, 0, none⟩), .new (.cells v.cells.toList 0 none false (some t))))
def kBuild (t : TypeId) (parts : Array (Nat × Operand)) : KOp := fun P K C X tt ht nx =>
  finV K (obind (evParts (evF tt) parts.toList) fun q => buildF P t q)
def kBuildSlice (t : TypeId) (len : Nat) (parts : Array (Nat × Operand)) : KOp := fun P K C X tt ht nx =>
  finE K (obind (evParts (evF tt) parts.toList) fun q => buildSliceF P nx t len q)
def kUpdate (t : TypeId) (m k x : Operand) : KOp := fun P K C X tt ht nx =>
  finE K (obind (evF tt m) fun a => obind (evF tt k) fun b => obind (evF tt x) fun c => (updateF P ht t a b c).map (undef, ·))
def kLoad (t : TypeId) (a : Operand) : KOp := fun P K C X tt ht nx => finV K (obind (evF tt a) fun v => loadF P t ht v)
def kStore (t : TypeId) (a x : Operand) : KOp := fun P K C X tt ht nx =>
  finE K (obind (evF tt a) fun v => obind (evF tt x) fun u => Option.rec (motive := fun _ => Option (Value × Eff)) none (fun e => some (undef, e)) (storeF P t ht v u))
def kNone : KOp := fun _ _ _ _ _ _ _ => none
def kNil (x : Operand) : KOp := fun _ K C X tt ht nx =>
  finE K (match evF tt x with
    | some (.pointer (some a)) => some (.pointer (some a), .none)
    | some (.func (.func f) a b) => some (.func (.func f) a b, .none)
    | _ => none)
def kBin (op : BinOp) (t : TypeId) (x y : Operand) : KOp := fun P K C X tt ht nx =>
  finV K (obind (evF tt x) fun a => obind (evF tt y) fun b => binF P ht op t x y a b)
def kUn (op : UnOp) (x : Operand) : KOp := fun _ K C X tt ht nx => finV K (obind (evF tt x) fun v => aUn op v)
def kConv (src d : TypeId) (x : Operand) : KOp := fun P K C X tt ht nx => finE K (obind (evF tt x) fun v => cvF P nx ht src d v)
def kFunc (fn : Fn) (first captured : Array Operand) : KOp := fun _ K C X tt ht nx =>
  finV K (obind (evAll (evF tt) first.toList) fun a => (evAll (evF tt) captured.toList).map fun b => .func fn a.toArray b.toArray)
def kMakeMap (t : TypeId) (r : Option Operand) : KOp := fun P K C X tt ht nx => finE K (obind (evOpt (evF tt) r) fun a => aMakeMap P nx t a)
def kMakeSlice (t : TypeId) (a c : Operand) : KOp := fun P K C X tt ht nx =>
  finE K (obind (evF tt a) fun a => obind (evF tt c) fun b => aMakeSlice P nx t a b)
def kSlice (t : TypeId) (x : Operand) (lo hi mx : Option Operand) : KOp := fun P K C X tt ht nx =>
  finV K (obind (evF tt x) fun v => obind (evOpt (evF tt) lo) fun a => obind (evOpt (evF tt) hi) fun b => obind (evOpt (evF tt) mx) fun c => aSlice P ht.get t v a b c)
def kFieldAddr (t : TypeId) (x : Operand) (f : Nat) : KOp := fun P K C X tt ht nx => finV K (obind (evF tt x) fun v => fadF P t v f)
def kField (t : TypeId) (x : Operand) (f : Nat) : KOp := fun P K C X tt ht nx => finV K (obind (evF tt x) fun v => fldF P t v f)
def kIndexAddr (t : TypeId) (x i : Operand) : KOp := fun P K C X tt ht nx => finV K (obind (evF tt x) fun v => obind (evF tt i) fun j => idxF P t v j)
def kIndex (t : TypeId) (x i : Operand) : KOp := fun P K C X tt ht nx => finV K (obind (evF tt x) fun v => obind (evF tt i) fun j => aIndex P t v j)
def kLookup (t : TypeId) (x i : Operand) (ok : Bool) : KOp := fun P K C X tt ht nx => finV K (obind (evF tt x) fun v => obind (evF tt i) fun j => lookupF P ht t v j ok)
def kMapEntry (t : TypeId) (m k : Operand) : KOp := fun P K C X tt ht nx => finE K (obind (evF tt m) fun a => obind (evF tt k) fun b => mapEntryF P ht t a b)
def kEntryStore (m t x : Operand) : KOp := fun _ K C X tt ht nx =>
  finE K (obind (evF tt m) fun a => obind (evF tt t) fun b => obind (evF tt x) fun c => (aEntryStore ht.get a b c).map (undef, ·))
def kRange (t : TypeId) (x : Operand) : KOp := fun P K C X tt ht nx => finE K (obind (evF tt x) fun v => aRange P ht.get nx t v)
def kNext (it : Operand) (str : Bool) : KOp := fun _ K C X tt ht nx =>
  Bool.rec (motive := fun _ => RO)
    (Option.rec (motive := fun _ => RO) none (fun it => Option.rec (motive := fun _ => RO) none X (aNexts ht.get it)) (evF tt it))
    (finE K (obind (evF tt it) fun v => aNext ht.get v true)) str
def kEntry (it : Operand) : KOp := fun _ K C X tt ht nx => finV K (obind (evF tt it) fun v => aEntry ht.get v)
def kExtract (x : Operand) (i : Nat) : KOp := fun _ K C X tt ht nx => finV K (obind (evF tt x) fun v => extF v i)
def then1 (r : Option (List Out)) (k : Out → Option (List Out)) : Option (List Out) :=
  Option.rec (motive := fun _ => Option (List Out)) none
    (fun l => List.rec (motive := fun _ => Option (List Out)) none (fun o l' _ => List.rec (motive := fun _ => Option (List Out)) (k o) (fun _ _ _ => bindS k l) l') l) r
theorem then1_eq (r : Option (List Out)) (k : Out → Option (List Out)) : then1 r k = thenS r k := by
  cases r with
  | none => rfl
  | some l =>
    cases l with
    | nil => rfl
    | cons o l => cases l <;> rfl
def onOut (o : Out) (k : AExit → Value → Tree Value → Nat → Tree AObj → Nat → Asm → Option (List Out)) : Option (List Out) :=
  Out.rec (motive := fun _ => Option (List Out)) (fun x v s _ => CSt.rec (motive := fun _ => Option (List Out)) (fun tt n ht nx asm => k x v tt n ht nx asm) s) o
def evAllF (tt : Tree Value) (l : List Operand) : Option (List Value) :=
  List.rec (motive := fun _ => Tree Value → Option (List Value)) (fun _ => some [])
    (fun x _ ih tt => Option.rec (motive := fun _ => (Tree Value → Option (List Value)) → Tree Value → Option (List Value)) (fun _ _ => none) (fun v k tt => consO v (k tt)) (evF tt x) ih tt) l tt
def kCallV (x : Operand) (args : Array Operand) : KOp := fun P K C X tt ht nx =>
  Option.rec (motive := fun _ => Option (List Out)) none
    (fun v => Option.rec (motive := fun _ => Option (List Out))
      (Option.rec (motive := fun _ => Option (List Out)) none (fun l => Option.rec (motive := fun _ => Option (List Out)) none (fun vs => C (Nat.add YB l) vs) (evAllF tt args.toList)) (asYl v))
      (fun y => Option.rec (motive := fun _ => Option (List Out)) none
        (fun f => Option.rec (motive := fun _ => Option (List Out)) none (fun vs => Bool.rec (motive := fun _ => Option (List Out)) none (C f ((y.2.1 ++ vs) ++ y.2.2)) (Nat.blt f XB)) (evAllF tt args.toList)) (asFid y.1)) (asFn v)) (evF tt x)
def kCallO (b : Builtin) (args : Array Operand) (ts : Array TypeId) : KOp := fun P K C X tt ht nx =>
  finE K (obind (evAllF tt args.toList) fun y => aBuiltin P ht.get nx b ts y)
def kCallA (args : Array Operand) (ts : Array TypeId) : KOp := fun P K C X tt ht nx =>
  finE K (obind (evAllF tt args.toList) fun y => List.rec (motive := fun _ => Option (Value × Eff)) none (fun s r _ => List.rec (motive := fun _ => Option (Value × Eff)) none (fun x r' _ => List.rec (motive := fun _ => Option (Value × Eff)) (appendF P ht nx ts s x) (fun _ _ _ => none) r') r) y)
def kCallL (args : Array Operand) (ts : Array TypeId) : KOp := fun P K C X tt ht nx =>
  finV K (obind (evAllF tt args.toList) fun y => lenF P ht ts y)
def kCallB (b : Builtin) : Array Operand → Array TypeId → KOp :=
  Builtin.rec (motive := fun _ => Array Operand → Array TypeId → KOp) kCallA (kCallO .cap) (kCallO .clear) (kCallO .close) (kCallO .complex) (kCallO .copy) (kCallO .delete) (kCallO .imag) kCallL (kCallO .make) (kCallO .max) (kCallO .min) (kCallO .new) (kCallO .panic) (kCallO .print) (kCallO .println) (kCallO .real) (kCallO .recover)
    (kCallO .unsafeAdd) (kCallO .unsafeSlice) (kCallO .unsafeSliceData) (kCallO .unsafeString) (kCallO .unsafeStringData) (kCallO .unsafeSizeof) (kCallO .unsafeAlignof) (kCallO .unsafeOffsetof) b
def kCall (c : Call) : KOp :=
  Callee.rec (motive := fun _ => Array Operand → Array TypeId → KOp) (fun x args _ => kCallV x args) (fun _ _ _ _ => kNone) (fun b args ts => kCallB b args ts) c.callee c.args c.argTypes
def opK (op : Op) : KOp :=
  Op.rec (motive := fun _ => KOp) kMove kMove kPick kAlloc kBox kBuild kBuildSlice kUpdate kLoad kStore (fun _ => kNone) (fun _ => kNone) kNil (fun op t x y _ => kBin op t x y) (fun op _ x => kUn op x) kConv
    (fun _ _ => kNone) (fun _ _ => kNone) kFunc kMakeMap (fun _ _ => kNone) kMakeSlice kSlice kFieldAddr kField kIndexAddr kIndex kLookup kUpdate kMapEntry (fun _ => kEntryStore) kRange kNext kEntry
    (fun _ _ _ _ => kNone) kExtract kCall (fun _ => kNone) (fun _ => kNone) (fun _ => kNone) (fun _ _ => kNone) (fun _ _ _ => kNone) (fun _ _ => kNone) op
def wantF (ops : Array Oper) (tt : Tree Value) (g : Option (Nat × Bool)) : Bool :=
  Option.rec (motive := fun _ => Array Oper → Tree Value → Bool) (fun _ _ => true)
    (fun q ops tt => Option.rec (motive := fun _ => Bool) false (fun d => Option.rec (motive := fun _ => Bool) false (fun b => Bool.rec (motive := fun _ => Bool) (notB b) b q.2) (asBool (tmF tt d)))
      ((ops[q.1]?).bind (·.dst))) g ops tt
abbrev KOps := Program → List Nat → RecF → Nat → Array Oper → Tree Value → Nat → Tree AObj → Nat → Asm → RO
def effK (rc : RecF) (q : Nat) (ops : Array Oper) (l : List Oper) (tt : Tree Value) (n : Nat) (ht : Tree AObj) (nx : Nat) (asm : Asm) (e : Eff) : RO :=
  Eff.rec (motive := fun _ => RO) (rc (.ops q ops l) tt n ht nx asm)
      (fun o => rc (.ops q ops l) tt n ((slotOf nx).set o ht) (Nat.add nx 1) asm)
      (fun id o => rc (.ops q ops l) tt n ((slotOf id).set o ht) nx asm)
      (fun id o => rc (.ops q ops l) tt n ((slotOf id).set o ht) (Nat.add nx 1) asm) e
def isNew (e : Eff) : Bool := Eff.rec (motive := fun _ => Bool) false (fun _ => true) (fun _ _ => true) (fun _ _ => true) e
def only1 (r : RO) (k : Out → RO) : RO :=
  Option.rec (motive := fun _ => RO) none (fun l => List.rec (motive := fun _ => RO) none (fun o l' _ => List.rec (motive := fun _ => RO) (k o) (fun _ _ _ => none) l') l) r
def addTr (d : DTr) (o : Out) : RO := Out.rec (motive := fun _ => RO) (fun x v s tr => some [⟨x, v, s, d :: tr⟩]) o
def mayTr (q : Nat) (r : RO) (d : DTr) : RO := Nat.rec (motive := fun _ => RO) r (fun q _ => Nat.rec (motive := fun _ => RO) r (fun _ _ => only1 r (addTr d)) q) q
def callK (xs : List Nat) (rc : RecF) (q : Nat) (ops : Array Oper) (l : List Oper) (dst : Option Tmp) (tt : Tree Value) (n : Nat) (ht : Tree AObj) (nx : Nat) (asm : Asm) (f : FuncId) (args : List Value) : RO :=
  Bool.rec (motive := fun _ => RO)
    (Nat.rec (motive := fun _ => RO)
      (Bool.rec (motive := fun _ => RO) (then1 (rc (.call f args) tt n ht nx asm) fun r => onOut r fun _ v _ _ ht' nx' asm' => rc (.ops q ops l) (putT tt dst v) n ht' nx' asm')
        (Option.rec (motive := fun _ => RO) none (fun x => rc (.ops q ops l) (putT tt dst x) n ht nx asm) (idxV args)) (xs.contains (Nat.add XB f)))
      (fun _ _ => only1 (rc (.call f args) tt n ht nx asm) fun r => onOut r fun _ v _ _ ht' nx' asm' => mayTr q (rc (.ops q ops l) (putT tt dst v) n ht' nx' asm') ⟨⟨tt, n, ht, nx, asm⟩, v, true⟩) q)
    (Nat.rec (motive := fun _ => RO) (match args with
      | [x] => rc (.ops q ops l) (putT tt dst x) n ht nx asm
      | _ => none) (fun _ _ => none) q) (xs.contains f)
def nextsK (rc : RecF) (q : Nat) (ops : Array Oper) (l : List Oper) (dst : Option Tmp) (tt : Tree Value) (n : Nat) (ht : Tree AObj) (nx : Nat) (asm : Asm) (rs : List (Value × Eff)) : RO :=
  Nat.rec (motive := fun _ => RO) (bindS (fun r => effK rc q ops l (putT tt dst r.1) n ht nx asm r.2) rs) (fun _ _ => none) q
def onOper (dst : Option Tmp) (op : Op) (guard : Option (Nat × Bool)) (l : List Oper) : KOps := fun P xs rc q ops tt n ht nx asm =>
  Bool.rec (motive := fun _ => RO) none
      (Bool.rec (motive := fun _ => RO) (mayTr q (rc (.ops q ops l) (putT tt dst undef) n ht nx asm) ⟨⟨tt, n, ht, nx, asm⟩, undef, false⟩)
        (opK op P (fun v e => mayTr q (effK rc q ops l (putT tt dst v) n ht nx asm e) ⟨⟨tt, n, ht, nx, asm⟩, v, isNew e⟩) (callK xs rc q ops l dst tt n ht nx asm) (nextsK rc q ops l dst tt n ht nx asm) tt ht nx) (wantF ops tt guard)) (dstF n dst)
def opsF (l : List Oper) : KOps :=
  List.rec (motive := fun _ => KOps) (fun _ _ _ _ _ tt n ht nx asm => some [⟨.normal, undef, ⟨tt, n, ht, nx, asm⟩, []⟩])
    (fun o l _ => Oper.rec (motive := fun _ => List Oper → KOps) (fun dst op _ _ _ guard l => onOper dst op guard l) o l) l
def withS (rc : RecF) (j : FJob) (s : CSt) : Option (List Out) := CSt.rec (motive := fun _ => RecF → FJob → Option (List Out)) (fun tt n ht nx asm rc j => rc j tt n ht nx asm) s rc j
def goOn (rc : RecF) (j : FJob) (o : Out) : Option (List Out) :=
  Out.rec (motive := fun _ => RecF → FJob → Option (List Out)) (fun x v s tr rc j =>
    AExit.rec (motive := fun _ => RecF → FJob → Value → CSt → List DTr → Option (List Out)) (fun rc j _ s _ => withS rc j s) (fun id _ _ v s tr => some [⟨.exit id, v, s, tr⟩]) (fun id _ _ v s tr => some [⟨.goto id, v, s, tr⟩]) (fun _ _ v s tr => some [⟨.ret, v, s, tr⟩]) x rc j v s tr) o rc j
def outOf (id : Nat) (o : Out) : Option (List Out) :=
  Out.rec (motive := fun _ => Nat → Option (List Out)) (fun x v s tr id =>
  AExit.rec (motive := fun _ => Nat → Value → CSt → List DTr → Option (List Out)) (fun _ v s tr => some [⟨.normal, v, s, tr⟩])
    (fun id' id v s tr => Bool.rec (motive := fun _ => Option (List Out)) (some [⟨.exit id', v, s, tr⟩]) (some [⟨.normal, v, s, tr⟩]) (Nat.beq id' id)) (fun l _ v s tr => some [⟨.goto l, v, s, tr⟩]) (fun _ v s tr => some [⟨.ret, v, s, tr⟩]) x id v s tr) o id
abbrev KCode := Program → (Nat → Bool) → RecF → Tree Value → Nat → Tree AObj → Nat → Asm → Option (List Out)
def cDone : KCode := fun _ _ _ tt n ht nx asm => some [⟨.normal, undef, ⟨tt, n, ht, nx, asm⟩, []⟩]
def cFail : KCode := fun _ _ _ _ _ _ _ _ => none
def cExit (id : Nat) : KCode := fun _ _ _ tt n ht nx asm => some [⟨.exit id, undef, ⟨tt, n, ht, nx, asm⟩, []⟩]
def cGoto (id : Nat) : KCode := fun _ _ _ tt n ht nx asm => some [⟨.goto id, undef, ⟨tt, n, ht, nx, asm⟩, []⟩]
def cRet : KCode := fun _ _ _ tt n ht nx asm => some [⟨.ret, undef, ⟨tt, n, ht, nx, asm⟩, []⟩]
def cSeq (a b : Code) : KCode := fun _ _ rc tt n ht nx asm => then1 (rc (.code a) tt n ht nx asm) (goOn rc (.code b))
def cCond (c : Operand) (a b : Code) : KCode := fun _ _ rc tt n ht nx asm =>
  Option.rec (motive := fun _ => Option (List Out)) none (fun v => Option.rec (motive := fun _ => Option (List Out)) none (fun q => Bool.rec (motive := fun _ => Option (List Out)) (rc (.code b) tt n ht nx asm) (rc (.code a) tt n ht nx asm) q) (asBool v)) (evF tt c)
def cBlock (id : Nat) (c : Code) : KCode := fun _ _ rc tt n ht nx asm => then1 (rc (.code c) tt n ht nx asm) (outOf id)
def cLoop (c : Code) : KCode := fun _ _ rc tt n ht nx asm => rc (.loop c) tt n ht nx asm
def cScope (c : Code) : KCode := fun _ _ rc tt n ht nx asm => rc (.scope c c) tt n ht nx asm
def dummy : CSt := ⟨.leaf, 0, .leaf, 0, []⟩
def tellF (P : Program) (op : Op) (tt : Tree Value) (ht : Tree AObj) (nx : Nat) : RO :=
  opK op P (fun v e => Bool.rec (motive := fun _ => RO) (some [⟨.normal, v, dummy, []⟩]) none (isNew e)) (fun _ _ => none) (fun _ => none) tt ht nx
def sameF (r : RO) (v : Value) : Bool :=
  Option.rec (motive := fun _ => Bool) false (fun l => List.rec (motive := fun _ => Bool) false (fun o _ _ => Out.rec (motive := fun _ => Bool) (fun _ u _ _ => veq u v) o) l) r
def anyN (f : Nat → Bool) (l : List Nat) : Bool := List.rec (motive := fun _ => Bool) false (fun x _ ih => Bool.rec (motive := fun _ => Bool) ih true (f x)) l
def allQ (f : Nat × CSt → Bool) (l : List (Nat × CSt)) : Bool := List.rec (motive := fun _ => Bool) true (fun x _ ih => Bool.rec (motive := fun _ => Bool) false ih (f x)) l
def depAt (ops : Array Oper) (e i : Nat) : Bool := match ops[e]? with | some oe => depB oe i | none => false
def readF1 (P : Program) (ops : Array Oper) (es : List Nat) (i : Nat) (o : Oper) (tt : Tree Value) (v : Value) (q : Nat × CSt) : Bool :=
  Prod.rec (motive := fun _ => Bool) (fun p sp => CSt.rec (motive := fun _ => Bool) (fun _ _ ht nx _ =>
    Bool.rec (motive := fun _ => Bool) (Bool.rec (motive := fun _ => Bool) (Bool.rec (motive := fun _ => Bool) (anyN (fun e => Bool.rec (motive := fun _ => Bool) false (waitsB ops 6 e i) (Nat.ble (Nat.succ e) p)) es) true (sameF (tellF P o.op tt ht nx) v)) true (anyN (fun e => Bool.rec (motive := fun _ => Bool) false (depAt ops e i) (Nat.ble (Nat.succ e) p)) es))
      true (anyN (fun j => Bool.rec (motive := fun _ => Bool) false (depB o j) (Nat.ble p j)) es)) sp) q
def heldF (ops : Array Oper) (o : Oper) (i : Nat) (ss : List Nat) : Bool := ss.all fun e => depB o e || depAt ops e i
abbrev KRd := Program → Array Oper → List (Nat × CSt) → List Nat → List Nat → List DTr → Nat → Bool
def readOne (o : Oper) (k : KRd) (d : DTr) (tr : List DTr) : Program → Array Oper → List (Nat × CSt) → List Nat → List Nat → Nat → Bool := fun P ops pts es ss i =>
  DTr.rec (motive := fun _ => Bool) (fun s v e =>
    Bool.rec (motive := fun _ => Bool)
      (Bool.rec (motive := fun _ => Bool)
        (CSt.rec (motive := fun _ => Bool) (fun tt _ _ _ _ =>
          Bool.rec (motive := fun _ => Bool) (k P ops pts es ss tr (Nat.succ i))
            (Bool.rec (motive := fun _ => Bool) false (Bool.rec (motive := fun _ => Bool) false (k P ops pts es ss tr (Nat.succ i)) (heldF ops o i ss)) (allQ (readF1 P ops es i o tt v) pts)) (wantF ops tt o.guard)) s)
        (k P ops pts es ss tr (Nat.succ i)) (Nat.beq (kindOp o.op) 0))
      (k P ops pts es ss tr (Nat.succ i)) e) d
def readsFo (l : List Oper) : KRd :=
  List.rec (motive := fun _ => KRd) (fun _ _ _ _ _ tr _ => List.rec (motive := fun _ => Bool) true (fun _ _ _ => false) tr)
    (fun o _ ih P ops pts es ss tr i => List.rec (motive := fun _ => Bool) false (fun d tr _ => readOne o ih d tr P ops pts es ss i) tr) l
def dynF (P : Program) (ops : Array Oper) (tr : List DTr) (s' : CSt) : Bool :=
  Option.rec (motive := fun _ => Bool) false (fun r => Prod.rec (motive := fun _ => Bool) (fun _ ss => readsFo ops.toList P ops ((0, headS tr s') :: ptsG s' tr 0) (esG tr 0) ss tr 0) r) (actsGo ops ops.toList tr 0 none [] [] [] [])
def oldR (rc : RecF) : RecS := fun j s => withS rc (.old j) s
def endR (o : Out) : RO := Out.rec (motive := fun _ => RO) (fun _ _ s _ => some [⟨.normal, undef, s, []⟩]) o
def regX (id : Nat) (ops : Array Oper) : KCode := fun P fl rc tt n ht nx asm => codeS P fl (oldR rc) (.region id ops true) ⟨tt, n, ht, nx, asm⟩
def regT (id : Nat) (ops : Array Oper) : KCode := fun P fl rc tt n ht nx asm =>
  only1 (rc (.ops 2 ops ops.toList) tt n ht (Nat.add nx 1) asm) fun o =>
    Out.rec (motive := fun _ => RO) (fun _ _ s tr => Bool.rec (motive := fun _ => RO) (regX id ops P fl rc tt n ht nx asm) (some [⟨.normal, undef, s, []⟩]) (dynF P ops tr s)) o
def regD (id : Nat) (ops : Array Oper) : KCode :=
  Bool.rec (motive := fun _ => Nat → Array Oper → KCode)
      (fun id ops => Bool.rec (motive := fun _ => Nat → Array Oper → KCode) regX regT (statF ops) id ops)
      (fun _ ops _ _ rc tt n ht nx asm => only1 (rc (.ops 1 ops ops.toList) tt n ht nx asm) endR) (regOk ops) id ops
def cRegion (id : Nat) (ops : Array Oper) (draw : Bool) : KCode :=
  Bool.rec (motive := fun _ => Nat → Array Oper → KCode) (fun _ ops _ _ rc tt n ht nx asm => rc (.ops 0 ops ops.toList) tt n ht nx asm)
    (fun id ops P fl => Bool.rec (motive := fun _ => Nat → Array Oper → KCode) regD regX (fl id) id ops P fl) draw id ops
def cRange (g : Operand) (ps : Array Tmp) (asg body : Code) : KCode := fun P fl rc tt n ht nx asm => rangeS (oldR rc) g ps asg body ⟨tt, n, ht, nx, asm⟩
def codeF (c : Code) : KCode :=
  Code.rec (motive := fun _ => KCode) cDone cRegion (fun a b _ _ => cSeq a b) (fun c a b _ _ => cCond c a b) (fun id c _ => cBlock id c) (fun c _ => cLoop c) (fun g ps asg body _ _ => cRange g ps asg body) cExit (fun c _ => cScope c) (fun _ => cDone) cGoto cRet (fun _ => cFail) c
def argF (l : List Value) : Nat → Tree Value → Tree Value :=
  List.rec (motive := fun _ => Nat → Tree Value → Tree Value) (fun _ t => t) (fun v _ ih i t => ih (Nat.succ i) ((slotOf i).set v t)) l
def fnK (P : Program) (f : FuncId) : Option (Code × Nat × Array ResultVar) :=
  match P.funcs[f]? with
  | some fn => fn.body.map fun c => (c, fn.ntmps, fn.results)
  | none => none
def resV (P : Program) (tt : Tree Value) (ht : Tree AObj) (r : ResultVar) : Option Value :=
  ResultVar.rec (motive := fun _ => Option Value) (fun t => some (tmF tt t)) (fun a t => loadF P t ht (tmF tt a)) r
def resVs (P : Program) (tt : Tree Value) (ht : Tree AObj) (l : List ResultVar) : Option (List Value) :=
  List.rec (motive := fun _ => Option (List Value)) (some []) (fun r _ ih => Option.rec (motive := fun _ => Option (List Value)) none (fun v => consO v ih) (resV P tt ht r)) l
def resAll (P : Program) (tt : Tree Value) (ht : Tree AObj) (l : List ResultVar) : Option Value :=
  Option.rec (motive := fun _ => Option Value) none (fun vs => List.rec (motive := fun _ => Option Value) (some (.tuple ⟨[]⟩)) (fun v r _ => List.rec (motive := fun _ => Option Value) (some v) (fun u r _ => some (.tuple ⟨v :: u :: r⟩)) r) vs) (resVs P tt ht l)
def resF (P : Program) (rs : Array ResultVar) (o : Out) : Option Out :=
  Out.rec (motive := fun _ => Option Out) (fun x _ s _ => CSt.rec (motive := fun _ => Option Out) (fun tt n ht nx asm =>
    AExit.rec (motive := fun _ => Option Value → CSt → Option Out) (fun r s => Option.rec (motive := fun _ => Option Out) none (fun v => some ⟨.ret, v, s, []⟩) r) (fun _ _ _ => none) (fun _ _ _ => none)
      (fun r s => Option.rec (motive := fun _ => Option Out) none (fun v => some ⟨.ret, v, s, []⟩) r) x (resAll P tt ht rs.toList) ⟨tt, n, ht, nx, asm⟩) s) o
def endF (P : Program) (rs : Array ResultVar) (s : CSt) (l : List Out) : Option (List Out) :=
  List.rec (motive := fun _ => Option (List Out)) (match resL P rs l with | some l => (match mergeS s l with | some m => some m | none => some l) | none => none)
    (fun o l' _ => List.rec (motive := fun _ => Option (List Out)) (Option.rec (motive := fun _ => Option (List Out)) none (fun o' => some [o']) (resF P rs o))
      (fun _ _ _ => match resL P rs l with | some l => (match mergeS s l with | some m => some m | none => some l) | none => none) l') l
abbrev KJob := Program → List Nat → (Nat → FuncId → List Value → Option Value) → RecF → Tree Value → Nat → Tree AObj → Nat → Asm → Option (List Out)
def callF (f : FuncId) (args : List Value) : KJob := fun P _ ov rc tt n ht nx asm =>
  Option.rec (motive := fun _ => Option (List Out))
    (Bool.rec (motive := fun _ => Option (List Out))
    (Option.rec (motive := fun _ => Option (List Out)) none (fun y => Prod.rec (motive := fun _ => Option (List Out)) (fun c y => Prod.rec (motive := fun _ => Option (List Out)) (fun nt rs =>
      Option.rec (motive := fun _ => Option (List Out)) none (fun l => endF P rs ⟨tt, n, ht, nx, asm⟩ l) (rc (.code c) (argF args 0 .leaf) (Nat.add (lenV args) (Nat.sub nt (lenV args))) ht nx asm)) y) y) (fnK P f))
    (roundS (oldR rc) (Nat.sub f YB) args ⟨tt, n, ht, nx, asm⟩) (Nat.ble YB f))
    (fun v => some [⟨.ret, v, ⟨tt, n, ht, nx, (f, args, v) :: asm⟩, []⟩]) (ov asm.length f args)
def oldF (job : SJob) : KJob := fun P _ _ rc tt n ht nx asm =>
  match job with
  | .code c => rc (.code c) tt n ht nx asm
  | .loop c => rc (.loop c) tt n ht nx asm
  | .scope b c => rc (.scope b c) tt n ht nx asm
  | .ops ops l => rc (.ops 0 ops l) tt n ht nx asm
  | .dops ops l => rc (.ops 2 ops l) tt n ht nx asm
  | .xbr ops es r => xbrS P (oldR rc) ops es r ⟨tt, n, ht, nx, asm⟩
  | .call f args => rc (.call f args) tt n ht nx asm
def jobF (job : FJob) : KJob :=
  FJob.rec (motive := fun _ => KJob) (fun c P _ ov rc => codeF c P (flagOf ov) rc) (fun c _ _ _ rc tt n ht nx asm => then1 (rc (.code c) tt n ht nx asm) (goOn rc (.loop c)))
    (fun b c _ _ _ rc tt n ht nx asm => scopeS (oldR rc) b c ⟨tt, n, ht, nx, asm⟩) (fun q ops l P xs _ rc => opsF l P xs rc q ops) callF oldF job
def execF (P : Program) (xs : List Nat) (ov : Nat → FuncId → List Value → Option Value) (n : Nat) : RecF :=
  Nat.rec (motive := fun _ => RecF) (fun _ _ _ _ _ _ => none) (fun _ rc job => jobF job P xs ov rc) n
end
end Go.Am
