import Derived.Test.YtmhikbgegdphnaaGreatQAmT
namespace Go.Am
set_option linter.unusedSimpArgs false
set_option linter.unusedVariables false
open Go.RowKit
section
variable {P : Program} {W0 : World} {ops : Array Oper} {H : Heap} {nx n : Nat}
def PStep (P : Program) (ops : Array Oper) (H : Heap) (nx n : Nat) (o : Oper) (tm : Nat → Value) (v : Value) : Prop :=
  (∀ d, o.dst = some d → d < n) ∧ ((wantsT ops tm o = false ∧ v = undef) ∨ (wantsT ops tm o = true ∧ aop P H nx (evR (opTs o) tm) o = some (v, .none)))
def OpsD (P : Program) (ops : Array Oper) (H : Heap) (nx n : Nat) : List Oper → (Nat → Value) → ((Nat → Value) → Prop) → Prop
  | [], tm, Q => Q tm
  | o :: l, tm, Q => ∃ v, PStep P ops H nx n o tm v ∧ OpsD P ops H nx n l (tmPut tm o.dst v) Q
variable {d : Tmp} {op : Op} {type : TypeId} {pos : String} {after : Array Edge} {l : List Oper} {tm : Nat → Value} {v : Value} {QQ : (Nat → Value) → Prop}
end
end Go.Am
