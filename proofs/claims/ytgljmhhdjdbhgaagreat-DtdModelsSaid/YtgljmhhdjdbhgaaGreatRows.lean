/-
  No cell of these rows narrows 'for every input' (looked for: loops, veiled, ifaces, maps, wideKeys, modest, calm, conditions, laid).
  DERIVED. THE GIVEN ROWS OF THIS SEAT. 7 by the template 'for every input the law returns true; each argument reads behind the call as it read before'; 0 by the template 'total and deterministic' (their statements: YtgljmhhdjdbhgaaGreatTotals.lean).
  GIVEN WITH THE SEED: the statements are not yours to turn. If you find one false, say at which input.
  Laid BY PROGRAM, IN A SANDBOX (cutbox-rows.mjs): the forced cells as the released guide's own fill.sh prints them over the translation c88e0359382a76ab… (all of the seat's roots in one cut). By AI agents, Wed Nov 11 2026. No macro, syntax, notation, axiom, sorry.
-/
import Derived.Test.YtgljmhhdjdbhgaaGreatChecked
import GoSem.Claim
import GoSem.ClaimJoined
import GoSem.ClaimMapViews
import Derived.JoinedTies
import Derived.KernelRfl
namespace Go.Proofs.YtgljmhhdjdbhgaaGreat
/- THE CELL 'sum', in the pinned program and in every row, IS THE sha256 OF THE DUMP (.gsa) THAT YtgljmhhdjdbhgaaGreatProg.lean LOADS. Nothing in Lean hashes anything: it is a label: what it is worth is what the hold of that sum in a sandbox is worth. -/
noncomputable def Tryz.pinned : Pinned := { name := "ytgljmhhdjdbhgaagreat", sum := "c88e0359382a76ab0742d368fd65ce7fbcc5529d0305b498536dc4e6f4e7112f", checked := Tryz.checked }
namespace Rows
def none {H : Type} : Left H := { results := [], args := [] }

/-- 'canopylaw9.DtdAll': WHATEVER THE INPUT: true; the input reads as it did. -/
def dtdAllSpec : ChangeSpec := { name := "dtdAll", fn := fun _ => fun
  | [d1, d2, d3] => { results := [.lit (.bool true)], args := [d1, d2, d3] }
  | _ => none }
def dtdAllRow : OpenClaim := { program := "ytgljmhhdjdbhgaagreat", sum := "c88e0359382a76ab0742d368fd65ce7fbcc5529d0305b498536dc4e6f4e7112f", func := "canopy/canopylaw9.DtdAll", spec := "dtdAll", unfollowed := true, recurses := true, plainKeys := false, apart := false }
def DtdAllSaid : Prop := dtdAllRow.holds Tryz.pinned (OpenSpec.ofChange dtdAllSpec)

/-- ITS FALSE NEIGHBOUR: 'it returns false'. Refute it at one input. -/
def dtdAllWrong : ChangeSpec := { name := "dtdAll", fn := fun _ => fun
  | [d1, d2, d3] => { results := [.lit (.bool false)], args := [d1, d2, d3] }
  | _ => none }
def DtdAllWrongFalsely : Prop := dtdAllRow.holds Tryz.pinned (OpenSpec.ofChange dtdAllWrong)

/-- 'canopylaw9.DtdBounds': WHATEVER THE INPUT: true; the input reads as it did. -/
def dtdBoundsSpec : ChangeSpec := { name := "dtdBounds", fn := fun _ => fun
  | [d1, d2] => { results := [.lit (.bool true)], args := [d1, d2] }
  | _ => none }
def dtdBoundsRow : OpenClaim := { program := "ytgljmhhdjdbhgaagreat", sum := "c88e0359382a76ab0742d368fd65ce7fbcc5529d0305b498536dc4e6f4e7112f", func := "canopy/canopylaw9.DtdBounds", spec := "dtdBounds", unfollowed := true, recurses := true, plainKeys := false, apart := false }
def DtdBoundsSaid : Prop := dtdBoundsRow.holds Tryz.pinned (OpenSpec.ofChange dtdBoundsSpec)

/-- ITS FALSE NEIGHBOUR: 'it returns false'. Refute it at one input. -/
def dtdBoundsWrong : ChangeSpec := { name := "dtdBounds", fn := fun _ => fun
  | [d1, d2] => { results := [.lit (.bool false)], args := [d1, d2] }
  | _ => none }
def DtdBoundsWrongFalsely : Prop := dtdBoundsRow.holds Tryz.pinned (OpenSpec.ofChange dtdBoundsWrong)

/-- 'canopylaw9.DtdWhole': WHATEVER THE INPUT: true; the input reads as it did. -/
def dtdWholeSpec : ChangeSpec := { name := "dtdWhole", fn := fun _ => fun
  | [d1, d2, d3, d4] => { results := [.lit (.bool true)], args := [d1, d2, d3, d4] }
  | _ => none }
def dtdWholeRow : OpenClaim := { program := "ytgljmhhdjdbhgaagreat", sum := "c88e0359382a76ab0742d368fd65ce7fbcc5529d0305b498536dc4e6f4e7112f", func := "canopy/canopylaw9.DtdWhole", spec := "dtdWhole", unfollowed := true, recurses := true, plainKeys := false, apart := false }
def DtdWholeSaid : Prop := dtdWholeRow.holds Tryz.pinned (OpenSpec.ofChange dtdWholeSpec)

/-- ITS FALSE NEIGHBOUR: 'it returns false'. Refute it at one input. -/
def dtdWholeWrong : ChangeSpec := { name := "dtdWhole", fn := fun _ => fun
  | [d1, d2, d3, d4] => { results := [.lit (.bool false)], args := [d1, d2, d3, d4] }
  | _ => none }
def DtdWholeWrongFalsely : Prop := dtdWholeRow.holds Tryz.pinned (OpenSpec.ofChange dtdWholeWrong)

/-- 'canopylaw9.DtdKnown': WHATEVER THE INPUT: true; the input reads as it did. -/
def dtdKnownSpec : ChangeSpec := { name := "dtdKnown", fn := fun _ => fun
  | [d] => { results := [.lit (.bool true)], args := [d] }
  | _ => none }
def dtdKnownRow : OpenClaim := { program := "ytgljmhhdjdbhgaagreat", sum := "c88e0359382a76ab0742d368fd65ce7fbcc5529d0305b498536dc4e6f4e7112f", func := "canopy/canopylaw9.DtdKnown", spec := "dtdKnown", unfollowed := true, recurses := true, plainKeys := false, apart := false }
def DtdKnownSaid : Prop := dtdKnownRow.holds Tryz.pinned (OpenSpec.ofChange dtdKnownSpec)

/-- ITS FALSE NEIGHBOUR: 'it returns false'. Refute it at one input. -/
def dtdKnownWrong : ChangeSpec := { name := "dtdKnown", fn := fun _ => fun
  | [d] => { results := [.lit (.bool false)], args := [d] }
  | _ => none }
def DtdKnownWrongFalsely : Prop := dtdKnownRow.holds Tryz.pinned (OpenSpec.ofChange dtdKnownWrong)

/-- 'canopylaw9.DtdModels': WHATEVER THE INPUT: true; the input reads as it did. -/
def dtdModelsSpec : ChangeSpec := { name := "dtdModels", fn := fun _ => fun
  | [d1, d2] => { results := [.lit (.bool true)], args := [d1, d2] }
  | _ => none }
def dtdModelsRow : OpenClaim := { program := "ytgljmhhdjdbhgaagreat", sum := "c88e0359382a76ab0742d368fd65ce7fbcc5529d0305b498536dc4e6f4e7112f", func := "canopy/canopylaw9.DtdModels", spec := "dtdModels", unfollowed := true, recurses := true, plainKeys := false, apart := false }
def DtdModelsSaid : Prop := dtdModelsRow.holds Tryz.pinned (OpenSpec.ofChange dtdModelsSpec)

/-- ITS FALSE NEIGHBOUR: 'it returns false'. Refute it at one input. -/
def dtdModelsWrong : ChangeSpec := { name := "dtdModels", fn := fun _ => fun
  | [d1, d2] => { results := [.lit (.bool false)], args := [d1, d2] }
  | _ => none }
def DtdModelsWrongFalsely : Prop := dtdModelsRow.holds Tryz.pinned (OpenSpec.ofChange dtdModelsWrong)

/-- 'canopylaw9.DtdNone': WHATEVER THE INPUT: true; the input reads as it did. -/
def dtdNoneSpec : ChangeSpec := { name := "dtdNone", fn := fun _ => fun
  | [d1, d2] => { results := [.lit (.bool true)], args := [d1, d2] }
  | _ => none }
def dtdNoneRow : OpenClaim := { program := "ytgljmhhdjdbhgaagreat", sum := "c88e0359382a76ab0742d368fd65ce7fbcc5529d0305b498536dc4e6f4e7112f", func := "canopy/canopylaw9.DtdNone", spec := "dtdNone", unfollowed := true, recurses := true, plainKeys := false, apart := false }
def DtdNoneSaid : Prop := dtdNoneRow.holds Tryz.pinned (OpenSpec.ofChange dtdNoneSpec)

/-- ITS FALSE NEIGHBOUR: 'it returns false'. Refute it at one input. -/
def dtdNoneWrong : ChangeSpec := { name := "dtdNone", fn := fun _ => fun
  | [d1, d2] => { results := [.lit (.bool false)], args := [d1, d2] }
  | _ => none }
def DtdNoneWrongFalsely : Prop := dtdNoneRow.holds Tryz.pinned (OpenSpec.ofChange dtdNoneWrong)

/-- 'canopylaw9.DtdOwn': WHATEVER THE INPUT: true; the input reads as it did. -/
def dtdOwnSpec : ChangeSpec := { name := "dtdOwn", fn := fun _ => fun
  | [d1, d2] => { results := [.lit (.bool true)], args := [d1, d2] }
  | _ => none }
def dtdOwnRow : OpenClaim := { program := "ytgljmhhdjdbhgaagreat", sum := "c88e0359382a76ab0742d368fd65ce7fbcc5529d0305b498536dc4e6f4e7112f", func := "canopy/canopylaw9.DtdOwn", spec := "dtdOwn", unfollowed := true, recurses := true, plainKeys := false, apart := false }
def DtdOwnSaid : Prop := dtdOwnRow.holds Tryz.pinned (OpenSpec.ofChange dtdOwnSpec)

/-- ITS FALSE NEIGHBOUR: 'it returns false'. Refute it at one input. -/
def dtdOwnWrong : ChangeSpec := { name := "dtdOwn", fn := fun _ => fun
  | [d1, d2] => { results := [.lit (.bool false)], args := [d1, d2] }
  | _ => none }
def DtdOwnWrongFalsely : Prop := dtdOwnRow.holds Tryz.pinned (OpenSpec.ofChange dtdOwnWrong)

/- THE SECOND FORM. 'bulk': how many values and letters a reading holds, each counted each time it is reached (what is shared counts as often as it is met; a slice's spare places count too). A statement '..UptoSaid' is the law's where the arguments, and the package variables that the reading takes, are together of bulk at most 1048576: NARROWER than '..Said'. Prove '..Said' where nothing that the law and all that it calls make is longer than what came in: it says more and counts as full. Else prove '..UptoSaid'. A law counts once. -/
mutual
def uptoBulk {H : Type} : DataW H → Nat
  | .lit (.string bytes) => bytes.length + 1
  | .lit _ => 1
  | .nil => 1
  | .ptr d => uptoBulk d + 1
  | .slice elems spare => uptoBulkAll elems + uptoBulkAll spare + 1
  | .agg parts => uptoBulkAll parts + 1
  | .iface _ d => uptoBulk d + 1
  | .map entries => uptoBulkEntries entries + 1
  | .held _ => 1
def uptoBulkAll {H : Type} : List (DataW H) → Nat
  | [] => 0
  | d :: r => uptoBulk d + uptoBulkAll r
def uptoBulkEntries {H : Type} : List (Lit × DataW H) → Nat
  | [] => 0
  | x :: r => uptoBulkEntry x + uptoBulkEntries r
def uptoBulkEntry {H : Type} : Lit × DataW H → Nat
  | (.string bytes, d) => bytes.length + uptoBulk d + 1
  | (_, d) => uptoBulk d + 1
 end
def uptoSmall : (H : Type) → List (DataW H) → Bool := fun _ ds => decide (uptoBulkAll ds ≤ 1048576)
def OpenSpec.upto (s : _root_.Go.ChangeSpec) : _root_.Go.OpenSpec := { _root_.Go.OpenSpec.ofChange s with cond := some uptoSmall }

/-- 'canopylaw9.DtdAll', WHERE WHAT IT READS IS OF BULK AT MOST 1048576: true; the input reads as it did. -/
def dtdAllUptoRow : OpenClaim := { program := "ytgljmhhdjdbhgaagreat", sum := "c88e0359382a76ab0742d368fd65ce7fbcc5529d0305b498536dc4e6f4e7112f", func := "canopy/canopylaw9.DtdAll", spec := "dtdAll", unfollowed := true, recurses := true, plainKeys := false, apart := false, narrowed := true }
def DtdAllUptoSaid : Prop := dtdAllUptoRow.holds Tryz.pinned (OpenSpec.upto dtdAllSpec)

/-- 'canopylaw9.DtdBounds', WHERE WHAT IT READS IS OF BULK AT MOST 1048576: true; the input reads as it did. -/
def dtdBoundsUptoRow : OpenClaim := { program := "ytgljmhhdjdbhgaagreat", sum := "c88e0359382a76ab0742d368fd65ce7fbcc5529d0305b498536dc4e6f4e7112f", func := "canopy/canopylaw9.DtdBounds", spec := "dtdBounds", unfollowed := true, recurses := true, plainKeys := false, apart := false, narrowed := true }
def DtdBoundsUptoSaid : Prop := dtdBoundsUptoRow.holds Tryz.pinned (OpenSpec.upto dtdBoundsSpec)

/-- 'canopylaw9.DtdWhole', WHERE WHAT IT READS IS OF BULK AT MOST 1048576: true; the input reads as it did. -/
def dtdWholeUptoRow : OpenClaim := { program := "ytgljmhhdjdbhgaagreat", sum := "c88e0359382a76ab0742d368fd65ce7fbcc5529d0305b498536dc4e6f4e7112f", func := "canopy/canopylaw9.DtdWhole", spec := "dtdWhole", unfollowed := true, recurses := true, plainKeys := false, apart := false, narrowed := true }
def DtdWholeUptoSaid : Prop := dtdWholeUptoRow.holds Tryz.pinned (OpenSpec.upto dtdWholeSpec)

/-- 'canopylaw9.DtdKnown', WHERE WHAT IT READS IS OF BULK AT MOST 1048576: true; the input reads as it did. -/
def dtdKnownUptoRow : OpenClaim := { program := "ytgljmhhdjdbhgaagreat", sum := "c88e0359382a76ab0742d368fd65ce7fbcc5529d0305b498536dc4e6f4e7112f", func := "canopy/canopylaw9.DtdKnown", spec := "dtdKnown", unfollowed := true, recurses := true, plainKeys := false, apart := false, narrowed := true }
def DtdKnownUptoSaid : Prop := dtdKnownUptoRow.holds Tryz.pinned (OpenSpec.upto dtdKnownSpec)

/-- 'canopylaw9.DtdModels', WHERE WHAT IT READS IS OF BULK AT MOST 1048576: true; the input reads as it did. -/
def dtdModelsUptoRow : OpenClaim := { program := "ytgljmhhdjdbhgaagreat", sum := "c88e0359382a76ab0742d368fd65ce7fbcc5529d0305b498536dc4e6f4e7112f", func := "canopy/canopylaw9.DtdModels", spec := "dtdModels", unfollowed := true, recurses := true, plainKeys := false, apart := false, narrowed := true }
def DtdModelsUptoSaid : Prop := dtdModelsUptoRow.holds Tryz.pinned (OpenSpec.upto dtdModelsSpec)

/-- 'canopylaw9.DtdNone', WHERE WHAT IT READS IS OF BULK AT MOST 1048576: true; the input reads as it did. -/
def dtdNoneUptoRow : OpenClaim := { program := "ytgljmhhdjdbhgaagreat", sum := "c88e0359382a76ab0742d368fd65ce7fbcc5529d0305b498536dc4e6f4e7112f", func := "canopy/canopylaw9.DtdNone", spec := "dtdNone", unfollowed := true, recurses := true, plainKeys := false, apart := false, narrowed := true }
def DtdNoneUptoSaid : Prop := dtdNoneUptoRow.holds Tryz.pinned (OpenSpec.upto dtdNoneSpec)

/-- 'canopylaw9.DtdOwn', WHERE WHAT IT READS IS OF BULK AT MOST 1048576: true; the input reads as it did. -/
def dtdOwnUptoRow : OpenClaim := { program := "ytgljmhhdjdbhgaagreat", sum := "c88e0359382a76ab0742d368fd65ce7fbcc5529d0305b498536dc4e6f4e7112f", func := "canopy/canopylaw9.DtdOwn", spec := "dtdOwn", unfollowed := true, recurses := true, plainKeys := false, apart := false, narrowed := true }
def DtdOwnUptoSaid : Prop := dtdOwnUptoRow.holds Tryz.pinned (OpenSpec.upto dtdOwnSpec)

end Rows
end Go.Proofs.YtgljmhhdjdbhgaaGreat
