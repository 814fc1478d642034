/-
  NARROWER THAN 'FOR EVERY INPUT', by the rows' own cells (each row's printed sentence says how): CompAll: laid · CompTakes: laid · CompLoose: laid · CompBounds: laid · CompErrs: laid · CompKnown: laid · CompFronts: laid · CompNests: laid · CompOwn: laid.
  DERIVED. THE GIVEN ROWS OF THIS SEAT. 9 by the template 'for every input the law returns true; each argument reads behind the call as it read before'; 0 by the template 'total and deterministic' (their statements: YtampajokneafhaaGreatDoorTotals.lean).
  GIVEN WITH THE SEED: the statements are not yours to turn. If you find one false, say at which input.
  Laid BY PROGRAM, IN A SANDBOX (cutbox-rows.mjs): the forced cells as the released guide's own fill.sh prints them over the translation 5229f156c363ec62… (all of the seat's roots in one cut). By AI agents, Wed Nov 11 2026. No macro, syntax, notation, axiom, sorry.
-/
import Derived.Test.YtampajokneafhaaGreatDoorChecked
import GoSem.Claim
import GoSem.ClaimJoined
import GoSem.ClaimMapViews
import Derived.JoinedTies
import Derived.KernelRfl
namespace Go.Proofs.YtampajokneafhaaGreatDoor
/- THE CELL 'sum', in the pinned program and in every row, IS THE sha256 OF THE DUMP (.gsa) THAT YtampajokneafhaaGreatDoorProg.lean LOADS. Nothing in Lean hashes anything: it is a label: what it is worth is what the hold of that sum in a sandbox is worth. -/
noncomputable def Tryz.pinned : Pinned := { name := "ytampajokneafhaagreatdoor", sum := "5229f156c363ec62d537b5ea9cf5ee6c262030cd496b557d6fff2acd5d61f403", checked := Tryz.checked }
namespace Rows
def none {H : Type} : Left H := { results := [], args := [] }

/- WHAT THE LISTED PACKAGE-LEVEL VARIABLES READ AS WHEN THE CALL BEGINS. Each datum BY PROGRAM (the guide's laid-datum.mjs) off the statement by which the dump's own 'gosem.cut.vars' lays the variable. In a bare row this is a premise. The card (YtampajokneafhaaGreatDoorCards.lean) ties it to the program's text. -/
def laid_math_bits_deBruijn64tab {H : Type} : DataW H := .agg [.lit (.int .u8 0), .lit (.int .u8 1), .lit (.int .u8 56), .lit (.int .u8 2), .lit (.int .u8 57), .lit (.int .u8 49), .lit (.int .u8 28), .lit (.int .u8 3), .lit (.int .u8 61), .lit (.int .u8 58), .lit (.int .u8 42), .lit (.int .u8 50), .lit (.int .u8 38), .lit (.int .u8 29), .lit (.int .u8 17), .lit (.int .u8 4), .lit (.int .u8 62), .lit (.int .u8 47), .lit (.int .u8 59), .lit (.int .u8 36), .lit (.int .u8 45), .lit (.int .u8 43), .lit (.int .u8 51), .lit (.int .u8 22), .lit (.int .u8 53), .lit (.int .u8 39), .lit (.int .u8 33), .lit (.int .u8 30), .lit (.int .u8 24), .lit (.int .u8 18), .lit (.int .u8 12), .lit (.int .u8 5), .lit (.int .u8 63), .lit (.int .u8 55), .lit (.int .u8 48), .lit (.int .u8 27), .lit (.int .u8 60), .lit (.int .u8 41), .lit (.int .u8 37), .lit (.int .u8 16), .lit (.int .u8 46), .lit (.int .u8 35), .lit (.int .u8 44), .lit (.int .u8 21), .lit (.int .u8 52), .lit (.int .u8 32), .lit (.int .u8 23), .lit (.int .u8 11), .lit (.int .u8 54), .lit (.int .u8 26), .lit (.int .u8 40), .lit (.int .u8 15), .lit (.int .u8 34), .lit (.int .u8 20), .lit (.int .u8 31), .lit (.int .u8 10), .lit (.int .u8 25), .lit (.int .u8 14), .lit (.int .u8 19), .lit (.int .u8 9), .lit (.int .u8 13), .lit (.int .u8 8), .lit (.int .u8 7), .lit (.int .u8 6)]

/-- 'canopylaw7.CompAll': WHATEVER THE INPUT: true; the input reads as it did. -/
def compAllSpec : ChangeSpec := { name := "compAll", fn := fun _ => fun
  | [d1, d2, d3] => { results := [.lit (.bool true)], args := [d1, d2, d3] }
  | _ => none }
def compAllRow : OpenClaim := { program := "ytampajokneafhaagreatdoor", sum := "5229f156c363ec62d537b5ea9cf5ee6c262030cd496b557d6fff2acd5d61f403", func := "canopy/canopylaw7.CompAll", spec := "compAll", unfollowed := true, recurses := true, named := ["math/bits.deBruijn64tab"], apart := false, laid := [("math/bits.deBruijn64tab", laid_math_bits_deBruijn64tab)] }
def CompAllSaid : Prop := compAllRow.holds Tryz.pinned (OpenSpec.ofChange compAllSpec)

/-- ITS FALSE NEIGHBOUR: 'it returns false'. Refute it at one input. -/
def compAllWrong : ChangeSpec := { name := "compAll", fn := fun _ => fun
  | [d1, d2, d3] => { results := [.lit (.bool false)], args := [d1, d2, d3] }
  | _ => none }
def CompAllWrongFalsely : Prop := compAllRow.holds Tryz.pinned (OpenSpec.ofChange compAllWrong)

/-- 'canopylaw7.CompTakes': WHATEVER THE INPUT: true; the input reads as it did. -/
def compTakesSpec : ChangeSpec := { name := "compTakes", fn := fun _ => fun
  | [d1, d2, d3, d4, d5] => { results := [.lit (.bool true)], args := [d1, d2, d3, d4, d5] }
  | _ => none }
def compTakesRow : OpenClaim := { program := "ytampajokneafhaagreatdoor", sum := "5229f156c363ec62d537b5ea9cf5ee6c262030cd496b557d6fff2acd5d61f403", func := "canopy/canopylaw7.CompTakes", spec := "compTakes", unfollowed := true, recurses := true, named := ["math/bits.deBruijn64tab"], apart := false, laid := [("math/bits.deBruijn64tab", laid_math_bits_deBruijn64tab)] }
def CompTakesSaid : Prop := compTakesRow.holds Tryz.pinned (OpenSpec.ofChange compTakesSpec)

/-- ITS FALSE NEIGHBOUR: 'it returns false'. Refute it at one input. -/
def compTakesWrong : ChangeSpec := { name := "compTakes", fn := fun _ => fun
  | [d1, d2, d3, d4, d5] => { results := [.lit (.bool false)], args := [d1, d2, d3, d4, d5] }
  | _ => none }
def CompTakesWrongFalsely : Prop := compTakesRow.holds Tryz.pinned (OpenSpec.ofChange compTakesWrong)

/-- 'canopylaw7.CompLoose': WHATEVER THE INPUT: true; the input reads as it did. -/
def compLooseSpec : ChangeSpec := { name := "compLoose", fn := fun _ => fun
  | [d1, d2] => { results := [.lit (.bool true)], args := [d1, d2] }
  | _ => none }
def compLooseRow : OpenClaim := { program := "ytampajokneafhaagreatdoor", sum := "5229f156c363ec62d537b5ea9cf5ee6c262030cd496b557d6fff2acd5d61f403", func := "canopy/canopylaw7.CompLoose", spec := "compLoose", unfollowed := true, recurses := true, named := ["math/bits.deBruijn64tab"], apart := false, laid := [("math/bits.deBruijn64tab", laid_math_bits_deBruijn64tab)] }
def CompLooseSaid : Prop := compLooseRow.holds Tryz.pinned (OpenSpec.ofChange compLooseSpec)

/-- ITS FALSE NEIGHBOUR: 'it returns false'. Refute it at one input. -/
def compLooseWrong : ChangeSpec := { name := "compLoose", fn := fun _ => fun
  | [d1, d2] => { results := [.lit (.bool false)], args := [d1, d2] }
  | _ => none }
def CompLooseWrongFalsely : Prop := compLooseRow.holds Tryz.pinned (OpenSpec.ofChange compLooseWrong)

/-- 'canopylaw7.CompBounds': WHATEVER THE INPUT: true; the input reads as it did. -/
def compBoundsSpec : ChangeSpec := { name := "compBounds", fn := fun _ => fun
  | [d1, d2] => { results := [.lit (.bool true)], args := [d1, d2] }
  | _ => none }
def compBoundsRow : OpenClaim := { program := "ytampajokneafhaagreatdoor", sum := "5229f156c363ec62d537b5ea9cf5ee6c262030cd496b557d6fff2acd5d61f403", func := "canopy/canopylaw7.CompBounds", spec := "compBounds", unfollowed := true, recurses := true, named := ["math/bits.deBruijn64tab"], apart := false, laid := [("math/bits.deBruijn64tab", laid_math_bits_deBruijn64tab)] }
def CompBoundsSaid : Prop := compBoundsRow.holds Tryz.pinned (OpenSpec.ofChange compBoundsSpec)

/-- ITS FALSE NEIGHBOUR: 'it returns false'. Refute it at one input. -/
def compBoundsWrong : ChangeSpec := { name := "compBounds", fn := fun _ => fun
  | [d1, d2] => { results := [.lit (.bool false)], args := [d1, d2] }
  | _ => none }
def CompBoundsWrongFalsely : Prop := compBoundsRow.holds Tryz.pinned (OpenSpec.ofChange compBoundsWrong)

/-- 'canopylaw7.CompErrs': WHATEVER THE INPUT: true; the input reads as it did. -/
def compErrsSpec : ChangeSpec := { name := "compErrs", fn := fun _ => fun
  | [d1, d2, d3, d4, d5] => { results := [.lit (.bool true)], args := [d1, d2, d3, d4, d5] }
  | _ => none }
def compErrsRow : OpenClaim := { program := "ytampajokneafhaagreatdoor", sum := "5229f156c363ec62d537b5ea9cf5ee6c262030cd496b557d6fff2acd5d61f403", func := "canopy/canopylaw7.CompErrs", spec := "compErrs", unfollowed := true, recurses := true, named := ["math/bits.deBruijn64tab"], apart := false, laid := [("math/bits.deBruijn64tab", laid_math_bits_deBruijn64tab)] }
def CompErrsSaid : Prop := compErrsRow.holds Tryz.pinned (OpenSpec.ofChange compErrsSpec)

/-- ITS FALSE NEIGHBOUR: 'it returns false'. Refute it at one input. -/
def compErrsWrong : ChangeSpec := { name := "compErrs", fn := fun _ => fun
  | [d1, d2, d3, d4, d5] => { results := [.lit (.bool false)], args := [d1, d2, d3, d4, d5] }
  | _ => none }
def CompErrsWrongFalsely : Prop := compErrsRow.holds Tryz.pinned (OpenSpec.ofChange compErrsWrong)

/-- 'canopylaw7.CompKnown': WHATEVER THE INPUT: true; the input reads as it did. -/
def compKnownSpec : ChangeSpec := { name := "compKnown", fn := fun _ => fun
  | [d] => { results := [.lit (.bool true)], args := [d] }
  | _ => none }
def compKnownRow : OpenClaim := { program := "ytampajokneafhaagreatdoor", sum := "5229f156c363ec62d537b5ea9cf5ee6c262030cd496b557d6fff2acd5d61f403", func := "canopy/canopylaw7.CompKnown", spec := "compKnown", unfollowed := true, recurses := true, named := ["math/bits.deBruijn64tab"], apart := false, laid := [("math/bits.deBruijn64tab", laid_math_bits_deBruijn64tab)] }
def CompKnownSaid : Prop := compKnownRow.holds Tryz.pinned (OpenSpec.ofChange compKnownSpec)

/-- ITS FALSE NEIGHBOUR: 'it returns false'. Refute it at one input. -/
def compKnownWrong : ChangeSpec := { name := "compKnown", fn := fun _ => fun
  | [d] => { results := [.lit (.bool false)], args := [d] }
  | _ => none }
def CompKnownWrongFalsely : Prop := compKnownRow.holds Tryz.pinned (OpenSpec.ofChange compKnownWrong)

/-- 'canopylaw7.CompFronts': WHATEVER THE INPUT: true; the input reads as it did. -/
def compFrontsSpec : ChangeSpec := { name := "compFronts", fn := fun _ => fun
  | [d1, d2, d3] => { results := [.lit (.bool true)], args := [d1, d2, d3] }
  | _ => none }
def compFrontsRow : OpenClaim := { program := "ytampajokneafhaagreatdoor", sum := "5229f156c363ec62d537b5ea9cf5ee6c262030cd496b557d6fff2acd5d61f403", func := "canopy/canopylaw7.CompFronts", spec := "compFronts", unfollowed := true, recurses := true, named := ["math/bits.deBruijn64tab"], apart := false, laid := [("math/bits.deBruijn64tab", laid_math_bits_deBruijn64tab)] }
def CompFrontsSaid : Prop := compFrontsRow.holds Tryz.pinned (OpenSpec.ofChange compFrontsSpec)

/-- ITS FALSE NEIGHBOUR: 'it returns false'. Refute it at one input. -/
def compFrontsWrong : ChangeSpec := { name := "compFronts", fn := fun _ => fun
  | [d1, d2, d3] => { results := [.lit (.bool false)], args := [d1, d2, d3] }
  | _ => none }
def CompFrontsWrongFalsely : Prop := compFrontsRow.holds Tryz.pinned (OpenSpec.ofChange compFrontsWrong)

/-- 'canopylaw7.CompNests': WHATEVER THE INPUT: true; the input reads as it did. -/
def compNestsSpec : ChangeSpec := { name := "compNests", fn := fun _ => fun
  | [d1, d2] => { results := [.lit (.bool true)], args := [d1, d2] }
  | _ => none }
def compNestsRow : OpenClaim := { program := "ytampajokneafhaagreatdoor", sum := "5229f156c363ec62d537b5ea9cf5ee6c262030cd496b557d6fff2acd5d61f403", func := "canopy/canopylaw7.CompNests", spec := "compNests", unfollowed := true, recurses := true, named := ["math/bits.deBruijn64tab"], apart := false, laid := [("math/bits.deBruijn64tab", laid_math_bits_deBruijn64tab)] }
def CompNestsSaid : Prop := compNestsRow.holds Tryz.pinned (OpenSpec.ofChange compNestsSpec)

/-- ITS FALSE NEIGHBOUR: 'it returns false'. Refute it at one input. -/
def compNestsWrong : ChangeSpec := { name := "compNests", fn := fun _ => fun
  | [d1, d2] => { results := [.lit (.bool false)], args := [d1, d2] }
  | _ => none }
def CompNestsWrongFalsely : Prop := compNestsRow.holds Tryz.pinned (OpenSpec.ofChange compNestsWrong)

/-- 'canopylaw7.CompOwn': WHATEVER THE INPUT: true; the input reads as it did. -/
def compOwnSpec : ChangeSpec := { name := "compOwn", fn := fun _ => fun
  | [d1, d2] => { results := [.lit (.bool true)], args := [d1, d2] }
  | _ => none }
def compOwnRow : OpenClaim := { program := "ytampajokneafhaagreatdoor", sum := "5229f156c363ec62d537b5ea9cf5ee6c262030cd496b557d6fff2acd5d61f403", func := "canopy/canopylaw7.CompOwn", spec := "compOwn", unfollowed := true, recurses := true, named := ["math/bits.deBruijn64tab"], apart := false, laid := [("math/bits.deBruijn64tab", laid_math_bits_deBruijn64tab)] }
def CompOwnSaid : Prop := compOwnRow.holds Tryz.pinned (OpenSpec.ofChange compOwnSpec)

/-- ITS FALSE NEIGHBOUR: 'it returns false'. Refute it at one input. -/
def compOwnWrong : ChangeSpec := { name := "compOwn", fn := fun _ => fun
  | [d1, d2] => { results := [.lit (.bool false)], args := [d1, d2] }
  | _ => none }
def CompOwnWrongFalsely : Prop := compOwnRow.holds Tryz.pinned (OpenSpec.ofChange compOwnWrong)

/- THE SECOND FORM. 'bulk': how many values and letters a reading holds, each counted each time it is reached (what is shared counts as often as it is met; a slice's spare places count too). A statement '..UptoSaid' is the law's where the arguments, and the package variables that the reading takes, are together of bulk at most 1048576: NARROWER than '..Said'. Prove '..Said' where nothing that the law and all that it calls make is longer than what came in: it says more and counts as full. Else prove '..UptoSaid'. A law counts once. -/
mutual
def uptoBulk {H : Type} : DataW H → Nat
  | .lit (.string bytes) => bytes.length + 1
  | .lit _ => 1
  | .nil => 1
  | .ptr d => uptoBulk d + 1
  | .slice elems spare => uptoBulkAll elems + uptoBulkAll spare + 1
  | .agg parts => uptoBulkAll parts + 1
  | .iface _ d => uptoBulk d + 1
  | .map entries => uptoBulkEntries entries + 1
  | .held _ => 1
def uptoBulkAll {H : Type} : List (DataW H) → Nat
  | [] => 0
  | d :: r => uptoBulk d + uptoBulkAll r
def uptoBulkEntries {H : Type} : List (Lit × DataW H) → Nat
  | [] => 0
  | x :: r => uptoBulkEntry x + uptoBulkEntries r
def uptoBulkEntry {H : Type} : Lit × DataW H → Nat
  | (.string bytes, d) => bytes.length + uptoBulk d + 1
  | (_, d) => uptoBulk d + 1
 end
def uptoSmall : (H : Type) → List (DataW H) → Bool := fun _ ds => decide (uptoBulkAll ds ≤ 1048576)
def OpenSpec.upto (s : _root_.Go.ChangeSpec) : _root_.Go.OpenSpec := { _root_.Go.OpenSpec.ofChange s with cond := some uptoSmall }

/-- 'canopylaw7.CompAll', WHERE WHAT IT READS IS OF BULK AT MOST 1048576: true; the input reads as it did. -/
def compAllUptoRow : OpenClaim := { program := "ytampajokneafhaagreatdoor", sum := "5229f156c363ec62d537b5ea9cf5ee6c262030cd496b557d6fff2acd5d61f403", func := "canopy/canopylaw7.CompAll", spec := "compAll", unfollowed := true, recurses := true, named := ["math/bits.deBruijn64tab"], apart := false, laid := [("math/bits.deBruijn64tab", laid_math_bits_deBruijn64tab)], narrowed := true }
def CompAllUptoSaid : Prop := compAllUptoRow.holds Tryz.pinned (OpenSpec.upto compAllSpec)

/-- 'canopylaw7.CompTakes', WHERE WHAT IT READS IS OF BULK AT MOST 1048576: true; the input reads as it did. -/
def compTakesUptoRow : OpenClaim := { program := "ytampajokneafhaagreatdoor", sum := "5229f156c363ec62d537b5ea9cf5ee6c262030cd496b557d6fff2acd5d61f403", func := "canopy/canopylaw7.CompTakes", spec := "compTakes", unfollowed := true, recurses := true, named := ["math/bits.deBruijn64tab"], apart := false, laid := [("math/bits.deBruijn64tab", laid_math_bits_deBruijn64tab)], narrowed := true }
def CompTakesUptoSaid : Prop := compTakesUptoRow.holds Tryz.pinned (OpenSpec.upto compTakesSpec)

/-- 'canopylaw7.CompLoose', WHERE WHAT IT READS IS OF BULK AT MOST 1048576: true; the input reads as it did. -/
def compLooseUptoRow : OpenClaim := { program := "ytampajokneafhaagreatdoor", sum := "5229f156c363ec62d537b5ea9cf5ee6c262030cd496b557d6fff2acd5d61f403", func := "canopy/canopylaw7.CompLoose", spec := "compLoose", unfollowed := true, recurses := true, named := ["math/bits.deBruijn64tab"], apart := false, laid := [("math/bits.deBruijn64tab", laid_math_bits_deBruijn64tab)], narrowed := true }
def CompLooseUptoSaid : Prop := compLooseUptoRow.holds Tryz.pinned (OpenSpec.upto compLooseSpec)

/-- 'canopylaw7.CompBounds', WHERE WHAT IT READS IS OF BULK AT MOST 1048576: true; the input reads as it did. -/
def compBoundsUptoRow : OpenClaim := { program := "ytampajokneafhaagreatdoor", sum := "5229f156c363ec62d537b5ea9cf5ee6c262030cd496b557d6fff2acd5d61f403", func := "canopy/canopylaw7.CompBounds", spec := "compBounds", unfollowed := true, recurses := true, named := ["math/bits.deBruijn64tab"], apart := false, laid := [("math/bits.deBruijn64tab", laid_math_bits_deBruijn64tab)], narrowed := true }
def CompBoundsUptoSaid : Prop := compBoundsUptoRow.holds Tryz.pinned (OpenSpec.upto compBoundsSpec)

/-- 'canopylaw7.CompErrs', WHERE WHAT IT READS IS OF BULK AT MOST 1048576: true; the input reads as it did. -/
def compErrsUptoRow : OpenClaim := { program := "ytampajokneafhaagreatdoor", sum := "5229f156c363ec62d537b5ea9cf5ee6c262030cd496b557d6fff2acd5d61f403", func := "canopy/canopylaw7.CompErrs", spec := "compErrs", unfollowed := true, recurses := true, named := ["math/bits.deBruijn64tab"], apart := false, laid := [("math/bits.deBruijn64tab", laid_math_bits_deBruijn64tab)], narrowed := true }
def CompErrsUptoSaid : Prop := compErrsUptoRow.holds Tryz.pinned (OpenSpec.upto compErrsSpec)

/-- 'canopylaw7.CompKnown', WHERE WHAT IT READS IS OF BULK AT MOST 1048576: true; the input reads as it did. -/
def compKnownUptoRow : OpenClaim := { program := "ytampajokneafhaagreatdoor", sum := "5229f156c363ec62d537b5ea9cf5ee6c262030cd496b557d6fff2acd5d61f403", func := "canopy/canopylaw7.CompKnown", spec := "compKnown", unfollowed := true, recurses := true, named := ["math/bits.deBruijn64tab"], apart := false, laid := [("math/bits.deBruijn64tab", laid_math_bits_deBruijn64tab)], narrowed := true }
def CompKnownUptoSaid : Prop := compKnownUptoRow.holds Tryz.pinned (OpenSpec.upto compKnownSpec)

/-- 'canopylaw7.CompFronts', WHERE WHAT IT READS IS OF BULK AT MOST 1048576: true; the input reads as it did. -/
def compFrontsUptoRow : OpenClaim := { program := "ytampajokneafhaagreatdoor", sum := "5229f156c363ec62d537b5ea9cf5ee6c262030cd496b557d6fff2acd5d61f403", func := "canopy/canopylaw7.CompFronts", spec := "compFronts", unfollowed := true, recurses := true, named := ["math/bits.deBruijn64tab"], apart := false, laid := [("math/bits.deBruijn64tab", laid_math_bits_deBruijn64tab)], narrowed := true }
def CompFrontsUptoSaid : Prop := compFrontsUptoRow.holds Tryz.pinned (OpenSpec.upto compFrontsSpec)

/-- 'canopylaw7.CompNests', WHERE WHAT IT READS IS OF BULK AT MOST 1048576: true; the input reads as it did. -/
def compNestsUptoRow : OpenClaim := { program := "ytampajokneafhaagreatdoor", sum := "5229f156c363ec62d537b5ea9cf5ee6c262030cd496b557d6fff2acd5d61f403", func := "canopy/canopylaw7.CompNests", spec := "compNests", unfollowed := true, recurses := true, named := ["math/bits.deBruijn64tab"], apart := false, laid := [("math/bits.deBruijn64tab", laid_math_bits_deBruijn64tab)], narrowed := true }
def CompNestsUptoSaid : Prop := compNestsUptoRow.holds Tryz.pinned (OpenSpec.upto compNestsSpec)

/-- 'canopylaw7.CompOwn', WHERE WHAT IT READS IS OF BULK AT MOST 1048576: true; the input reads as it did. -/
def compOwnUptoRow : OpenClaim := { program := "ytampajokneafhaagreatdoor", sum := "5229f156c363ec62d537b5ea9cf5ee6c262030cd496b557d6fff2acd5d61f403", func := "canopy/canopylaw7.CompOwn", spec := "compOwn", unfollowed := true, recurses := true, named := ["math/bits.deBruijn64tab"], apart := false, laid := [("math/bits.deBruijn64tab", laid_math_bits_deBruijn64tab)], narrowed := true }
def CompOwnUptoSaid : Prop := compOwnUptoRow.holds Tryz.pinned (OpenSpec.upto compOwnSpec)

end Rows
end Go.Proofs.YtampajokneafhaaGreatDoor
