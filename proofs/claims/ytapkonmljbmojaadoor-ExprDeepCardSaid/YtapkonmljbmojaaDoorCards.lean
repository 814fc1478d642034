/-
  DERIVED. GIVEN WITH THE SEED: THE CARDS: each row of YtapkonmljbmojaaDoorRows.lean that lists a variable, with what it lists TIED to the program's text (the seventh form; the later family's looks); each row that meets fmt, with fmt's text TOLD by the authors' own Lean function (tested against real Go, not proved from fmt's source: count such statements apart). THE CARD IS WHAT COUNTS. Prove the row's statement (the work); the ties are given (YtapkonmljbmojaaDoorTie.lean); close each card by the builder's one call (the guide's Derived/Test/ToyasCard.lean, 'card_holds'). Laid BY PROGRAM, IN A SANDBOX (cutbox-door.mjs). By AI agents, Wed Nov 11 2026. No macro, syntax, notation, axiom, sorry.
-/
import Derived.Test.YtapkonmljbmojaaDoorRows
import GoSem.ClaimSeven
namespace Go.Proofs.YtapkonmljbmojaaDoor
namespace Rows

/-- THE TIED CARD OF 'canopylaw5.ExprKnown'. -/
def exprKnownCard : Claim7 := { stood := { row := exprKnownRow, standIns := [], harness := (true, "93fd7adca69b137919d631876dc96dd71d819388e51e5370c2e578682d70360e"), looks := false }, kinds := [], alts := [], laidByText := true, laidKinds := [.data], laidTests := true, laidLooks := .later }
def ExprKnownCardSaid : Prop := Claim7.holds Tryd.pinned (.plain (OpenSpec.ofChange exprKnownSpec)) exprKnownCard

/-- THE TIED CARD OF 'canopylaw5.ExprForms'. -/
def exprFormsCard : Claim7 := { stood := { row := exprFormsRow, standIns := [], harness := (true, "93fd7adca69b137919d631876dc96dd71d819388e51e5370c2e578682d70360e"), looks := false }, kinds := [], alts := [], laidByText := true, laidKinds := [.data], laidTests := true, laidLooks := .later }
def ExprFormsCardSaid : Prop := Claim7.holds Tryd.pinned (.plain (OpenSpec.ofChange exprFormsSpec)) exprFormsCard

/-- THE TIED CARD OF 'canopylaw5.ExprDeep'. -/
def exprDeepCard : Claim7 := { stood := { row := exprDeepRow, standIns := [], harness := (true, "93fd7adca69b137919d631876dc96dd71d819388e51e5370c2e578682d70360e"), looks := false }, kinds := [], alts := [], laidByText := true, laidKinds := [.data], laidTests := true, laidLooks := .later }
def ExprDeepCardSaid : Prop := Claim7.holds Tryd.pinned (.plain (OpenSpec.ofChange exprDeepSpec)) exprDeepCard

/-- THE TIED CARD OF 'canopylaw6.MarksAll'. -/
def marksAllCard : Claim7 := { stood := { row := marksAllRow, standIns := [], harness := (true, "93fd7adca69b137919d631876dc96dd71d819388e51e5370c2e578682d70360e"), looks := false }, kinds := [], alts := [], laidByText := true, laidKinds := [.data], laidTests := true, laidLooks := .later }
def MarksAllCardSaid : Prop := Claim7.holds Tryd.pinned (.plain (OpenSpec.ofChange marksAllSpec)) marksAllCard

/-- THE TIED CARD OF 'canopylaw6.MarksWords'. -/
def marksWordsCard : Claim7 := { stood := { row := marksWordsRow, standIns := [], harness := (true, "93fd7adca69b137919d631876dc96dd71d819388e51e5370c2e578682d70360e"), looks := false }, kinds := [], alts := [], laidByText := true, laidKinds := [.data], laidTests := true, laidLooks := .later }
def MarksWordsCardSaid : Prop := Claim7.holds Tryd.pinned (.plain (OpenSpec.ofChange marksWordsSpec)) marksWordsCard

/-- THE TIED CARD OF 'canopylaw6.MarksVoid'. -/
def marksVoidCard : Claim7 := { stood := { row := marksVoidRow, standIns := [], harness := (true, "93fd7adca69b137919d631876dc96dd71d819388e51e5370c2e578682d70360e"), looks := false }, kinds := [], alts := [], laidByText := true, laidKinds := [.data], laidTests := true, laidLooks := .later }
def MarksVoidCardSaid : Prop := Claim7.holds Tryd.pinned (.plain (OpenSpec.ofChange marksVoidSpec)) marksVoidCard

/-- THE TIED CARD OF 'canopylaw6.MarksNests'. -/
def marksNestsCard : Claim7 := { stood := { row := marksNestsRow, standIns := [], harness := (true, "93fd7adca69b137919d631876dc96dd71d819388e51e5370c2e578682d70360e"), looks := false }, kinds := [], alts := [], laidByText := true, laidKinds := [.data], laidTests := true, laidLooks := .later }
def MarksNestsCardSaid : Prop := Claim7.holds Tryd.pinned (.plain (OpenSpec.ofChange marksNestsSpec)) marksNestsCard

/-- THE TIED CARD OF 'canopylaw6.MarksKnown'. -/
def marksKnownCard : Claim7 := { stood := { row := marksKnownRow, standIns := [], harness := (true, "93fd7adca69b137919d631876dc96dd71d819388e51e5370c2e578682d70360e"), looks := false }, kinds := [], alts := [], laidByText := true, laidKinds := [.data], laidTests := true, laidLooks := .later }
def MarksKnownCardSaid : Prop := Claim7.holds Tryd.pinned (.plain (OpenSpec.ofChange marksKnownSpec)) marksKnownCard

/-- THE TIED CARD OF 'canopylaw6.MarksStar'. -/
def marksStarCard : Claim7 := { stood := { row := marksStarRow, standIns := [], harness := (true, "93fd7adca69b137919d631876dc96dd71d819388e51e5370c2e578682d70360e"), looks := false }, kinds := [], alts := [], laidByText := true, laidKinds := [.data], laidTests := true, laidLooks := .later }
def MarksStarCardSaid : Prop := Claim7.holds Tryd.pinned (.plain (OpenSpec.ofChange marksStarSpec)) marksStarCard

/-- THE TIED CARD OF 'canopylaw6.MarksBounds'. -/
def marksBoundsCard : Claim7 := { stood := { row := marksBoundsRow, standIns := [], harness := (true, "93fd7adca69b137919d631876dc96dd71d819388e51e5370c2e578682d70360e"), looks := false }, kinds := [], alts := [], laidByText := true, laidKinds := [.data], laidTests := true, laidLooks := .later }
def MarksBoundsCardSaid : Prop := Claim7.holds Tryd.pinned (.plain (OpenSpec.ofChange marksBoundsSpec)) marksBoundsCard

/-- THE TIED CARD OF 'canopylaw6.MarksOwn'. -/
def marksOwnCard : Claim7 := { stood := { row := marksOwnRow, standIns := [], harness := (true, "93fd7adca69b137919d631876dc96dd71d819388e51e5370c2e578682d70360e"), looks := false }, kinds := [], alts := [], laidByText := true, laidKinds := [.data], laidTests := true, laidLooks := .later }
def MarksOwnCardSaid : Prop := Claim7.holds Tryd.pinned (.plain (OpenSpec.ofChange marksOwnSpec)) marksOwnCard

/-- THE SECOND FORM's CARD OF 'canopylaw5.ExprKnown'. -/
def exprKnownUptoCard : Claim7 := { stood := { row := exprKnownUptoRow, standIns := [], harness := (true, "93fd7adca69b137919d631876dc96dd71d819388e51e5370c2e578682d70360e"), looks := false }, kinds := [], alts := [], laidByText := true, laidKinds := [.data], laidTests := true, laidLooks := .later }
def ExprKnownUptoCardSaid : Prop := Claim7.holds Tryd.pinned (.plain (OpenSpec.upto exprKnownSpec)) exprKnownUptoCard

/-- THE SECOND FORM's CARD OF 'canopylaw5.ExprForms'. -/
def exprFormsUptoCard : Claim7 := { stood := { row := exprFormsUptoRow, standIns := [], harness := (true, "93fd7adca69b137919d631876dc96dd71d819388e51e5370c2e578682d70360e"), looks := false }, kinds := [], alts := [], laidByText := true, laidKinds := [.data], laidTests := true, laidLooks := .later }
def ExprFormsUptoCardSaid : Prop := Claim7.holds Tryd.pinned (.plain (OpenSpec.upto exprFormsSpec)) exprFormsUptoCard

/-- THE SECOND FORM's CARD OF 'canopylaw5.ExprDeep'. -/
def exprDeepUptoCard : Claim7 := { stood := { row := exprDeepUptoRow, standIns := [], harness := (true, "93fd7adca69b137919d631876dc96dd71d819388e51e5370c2e578682d70360e"), looks := false }, kinds := [], alts := [], laidByText := true, laidKinds := [.data], laidTests := true, laidLooks := .later }
def ExprDeepUptoCardSaid : Prop := Claim7.holds Tryd.pinned (.plain (OpenSpec.upto exprDeepSpec)) exprDeepUptoCard

/-- THE SECOND FORM's CARD OF 'canopylaw6.MarksAll'. -/
def marksAllUptoCard : Claim7 := { stood := { row := marksAllUptoRow, standIns := [], harness := (true, "93fd7adca69b137919d631876dc96dd71d819388e51e5370c2e578682d70360e"), looks := false }, kinds := [], alts := [], laidByText := true, laidKinds := [.data], laidTests := true, laidLooks := .later }
def MarksAllUptoCardSaid : Prop := Claim7.holds Tryd.pinned (.plain (OpenSpec.upto marksAllSpec)) marksAllUptoCard

/-- THE SECOND FORM's CARD OF 'canopylaw6.MarksWords'. -/
def marksWordsUptoCard : Claim7 := { stood := { row := marksWordsUptoRow, standIns := [], harness := (true, "93fd7adca69b137919d631876dc96dd71d819388e51e5370c2e578682d70360e"), looks := false }, kinds := [], alts := [], laidByText := true, laidKinds := [.data], laidTests := true, laidLooks := .later }
def MarksWordsUptoCardSaid : Prop := Claim7.holds Tryd.pinned (.plain (OpenSpec.upto marksWordsSpec)) marksWordsUptoCard

/-- THE SECOND FORM's CARD OF 'canopylaw6.MarksVoid'. -/
def marksVoidUptoCard : Claim7 := { stood := { row := marksVoidUptoRow, standIns := [], harness := (true, "93fd7adca69b137919d631876dc96dd71d819388e51e5370c2e578682d70360e"), looks := false }, kinds := [], alts := [], laidByText := true, laidKinds := [.data], laidTests := true, laidLooks := .later }
def MarksVoidUptoCardSaid : Prop := Claim7.holds Tryd.pinned (.plain (OpenSpec.upto marksVoidSpec)) marksVoidUptoCard

/-- THE SECOND FORM's CARD OF 'canopylaw6.MarksNests'. -/
def marksNestsUptoCard : Claim7 := { stood := { row := marksNestsUptoRow, standIns := [], harness := (true, "93fd7adca69b137919d631876dc96dd71d819388e51e5370c2e578682d70360e"), looks := false }, kinds := [], alts := [], laidByText := true, laidKinds := [.data], laidTests := true, laidLooks := .later }
def MarksNestsUptoCardSaid : Prop := Claim7.holds Tryd.pinned (.plain (OpenSpec.upto marksNestsSpec)) marksNestsUptoCard

/-- THE SECOND FORM's CARD OF 'canopylaw6.MarksKnown'. -/
def marksKnownUptoCard : Claim7 := { stood := { row := marksKnownUptoRow, standIns := [], harness := (true, "93fd7adca69b137919d631876dc96dd71d819388e51e5370c2e578682d70360e"), looks := false }, kinds := [], alts := [], laidByText := true, laidKinds := [.data], laidTests := true, laidLooks := .later }
def MarksKnownUptoCardSaid : Prop := Claim7.holds Tryd.pinned (.plain (OpenSpec.upto marksKnownSpec)) marksKnownUptoCard

/-- THE SECOND FORM's CARD OF 'canopylaw6.MarksStar'. -/
def marksStarUptoCard : Claim7 := { stood := { row := marksStarUptoRow, standIns := [], harness := (true, "93fd7adca69b137919d631876dc96dd71d819388e51e5370c2e578682d70360e"), looks := false }, kinds := [], alts := [], laidByText := true, laidKinds := [.data], laidTests := true, laidLooks := .later }
def MarksStarUptoCardSaid : Prop := Claim7.holds Tryd.pinned (.plain (OpenSpec.upto marksStarSpec)) marksStarUptoCard

/-- THE SECOND FORM's CARD OF 'canopylaw6.MarksBounds'. -/
def marksBoundsUptoCard : Claim7 := { stood := { row := marksBoundsUptoRow, standIns := [], harness := (true, "93fd7adca69b137919d631876dc96dd71d819388e51e5370c2e578682d70360e"), looks := false }, kinds := [], alts := [], laidByText := true, laidKinds := [.data], laidTests := true, laidLooks := .later }
def MarksBoundsUptoCardSaid : Prop := Claim7.holds Tryd.pinned (.plain (OpenSpec.upto marksBoundsSpec)) marksBoundsUptoCard

/-- THE SECOND FORM's CARD OF 'canopylaw6.MarksOwn'. -/
def marksOwnUptoCard : Claim7 := { stood := { row := marksOwnUptoRow, standIns := [], harness := (true, "93fd7adca69b137919d631876dc96dd71d819388e51e5370c2e578682d70360e"), looks := false }, kinds := [], alts := [], laidByText := true, laidKinds := [.data], laidTests := true, laidLooks := .later }
def MarksOwnUptoCardSaid : Prop := Claim7.holds Tryd.pinned (.plain (OpenSpec.upto marksOwnSpec)) marksOwnUptoCard
end Rows
end Go.Proofs.YtapkonmljbmojaaDoor
