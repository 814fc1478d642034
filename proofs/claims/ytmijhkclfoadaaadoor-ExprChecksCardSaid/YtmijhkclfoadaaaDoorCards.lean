/-
  DERIVED. GIVEN WITH THE SEED: THE CARDS: each row of YtmijhkclfoadaaaDoorRows.lean that lists a variable, with what it lists TIED to the program's text (the seventh form; the later family's looks); each row that meets fmt, with fmt's text TOLD by the authors' own Lean function (tested against real Go, not proved from fmt's source: count such statements apart). THE CARD IS WHAT COUNTS. Prove the row's statement (the work); the ties are given (YtmijhkclfoadaaaDoorTie.lean); close each card by the builder's one call (the guide's Derived/Test/ToyasCard.lean, 'card_holds'). Laid BY PROGRAM, IN A SANDBOX (cutbox-door.mjs). By AI agents, Wed Nov 11 2026. No macro, syntax, notation, axiom, sorry.
-/
import Derived.Test.YtmijhkclfoadaaaDoorRows
import GoSem.ClaimSeven
namespace Go.Proofs.YtmijhkclfoadaaaDoor
namespace Rows

/-- THE TIED CARD OF 'canopylaw5.ExprChecks'. -/
def exprChecksCard : Claim7 := { stood := { row := exprChecksRow, standIns := [], harness := (true, "5435b22b4c7720f61f5775eaeb0a0c1e642c578cb3e41929c913be7d22a09841"), looks := false }, kinds := [], alts := [], laidByText := true, laidKinds := [.data], laidTests := true, laidLooks := .later }
def ExprChecksCardSaid : Prop := Claim7.holds Tryd.pinned (.plain (OpenSpec.ofChange exprChecksSpec)) exprChecksCard

/-- THE TIED CARD OF 'canopylaw5.ExprNest'. -/
def exprNestCard : Claim7 := { stood := { row := exprNestRow, standIns := [], harness := (true, "5435b22b4c7720f61f5775eaeb0a0c1e642c578cb3e41929c913be7d22a09841"), looks := false }, kinds := [], alts := [], laidByText := true, laidKinds := [.data], laidTests := true, laidLooks := .later }
def ExprNestCardSaid : Prop := Claim7.holds Tryd.pinned (.plain (OpenSpec.ofChange exprNestSpec)) exprNestCard

/-- THE TIED CARD OF 'canopylaw5.ExprOwn'. -/
def exprOwnCard : Claim7 := { stood := { row := exprOwnRow, standIns := [], harness := (true, "5435b22b4c7720f61f5775eaeb0a0c1e642c578cb3e41929c913be7d22a09841"), looks := false }, kinds := [], alts := [], laidByText := true, laidKinds := [.data], laidTests := true, laidLooks := .later }
def ExprOwnCardSaid : Prop := Claim7.holds Tryd.pinned (.plain (OpenSpec.ofChange exprOwnSpec)) exprOwnCard

/-- THE TIED CARD OF 'canopylaw6.MarksAll'. -/
def marksAllCard : Claim7 := { stood := { row := marksAllRow, standIns := [], harness := (true, "5435b22b4c7720f61f5775eaeb0a0c1e642c578cb3e41929c913be7d22a09841"), looks := false }, kinds := [], alts := [], laidByText := true, laidKinds := [.data], laidTests := true, laidLooks := .later }
def MarksAllCardSaid : Prop := Claim7.holds Tryd.pinned (.plain (OpenSpec.ofChange marksAllSpec)) marksAllCard

/-- THE TIED CARD OF 'canopylaw6.MarksNests'. -/
def marksNestsCard : Claim7 := { stood := { row := marksNestsRow, standIns := [], harness := (true, "5435b22b4c7720f61f5775eaeb0a0c1e642c578cb3e41929c913be7d22a09841"), looks := false }, kinds := [], alts := [], laidByText := true, laidKinds := [.data], laidTests := true, laidLooks := .later }
def MarksNestsCardSaid : Prop := Claim7.holds Tryd.pinned (.plain (OpenSpec.ofChange marksNestsSpec)) marksNestsCard

/-- THE TIED CARD OF 'canopylaw6.MarksStar'. -/
def marksStarCard : Claim7 := { stood := { row := marksStarRow, standIns := [], harness := (true, "5435b22b4c7720f61f5775eaeb0a0c1e642c578cb3e41929c913be7d22a09841"), looks := false }, kinds := [], alts := [], laidByText := true, laidKinds := [.data], laidTests := true, laidLooks := .later }
def MarksStarCardSaid : Prop := Claim7.holds Tryd.pinned (.plain (OpenSpec.ofChange marksStarSpec)) marksStarCard

/-- THE TIED CARD OF 'canopylaw6.MarksBounds'. -/
def marksBoundsCard : Claim7 := { stood := { row := marksBoundsRow, standIns := [], harness := (true, "5435b22b4c7720f61f5775eaeb0a0c1e642c578cb3e41929c913be7d22a09841"), looks := false }, kinds := [], alts := [], laidByText := true, laidKinds := [.data], laidTests := true, laidLooks := .later }
def MarksBoundsCardSaid : Prop := Claim7.holds Tryd.pinned (.plain (OpenSpec.ofChange marksBoundsSpec)) marksBoundsCard

/-- THE TIED CARD OF 'canopylaw6.MarksOwn'. -/
def marksOwnCard : Claim7 := { stood := { row := marksOwnRow, standIns := [], harness := (true, "5435b22b4c7720f61f5775eaeb0a0c1e642c578cb3e41929c913be7d22a09841"), looks := false }, kinds := [], alts := [], laidByText := true, laidKinds := [.data], laidTests := true, laidLooks := .later }
def MarksOwnCardSaid : Prop := Claim7.holds Tryd.pinned (.plain (OpenSpec.ofChange marksOwnSpec)) marksOwnCard

/-- THE SECOND FORM's CARD OF 'canopylaw5.ExprChecks'. -/
def exprChecksUptoCard : Claim7 := { stood := { row := exprChecksUptoRow, standIns := [], harness := (true, "5435b22b4c7720f61f5775eaeb0a0c1e642c578cb3e41929c913be7d22a09841"), looks := false }, kinds := [], alts := [], laidByText := true, laidKinds := [.data], laidTests := true, laidLooks := .later }
def ExprChecksUptoCardSaid : Prop := Claim7.holds Tryd.pinned (.plain (OpenSpec.upto exprChecksSpec)) exprChecksUptoCard

/-- THE SECOND FORM's CARD OF 'canopylaw5.ExprNest'. -/
def exprNestUptoCard : Claim7 := { stood := { row := exprNestUptoRow, standIns := [], harness := (true, "5435b22b4c7720f61f5775eaeb0a0c1e642c578cb3e41929c913be7d22a09841"), looks := false }, kinds := [], alts := [], laidByText := true, laidKinds := [.data], laidTests := true, laidLooks := .later }
def ExprNestUptoCardSaid : Prop := Claim7.holds Tryd.pinned (.plain (OpenSpec.upto exprNestSpec)) exprNestUptoCard

/-- THE SECOND FORM's CARD OF 'canopylaw5.ExprOwn'. -/
def exprOwnUptoCard : Claim7 := { stood := { row := exprOwnUptoRow, standIns := [], harness := (true, "5435b22b4c7720f61f5775eaeb0a0c1e642c578cb3e41929c913be7d22a09841"), looks := false }, kinds := [], alts := [], laidByText := true, laidKinds := [.data], laidTests := true, laidLooks := .later }
def ExprOwnUptoCardSaid : Prop := Claim7.holds Tryd.pinned (.plain (OpenSpec.upto exprOwnSpec)) exprOwnUptoCard

/-- THE SECOND FORM's CARD OF 'canopylaw6.MarksAll'. -/
def marksAllUptoCard : Claim7 := { stood := { row := marksAllUptoRow, standIns := [], harness := (true, "5435b22b4c7720f61f5775eaeb0a0c1e642c578cb3e41929c913be7d22a09841"), looks := false }, kinds := [], alts := [], laidByText := true, laidKinds := [.data], laidTests := true, laidLooks := .later }
def MarksAllUptoCardSaid : Prop := Claim7.holds Tryd.pinned (.plain (OpenSpec.upto marksAllSpec)) marksAllUptoCard

/-- THE SECOND FORM's CARD OF 'canopylaw6.MarksNests'. -/
def marksNestsUptoCard : Claim7 := { stood := { row := marksNestsUptoRow, standIns := [], harness := (true, "5435b22b4c7720f61f5775eaeb0a0c1e642c578cb3e41929c913be7d22a09841"), looks := false }, kinds := [], alts := [], laidByText := true, laidKinds := [.data], laidTests := true, laidLooks := .later }
def MarksNestsUptoCardSaid : Prop := Claim7.holds Tryd.pinned (.plain (OpenSpec.upto marksNestsSpec)) marksNestsUptoCard

/-- THE SECOND FORM's CARD OF 'canopylaw6.MarksStar'. -/
def marksStarUptoCard : Claim7 := { stood := { row := marksStarUptoRow, standIns := [], harness := (true, "5435b22b4c7720f61f5775eaeb0a0c1e642c578cb3e41929c913be7d22a09841"), looks := false }, kinds := [], alts := [], laidByText := true, laidKinds := [.data], laidTests := true, laidLooks := .later }
def MarksStarUptoCardSaid : Prop := Claim7.holds Tryd.pinned (.plain (OpenSpec.upto marksStarSpec)) marksStarUptoCard

/-- THE SECOND FORM's CARD OF 'canopylaw6.MarksBounds'. -/
def marksBoundsUptoCard : Claim7 := { stood := { row := marksBoundsUptoRow, standIns := [], harness := (true, "5435b22b4c7720f61f5775eaeb0a0c1e642c578cb3e41929c913be7d22a09841"), looks := false }, kinds := [], alts := [], laidByText := true, laidKinds := [.data], laidTests := true, laidLooks := .later }
def MarksBoundsUptoCardSaid : Prop := Claim7.holds Tryd.pinned (.plain (OpenSpec.upto marksBoundsSpec)) marksBoundsUptoCard

/-- THE SECOND FORM's CARD OF 'canopylaw6.MarksOwn'. -/
def marksOwnUptoCard : Claim7 := { stood := { row := marksOwnUptoRow, standIns := [], harness := (true, "5435b22b4c7720f61f5775eaeb0a0c1e642c578cb3e41929c913be7d22a09841"), looks := false }, kinds := [], alts := [], laidByText := true, laidKinds := [.data], laidTests := true, laidLooks := .later }
def MarksOwnUptoCardSaid : Prop := Claim7.holds Tryd.pinned (.plain (OpenSpec.upto marksOwnSpec)) marksOwnUptoCard
end Rows
end Go.Proofs.YtmijhkclfoadaaaDoor
