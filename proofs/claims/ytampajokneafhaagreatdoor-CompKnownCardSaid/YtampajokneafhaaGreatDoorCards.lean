/-
  DERIVED. GIVEN WITH THE SEED: THE CARDS: each row of YtampajokneafhaaGreatDoorRows.lean that lists a variable, with what it lists TIED to the program's text (the seventh form; the later family's looks); each row that meets fmt, with fmt's text TOLD by the authors' own Lean function (tested against real Go, not proved from fmt's source: count such statements apart). THE CARD IS WHAT COUNTS. Prove the row's statement (the work); the ties are given (YtampajokneafhaaGreatDoorTie.lean); close each card by the builder's one call (the guide's Derived/Test/ToyasCard.lean, 'card_holds'). Laid BY PROGRAM, IN A SANDBOX (cutbox-door.mjs). By AI agents, Wed Nov 11 2026. No macro, syntax, notation, axiom, sorry.
-/
import Derived.Test.YtampajokneafhaaGreatDoorRows
import GoSem.ClaimSeven
namespace Go.Proofs.YtampajokneafhaaGreatDoor
namespace Rows

/-- THE TIED CARD OF 'canopylaw7.CompAll'. -/
def compAllCard : Claim7 := { stood := { row := compAllRow, standIns := [], harness := (true, "f300e6e6bb50654b29fa83d027e191cdac5775a8ac0268d311e463d48b84b7b8"), looks := false }, kinds := [], alts := [], laidByText := true, laidKinds := [.data], laidTests := true, laidLooks := .later }
def CompAllCardSaid : Prop := Claim7.holds Tryz.pinned (.plain (OpenSpec.ofChange compAllSpec)) compAllCard

/-- THE TIED CARD OF 'canopylaw7.CompTakes'. -/
def compTakesCard : Claim7 := { stood := { row := compTakesRow, standIns := [], harness := (true, "f300e6e6bb50654b29fa83d027e191cdac5775a8ac0268d311e463d48b84b7b8"), looks := false }, kinds := [], alts := [], laidByText := true, laidKinds := [.data], laidTests := true, laidLooks := .later }
def CompTakesCardSaid : Prop := Claim7.holds Tryz.pinned (.plain (OpenSpec.ofChange compTakesSpec)) compTakesCard

/-- THE TIED CARD OF 'canopylaw7.CompLoose'. -/
def compLooseCard : Claim7 := { stood := { row := compLooseRow, standIns := [], harness := (true, "f300e6e6bb50654b29fa83d027e191cdac5775a8ac0268d311e463d48b84b7b8"), looks := false }, kinds := [], alts := [], laidByText := true, laidKinds := [.data], laidTests := true, laidLooks := .later }
def CompLooseCardSaid : Prop := Claim7.holds Tryz.pinned (.plain (OpenSpec.ofChange compLooseSpec)) compLooseCard

/-- THE TIED CARD OF 'canopylaw7.CompBounds'. -/
def compBoundsCard : Claim7 := { stood := { row := compBoundsRow, standIns := [], harness := (true, "f300e6e6bb50654b29fa83d027e191cdac5775a8ac0268d311e463d48b84b7b8"), looks := false }, kinds := [], alts := [], laidByText := true, laidKinds := [.data], laidTests := true, laidLooks := .later }
def CompBoundsCardSaid : Prop := Claim7.holds Tryz.pinned (.plain (OpenSpec.ofChange compBoundsSpec)) compBoundsCard

/-- THE TIED CARD OF 'canopylaw7.CompErrs'. -/
def compErrsCard : Claim7 := { stood := { row := compErrsRow, standIns := [], harness := (true, "f300e6e6bb50654b29fa83d027e191cdac5775a8ac0268d311e463d48b84b7b8"), looks := false }, kinds := [], alts := [], laidByText := true, laidKinds := [.data], laidTests := true, laidLooks := .later }
def CompErrsCardSaid : Prop := Claim7.holds Tryz.pinned (.plain (OpenSpec.ofChange compErrsSpec)) compErrsCard

/-- THE TIED CARD OF 'canopylaw7.CompKnown'. -/
def compKnownCard : Claim7 := { stood := { row := compKnownRow, standIns := [], harness := (true, "f300e6e6bb50654b29fa83d027e191cdac5775a8ac0268d311e463d48b84b7b8"), looks := false }, kinds := [], alts := [], laidByText := true, laidKinds := [.data], laidTests := true, laidLooks := .later }
def CompKnownCardSaid : Prop := Claim7.holds Tryz.pinned (.plain (OpenSpec.ofChange compKnownSpec)) compKnownCard

/-- THE TIED CARD OF 'canopylaw7.CompFronts'. -/
def compFrontsCard : Claim7 := { stood := { row := compFrontsRow, standIns := [], harness := (true, "f300e6e6bb50654b29fa83d027e191cdac5775a8ac0268d311e463d48b84b7b8"), looks := false }, kinds := [], alts := [], laidByText := true, laidKinds := [.data], laidTests := true, laidLooks := .later }
def CompFrontsCardSaid : Prop := Claim7.holds Tryz.pinned (.plain (OpenSpec.ofChange compFrontsSpec)) compFrontsCard

/-- THE TIED CARD OF 'canopylaw7.CompNests'. -/
def compNestsCard : Claim7 := { stood := { row := compNestsRow, standIns := [], harness := (true, "f300e6e6bb50654b29fa83d027e191cdac5775a8ac0268d311e463d48b84b7b8"), looks := false }, kinds := [], alts := [], laidByText := true, laidKinds := [.data], laidTests := true, laidLooks := .later }
def CompNestsCardSaid : Prop := Claim7.holds Tryz.pinned (.plain (OpenSpec.ofChange compNestsSpec)) compNestsCard

/-- THE TIED CARD OF 'canopylaw7.CompOwn'. -/
def compOwnCard : Claim7 := { stood := { row := compOwnRow, standIns := [], harness := (true, "f300e6e6bb50654b29fa83d027e191cdac5775a8ac0268d311e463d48b84b7b8"), looks := false }, kinds := [], alts := [], laidByText := true, laidKinds := [.data], laidTests := true, laidLooks := .later }
def CompOwnCardSaid : Prop := Claim7.holds Tryz.pinned (.plain (OpenSpec.ofChange compOwnSpec)) compOwnCard

/-- THE SECOND FORM's CARD OF 'canopylaw7.CompAll'. -/
def compAllUptoCard : Claim7 := { stood := { row := compAllUptoRow, standIns := [], harness := (true, "f300e6e6bb50654b29fa83d027e191cdac5775a8ac0268d311e463d48b84b7b8"), looks := false }, kinds := [], alts := [], laidByText := true, laidKinds := [.data], laidTests := true, laidLooks := .later }
def CompAllUptoCardSaid : Prop := Claim7.holds Tryz.pinned (.plain (OpenSpec.upto compAllSpec)) compAllUptoCard

/-- THE SECOND FORM's CARD OF 'canopylaw7.CompTakes'. -/
def compTakesUptoCard : Claim7 := { stood := { row := compTakesUptoRow, standIns := [], harness := (true, "f300e6e6bb50654b29fa83d027e191cdac5775a8ac0268d311e463d48b84b7b8"), looks := false }, kinds := [], alts := [], laidByText := true, laidKinds := [.data], laidTests := true, laidLooks := .later }
def CompTakesUptoCardSaid : Prop := Claim7.holds Tryz.pinned (.plain (OpenSpec.upto compTakesSpec)) compTakesUptoCard

/-- THE SECOND FORM's CARD OF 'canopylaw7.CompLoose'. -/
def compLooseUptoCard : Claim7 := { stood := { row := compLooseUptoRow, standIns := [], harness := (true, "f300e6e6bb50654b29fa83d027e191cdac5775a8ac0268d311e463d48b84b7b8"), looks := false }, kinds := [], alts := [], laidByText := true, laidKinds := [.data], laidTests := true, laidLooks := .later }
def CompLooseUptoCardSaid : Prop := Claim7.holds Tryz.pinned (.plain (OpenSpec.upto compLooseSpec)) compLooseUptoCard

/-- THE SECOND FORM's CARD OF 'canopylaw7.CompBounds'. -/
def compBoundsUptoCard : Claim7 := { stood := { row := compBoundsUptoRow, standIns := [], harness := (true, "f300e6e6bb50654b29fa83d027e191cdac5775a8ac0268d311e463d48b84b7b8"), looks := false }, kinds := [], alts := [], laidByText := true, laidKinds := [.data], laidTests := true, laidLooks := .later }
def CompBoundsUptoCardSaid : Prop := Claim7.holds Tryz.pinned (.plain (OpenSpec.upto compBoundsSpec)) compBoundsUptoCard

/-- THE SECOND FORM's CARD OF 'canopylaw7.CompErrs'. -/
def compErrsUptoCard : Claim7 := { stood := { row := compErrsUptoRow, standIns := [], harness := (true, "f300e6e6bb50654b29fa83d027e191cdac5775a8ac0268d311e463d48b84b7b8"), looks := false }, kinds := [], alts := [], laidByText := true, laidKinds := [.data], laidTests := true, laidLooks := .later }
def CompErrsUptoCardSaid : Prop := Claim7.holds Tryz.pinned (.plain (OpenSpec.upto compErrsSpec)) compErrsUptoCard

/-- THE SECOND FORM's CARD OF 'canopylaw7.CompKnown'. -/
def compKnownUptoCard : Claim7 := { stood := { row := compKnownUptoRow, standIns := [], harness := (true, "f300e6e6bb50654b29fa83d027e191cdac5775a8ac0268d311e463d48b84b7b8"), looks := false }, kinds := [], alts := [], laidByText := true, laidKinds := [.data], laidTests := true, laidLooks := .later }
def CompKnownUptoCardSaid : Prop := Claim7.holds Tryz.pinned (.plain (OpenSpec.upto compKnownSpec)) compKnownUptoCard

/-- THE SECOND FORM's CARD OF 'canopylaw7.CompFronts'. -/
def compFrontsUptoCard : Claim7 := { stood := { row := compFrontsUptoRow, standIns := [], harness := (true, "f300e6e6bb50654b29fa83d027e191cdac5775a8ac0268d311e463d48b84b7b8"), looks := false }, kinds := [], alts := [], laidByText := true, laidKinds := [.data], laidTests := true, laidLooks := .later }
def CompFrontsUptoCardSaid : Prop := Claim7.holds Tryz.pinned (.plain (OpenSpec.upto compFrontsSpec)) compFrontsUptoCard

/-- THE SECOND FORM's CARD OF 'canopylaw7.CompNests'. -/
def compNestsUptoCard : Claim7 := { stood := { row := compNestsUptoRow, standIns := [], harness := (true, "f300e6e6bb50654b29fa83d027e191cdac5775a8ac0268d311e463d48b84b7b8"), looks := false }, kinds := [], alts := [], laidByText := true, laidKinds := [.data], laidTests := true, laidLooks := .later }
def CompNestsUptoCardSaid : Prop := Claim7.holds Tryz.pinned (.plain (OpenSpec.upto compNestsSpec)) compNestsUptoCard

/-- THE SECOND FORM's CARD OF 'canopylaw7.CompOwn'. -/
def compOwnUptoCard : Claim7 := { stood := { row := compOwnUptoRow, standIns := [], harness := (true, "f300e6e6bb50654b29fa83d027e191cdac5775a8ac0268d311e463d48b84b7b8"), looks := false }, kinds := [], alts := [], laidByText := true, laidKinds := [.data], laidTests := true, laidLooks := .later }
def CompOwnUptoCardSaid : Prop := Claim7.holds Tryz.pinned (.plain (OpenSpec.upto compOwnSpec)) compOwnUptoCard
end Rows
end Go.Proofs.YtampajokneafhaaGreatDoor
