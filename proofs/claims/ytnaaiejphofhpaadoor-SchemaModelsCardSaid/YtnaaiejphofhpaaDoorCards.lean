/-
  DERIVED. GIVEN WITH THE SEED: THE CARDS: each row of YtnaaiejphofhpaaDoorRows.lean that lists a variable, with what it lists TIED to the program's text (the seventh form; the later family's looks); each row that meets fmt, with fmt's text TOLD by the authors' own Lean function (tested against real Go, not proved from fmt's source: count such statements apart). THE CARD IS WHAT COUNTS. Prove the row's statement (the work); the ties are given (YtnaaiejphofhpaaDoorTie.lean); close each card by the builder's one call (the guide's Derived/Test/ToyasCard.lean, 'card_holds'). Laid BY PROGRAM, IN A SANDBOX (cutbox-door.mjs). By AI agents, Wed Nov 11 2026. No macro, syntax, notation, axiom, sorry.
-/
import Derived.Test.YtnaaiejphofhpaaDoorRows
import GoSem.ClaimSeven
namespace Go.Proofs.YtnaaiejphofhpaaDoor
namespace Rows

/-- THE TIED CARD OF 'canopylaw8.SchemaKnown'. -/
def schemaKnownCard : Claim7 := { stood := { row := schemaKnownRow, standIns := [], harness := (true, "1a3321f8b1135b6e13734db7cc87660a260bde064050fcab455aa0669c2d2d8a"), looks := false }, kinds := [], alts := [], laidByText := true, laidKinds := [.data, .pinned], laidTests := true, laidLooks := .later }
def SchemaKnownCardSaid : Prop := Claim7.holds Tryd.pinned (.plain (OpenSpec.ofChange schemaKnownSpec)) schemaKnownCard

/-- THE TIED CARD OF 'canopylaw8.SchemaForms'. -/
def schemaFormsCard : Claim7 := { stood := { row := schemaFormsRow, standIns := [], harness := (true, "1a3321f8b1135b6e13734db7cc87660a260bde064050fcab455aa0669c2d2d8a"), looks := false }, kinds := [], alts := [], laidByText := true, laidKinds := [.data, .pinned], laidTests := true, laidLooks := .later }
def SchemaFormsCardSaid : Prop := Claim7.holds Tryd.pinned (.plain (OpenSpec.ofChange schemaFormsSpec)) schemaFormsCard

/-- THE TIED CARD OF 'canopylaw8.SchemaModels'. -/
def schemaModelsCard : Claim7 := { stood := { row := schemaModelsRow, standIns := [], harness := (true, "1a3321f8b1135b6e13734db7cc87660a260bde064050fcab455aa0669c2d2d8a"), looks := false }, kinds := [], alts := [], laidByText := true, laidKinds := [.data, .pinned], laidTests := true, laidLooks := .later }
def SchemaModelsCardSaid : Prop := Claim7.holds Tryd.pinned (.plain (OpenSpec.ofChange schemaModelsSpec)) schemaModelsCard

/-- THE SECOND FORM's CARD OF 'canopylaw8.SchemaKnown'. -/
def schemaKnownUptoCard : Claim7 := { stood := { row := schemaKnownUptoRow, standIns := [], harness := (true, "1a3321f8b1135b6e13734db7cc87660a260bde064050fcab455aa0669c2d2d8a"), looks := false }, kinds := [], alts := [], laidByText := true, laidKinds := [.data, .pinned], laidTests := true, laidLooks := .later }
def SchemaKnownUptoCardSaid : Prop := Claim7.holds Tryd.pinned (.plain (OpenSpec.upto schemaKnownSpec)) schemaKnownUptoCard

/-- THE SECOND FORM's CARD OF 'canopylaw8.SchemaForms'. -/
def schemaFormsUptoCard : Claim7 := { stood := { row := schemaFormsUptoRow, standIns := [], harness := (true, "1a3321f8b1135b6e13734db7cc87660a260bde064050fcab455aa0669c2d2d8a"), looks := false }, kinds := [], alts := [], laidByText := true, laidKinds := [.data, .pinned], laidTests := true, laidLooks := .later }
def SchemaFormsUptoCardSaid : Prop := Claim7.holds Tryd.pinned (.plain (OpenSpec.upto schemaFormsSpec)) schemaFormsUptoCard

/-- THE SECOND FORM's CARD OF 'canopylaw8.SchemaModels'. -/
def schemaModelsUptoCard : Claim7 := { stood := { row := schemaModelsUptoRow, standIns := [], harness := (true, "1a3321f8b1135b6e13734db7cc87660a260bde064050fcab455aa0669c2d2d8a"), looks := false }, kinds := [], alts := [], laidByText := true, laidKinds := [.data, .pinned], laidTests := true, laidLooks := .later }
def SchemaModelsUptoCardSaid : Prop := Claim7.holds Tryd.pinned (.plain (OpenSpec.upto schemaModelsSpec)) schemaModelsUptoCard
end Rows
end Go.Proofs.YtnaaiejphofhpaaDoor
