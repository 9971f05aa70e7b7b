/-
  DERIVED. GIVEN WITH THE SEED: THE CARDS: each row of YtdljmpjfiggdiaaDoorRows.lean that lists a variable, with what it lists TIED to the program's text (the seventh form; the later family's looks); each row that meets fmt, with fmt's text TOLD by the authors' own Lean function (tested against real Go, not proved from fmt's source: count such statements apart). THE CARD IS WHAT COUNTS. Prove the row's statement (the work); the ties are given (YtdljmpjfiggdiaaDoorTie.lean); close each card by the builder's one call (the guide's Derived/Test/ToyasCard.lean, 'card_holds'). Laid BY PROGRAM, IN A SANDBOX (cutbox-door.mjs). By AI agents, Wed Nov 11 2026. No macro, syntax, notation, axiom, sorry.
-/
import Derived.Test.YtdljmpjfiggdiaaDoorRows
import GoSem.ClaimSeven
namespace Go.Proofs.YtdljmpjfiggdiaaDoor
namespace Rows

/-- THE TIED CARD OF 'echelonlaw23.ViewCorrects'. -/
def viewCorrectsCard : Claim7 := { stood := { row := viewCorrectsRow, standIns := [], harness := (true, "bea7239f94493e90363792be4cd7ad40ca876b158575caa69bcb37a850b7e7a3"), looks := false }, kinds := [], alts := [], laidByText := true, laidKinds := [.data, .data, .data, .data], laidTests := true, laidLooks := .later }
def ViewCorrectsCardSaid : Prop := Claim7.holds Tryd.pinned (.plain (OpenSpec.ofChange viewCorrectsSpec)) viewCorrectsCard

/-- THE TIED CARD OF 'echelonlaw23.ViewTurns'. -/
def viewTurnsCard : Claim7 := { stood := { row := viewTurnsRow, standIns := [], harness := (true, "bea7239f94493e90363792be4cd7ad40ca876b158575caa69bcb37a850b7e7a3"), looks := false }, kinds := [], alts := [], laidByText := true, laidKinds := [.data, .data, .data, .data], laidTests := true, laidLooks := .later }
def ViewTurnsCardSaid : Prop := Claim7.holds Tryd.pinned (.plain (OpenSpec.ofChange viewTurnsSpec)) viewTurnsCard

/-- THE TIED CARD OF 'echelonlaw23.ViewNotes'. -/
def viewNotesCard : Claim7 := { stood := { row := viewNotesRow, standIns := [], harness := (true, "bea7239f94493e90363792be4cd7ad40ca876b158575caa69bcb37a850b7e7a3"), looks := false }, kinds := [], alts := [], laidByText := true, laidKinds := [.data, .data, .data, .data], laidTests := true, laidLooks := .later }
def ViewNotesCardSaid : Prop := Claim7.holds Tryd.pinned (.plain (OpenSpec.ofChange viewNotesSpec)) viewNotesCard

/-- THE TIED CARD OF 'echelonlaw23.ViewTables'. -/
def viewTablesCard : Claim7 := { stood := { row := viewTablesRow, standIns := [], harness := (true, "bea7239f94493e90363792be4cd7ad40ca876b158575caa69bcb37a850b7e7a3"), looks := false }, kinds := [], alts := [], laidByText := true, laidKinds := [.data, .data, .data, .data], laidTests := true, laidLooks := .later }
def ViewTablesCardSaid : Prop := Claim7.holds Tryd.pinned (.plain (OpenSpec.ofChange viewTablesSpec)) viewTablesCard

/-- THE TIED CARD OF 'echelonlaw23.ViewPrints'. -/
def viewPrintsCard : Claim7 := { stood := { row := viewPrintsRow, standIns := [], harness := (true, "bea7239f94493e90363792be4cd7ad40ca876b158575caa69bcb37a850b7e7a3"), looks := false }, kinds := [], alts := [], laidByText := true, laidKinds := [.data, .data, .data, .data], laidTests := true, laidLooks := .later }
def ViewPrintsCardSaid : Prop := Claim7.holds Tryd.pinned (.plain (OpenSpec.ofChange viewPrintsSpec)) viewPrintsCard

/-- THE SECOND FORM's CARD OF 'echelonlaw23.ViewCorrects'. -/
def viewCorrectsUptoCard : Claim7 := { stood := { row := viewCorrectsUptoRow, standIns := [], harness := (true, "bea7239f94493e90363792be4cd7ad40ca876b158575caa69bcb37a850b7e7a3"), looks := false }, kinds := [], alts := [], laidByText := true, laidKinds := [.data, .data, .data, .data], laidTests := true, laidLooks := .later }
def ViewCorrectsUptoCardSaid : Prop := Claim7.holds Tryd.pinned (.plain (OpenSpec.upto viewCorrectsSpec)) viewCorrectsUptoCard

/-- THE SECOND FORM's CARD OF 'echelonlaw23.ViewTurns'. -/
def viewTurnsUptoCard : Claim7 := { stood := { row := viewTurnsUptoRow, standIns := [], harness := (true, "bea7239f94493e90363792be4cd7ad40ca876b158575caa69bcb37a850b7e7a3"), looks := false }, kinds := [], alts := [], laidByText := true, laidKinds := [.data, .data, .data, .data], laidTests := true, laidLooks := .later }
def ViewTurnsUptoCardSaid : Prop := Claim7.holds Tryd.pinned (.plain (OpenSpec.upto viewTurnsSpec)) viewTurnsUptoCard

/-- THE SECOND FORM's CARD OF 'echelonlaw23.ViewNotes'. -/
def viewNotesUptoCard : Claim7 := { stood := { row := viewNotesUptoRow, standIns := [], harness := (true, "bea7239f94493e90363792be4cd7ad40ca876b158575caa69bcb37a850b7e7a3"), looks := false }, kinds := [], alts := [], laidByText := true, laidKinds := [.data, .data, .data, .data], laidTests := true, laidLooks := .later }
def ViewNotesUptoCardSaid : Prop := Claim7.holds Tryd.pinned (.plain (OpenSpec.upto viewNotesSpec)) viewNotesUptoCard

/-- THE SECOND FORM's CARD OF 'echelonlaw23.ViewTables'. -/
def viewTablesUptoCard : Claim7 := { stood := { row := viewTablesUptoRow, standIns := [], harness := (true, "bea7239f94493e90363792be4cd7ad40ca876b158575caa69bcb37a850b7e7a3"), looks := false }, kinds := [], alts := [], laidByText := true, laidKinds := [.data, .data, .data, .data], laidTests := true, laidLooks := .later }
def ViewTablesUptoCardSaid : Prop := Claim7.holds Tryd.pinned (.plain (OpenSpec.upto viewTablesSpec)) viewTablesUptoCard

/-- THE SECOND FORM's CARD OF 'echelonlaw23.ViewPrints'. -/
def viewPrintsUptoCard : Claim7 := { stood := { row := viewPrintsUptoRow, standIns := [], harness := (true, "bea7239f94493e90363792be4cd7ad40ca876b158575caa69bcb37a850b7e7a3"), looks := false }, kinds := [], alts := [], laidByText := true, laidKinds := [.data, .data, .data, .data], laidTests := true, laidLooks := .later }
def ViewPrintsUptoCardSaid : Prop := Claim7.holds Tryd.pinned (.plain (OpenSpec.upto viewPrintsSpec)) viewPrintsUptoCard
end Rows
end Go.Proofs.YtdljmpjfiggdiaaDoor
