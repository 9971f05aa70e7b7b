/-
  DERIVED. GIVEN WITH THE SEED: THE CARDS: each row of YtlaehphhfeoklaaDoorRows.lean that lists a variable, with what it lists TIED to the program's text (the seventh form; the later family's looks); each row that meets fmt, with fmt's text TOLD by the authors' own Lean function (tested against real Go, not proved from fmt's source: count such statements apart). THE CARD IS WHAT COUNTS. Prove the row's statement (the work); the ties are given (YtlaehphhfeoklaaDoorTie.lean); close each card by the builder's one call (the guide's Derived/Test/ToyasCard.lean, 'card_holds'). Laid BY PROGRAM, IN A SANDBOX (cutbox-door.mjs). By AI agents, Wed Nov 11 2026. No macro, syntax, notation, axiom, sorry.
-/
import Derived.Test.YtlaehphhfeoklaaDoorRows
import GoSem.ClaimSeven
namespace Go.Proofs.YtlaehphhfeoklaaDoor
namespace Rows

/-- THE TIED CARD OF 'echelonlaw07.VerbNames'. -/
def verbNamesCard : Claim7 := { stood := { row := verbNamesRow, standIns := [], harness := (true, "7711daddcd6ebd4691307fd47c5928b38f16371076b2b19a7f9dbb6b50a302bf"), looks := true }, kinds := [], alts := [], laidByText := true, laidKinds := [.data, .data, .data, .data, .data, .data, .data, .data, .sentinel, .sentinel, .pinned], laidTests := true, laidLooks := .later }
def VerbNamesCardSaid : Prop := Claim7.holds Tryd.pinned (.plain (OpenSpec.ofChange verbNamesSpec)) verbNamesCard

/-- THE TIED CARD OF 'echelonlaw07.VerbChecks'. -/
def verbChecksCard : Claim7 := { stood := { row := verbChecksRow, standIns := [], harness := (true, "7711daddcd6ebd4691307fd47c5928b38f16371076b2b19a7f9dbb6b50a302bf"), looks := true }, kinds := [], alts := [], laidByText := true, laidKinds := [.data, .data, .data, .data, .data, .data, .data, .sentinel, .sentinel, .pinned], laidTests := true, laidLooks := .later }
def VerbChecksCardSaid : Prop := Claim7.holds Tryd.pinned (.plain (OpenSpec.ofChange verbChecksSpec)) verbChecksCard

/-- THE TIED CARD OF 'echelonlaw07.VerbPrints'. -/
def verbPrintsCard : Claim7 := { stood := { row := verbPrintsRow, standIns := [], harness := (true, "7711daddcd6ebd4691307fd47c5928b38f16371076b2b19a7f9dbb6b50a302bf"), looks := true }, kinds := [], alts := [], laidByText := true, laidKinds := [.data, .data, .data, .data, .data, .data, .data, .data, .sentinel, .sentinel, .pinned], laidTests := true, laidLooks := .later }
def VerbPrintsCardSaid : Prop := Claim7.holds Tryd.pinned (.plain (OpenSpec.ofChange verbPrintsSpec)) verbPrintsCard

/-- THE TIED CARD OF 'echelonlaw07.VerbReads'. -/
def verbReadsCard : Claim7 := { stood := { row := verbReadsRow, standIns := [], harness := (true, "7711daddcd6ebd4691307fd47c5928b38f16371076b2b19a7f9dbb6b50a302bf"), looks := true }, kinds := [], alts := [], laidByText := true, laidKinds := [.data, .data, .data, .data, .data, .data, .data, .data, .sentinel, .sentinel, .pinned], laidTests := true, laidLooks := .later }
def VerbReadsCardSaid : Prop := Claim7.holds Tryd.pinned (.plain (OpenSpec.ofChange verbReadsSpec)) verbReadsCard

/-- THE TIED CARD OF 'echelonlaw07.VerbRanges'. -/
def verbRangesCard : Claim7 := { stood := { row := verbRangesRow, standIns := [], harness := (true, "7711daddcd6ebd4691307fd47c5928b38f16371076b2b19a7f9dbb6b50a302bf"), looks := true }, kinds := [], alts := [], laidByText := true, laidKinds := [.data, .data, .data, .data, .sentinel, .sentinel, .pinned], laidTests := true, laidLooks := .later }
def VerbRangesCardSaid : Prop := Claim7.holds Tryd.pinned (.plain (OpenSpec.ofChange verbRangesSpec)) verbRangesCard

/-- THE SECOND FORM's CARD OF 'echelonlaw07.VerbNames'. -/
def verbNamesUptoCard : Claim7 := { stood := { row := verbNamesUptoRow, standIns := [], harness := (true, "7711daddcd6ebd4691307fd47c5928b38f16371076b2b19a7f9dbb6b50a302bf"), looks := true }, kinds := [], alts := [], laidByText := true, laidKinds := [.data, .data, .data, .data, .data, .data, .data, .data, .sentinel, .sentinel, .pinned], laidTests := true, laidLooks := .later }
def VerbNamesUptoCardSaid : Prop := Claim7.holds Tryd.pinned (.plain (OpenSpec.upto verbNamesSpec)) verbNamesUptoCard

/-- THE SECOND FORM's CARD OF 'echelonlaw07.VerbChecks'. -/
def verbChecksUptoCard : Claim7 := { stood := { row := verbChecksUptoRow, standIns := [], harness := (true, "7711daddcd6ebd4691307fd47c5928b38f16371076b2b19a7f9dbb6b50a302bf"), looks := true }, kinds := [], alts := [], laidByText := true, laidKinds := [.data, .data, .data, .data, .data, .data, .data, .sentinel, .sentinel, .pinned], laidTests := true, laidLooks := .later }
def VerbChecksUptoCardSaid : Prop := Claim7.holds Tryd.pinned (.plain (OpenSpec.upto verbChecksSpec)) verbChecksUptoCard

/-- THE SECOND FORM's CARD OF 'echelonlaw07.VerbPrints'. -/
def verbPrintsUptoCard : Claim7 := { stood := { row := verbPrintsUptoRow, standIns := [], harness := (true, "7711daddcd6ebd4691307fd47c5928b38f16371076b2b19a7f9dbb6b50a302bf"), looks := true }, kinds := [], alts := [], laidByText := true, laidKinds := [.data, .data, .data, .data, .data, .data, .data, .data, .sentinel, .sentinel, .pinned], laidTests := true, laidLooks := .later }
def VerbPrintsUptoCardSaid : Prop := Claim7.holds Tryd.pinned (.plain (OpenSpec.upto verbPrintsSpec)) verbPrintsUptoCard

/-- THE SECOND FORM's CARD OF 'echelonlaw07.VerbReads'. -/
def verbReadsUptoCard : Claim7 := { stood := { row := verbReadsUptoRow, standIns := [], harness := (true, "7711daddcd6ebd4691307fd47c5928b38f16371076b2b19a7f9dbb6b50a302bf"), looks := true }, kinds := [], alts := [], laidByText := true, laidKinds := [.data, .data, .data, .data, .data, .data, .data, .data, .sentinel, .sentinel, .pinned], laidTests := true, laidLooks := .later }
def VerbReadsUptoCardSaid : Prop := Claim7.holds Tryd.pinned (.plain (OpenSpec.upto verbReadsSpec)) verbReadsUptoCard

/-- THE SECOND FORM's CARD OF 'echelonlaw07.VerbRanges'. -/
def verbRangesUptoCard : Claim7 := { stood := { row := verbRangesUptoRow, standIns := [], harness := (true, "7711daddcd6ebd4691307fd47c5928b38f16371076b2b19a7f9dbb6b50a302bf"), looks := true }, kinds := [], alts := [], laidByText := true, laidKinds := [.data, .data, .data, .data, .sentinel, .sentinel, .pinned], laidTests := true, laidLooks := .later }
def VerbRangesUptoCardSaid : Prop := Claim7.holds Tryd.pinned (.plain (OpenSpec.upto verbRangesSpec)) verbRangesUptoCard
end Rows
end Go.Proofs.YtlaehphhfeoklaaDoor
