/-
  DERIVED. GIVEN WITH THE SEED: THE CARDS: each row of YtdmlgbcgbddkoaaGreatDoorRows.lean that lists a variable, with what it lists TIED to the program's text (the seventh form; the later family's looks); each row that meets fmt, with fmt's text TOLD by the authors' own Lean function (tested against real Go, not proved from fmt's source: count such statements apart). THE CARD IS WHAT COUNTS. Prove the row's statement (the work); the ties are given (YtdmlgbcgbddkoaaGreatDoorTie.lean); close each card by the builder's one call (the guide's Derived/Test/ToyasCard.lean, 'card_holds'). Laid BY PROGRAM, IN A SANDBOX (cutbox-door.mjs). By AI agents, Wed Nov 11 2026. No macro, syntax, notation, axiom, sorry.
-/
import Derived.Test.YtdmlgbcgbddkoaaGreatDoorRows
import GoSem.ClaimSeven
namespace Go.Proofs.YtdmlgbcgbddkoaaGreatDoor
namespace Rows

/-- THE TIED CARD OF 'echelonlaw14.CloneBack'. -/
def cloneBackCard : Claim7 := { stood := { row := cloneBackRow, standIns := [], harness := (true, "5d16f2a25a4cff1c7a546080f1a606f2c95d3cad9565aaa53b5388a9de539715"), looks := false }, kinds := [], alts := [], laidByText := true, laidKinds := [.data], laidTests := true, laidLooks := .later }
def CloneBackCardSaid : Prop := Claim7.holds Tryz.pinned (.plain (OpenSpec.ofChange cloneBackSpec)) cloneBackCard

/-- THE TIED CARD OF 'echelonlaw14.CloneAlike'. -/
def cloneAlikeCard : Claim7 := { stood := { row := cloneAlikeRow, standIns := [], harness := (true, "5d16f2a25a4cff1c7a546080f1a606f2c95d3cad9565aaa53b5388a9de539715"), looks := false }, kinds := [], alts := [], laidByText := true, laidKinds := [.data], laidTests := true, laidLooks := .later }
def CloneAlikeCardSaid : Prop := Claim7.holds Tryz.pinned (.plain (OpenSpec.ofChange cloneAlikeSpec)) cloneAlikeCard

/-- THE TIED CARD OF 'echelonlaw14.CloneCut'. -/
def cloneCutCard : Claim7 := { stood := { row := cloneCutRow, standIns := [], harness := (true, "5d16f2a25a4cff1c7a546080f1a606f2c95d3cad9565aaa53b5388a9de539715"), looks := false }, kinds := [], alts := [], laidByText := true, laidKinds := [.data], laidTests := true, laidLooks := .later }
def CloneCutCardSaid : Prop := Claim7.holds Tryz.pinned (.plain (OpenSpec.ofChange cloneCutSpec)) cloneCutCard

/-- THE SECOND FORM's CARD OF 'echelonlaw14.CloneBack'. -/
def cloneBackUptoCard : Claim7 := { stood := { row := cloneBackUptoRow, standIns := [], harness := (true, "5d16f2a25a4cff1c7a546080f1a606f2c95d3cad9565aaa53b5388a9de539715"), looks := false }, kinds := [], alts := [], laidByText := true, laidKinds := [.data], laidTests := true, laidLooks := .later }
def CloneBackUptoCardSaid : Prop := Claim7.holds Tryz.pinned (.plain (OpenSpec.upto cloneBackSpec)) cloneBackUptoCard

/-- THE SECOND FORM's CARD OF 'echelonlaw14.CloneAlike'. -/
def cloneAlikeUptoCard : Claim7 := { stood := { row := cloneAlikeUptoRow, standIns := [], harness := (true, "5d16f2a25a4cff1c7a546080f1a606f2c95d3cad9565aaa53b5388a9de539715"), looks := false }, kinds := [], alts := [], laidByText := true, laidKinds := [.data], laidTests := true, laidLooks := .later }
def CloneAlikeUptoCardSaid : Prop := Claim7.holds Tryz.pinned (.plain (OpenSpec.upto cloneAlikeSpec)) cloneAlikeUptoCard

/-- THE SECOND FORM's CARD OF 'echelonlaw14.CloneCut'. -/
def cloneCutUptoCard : Claim7 := { stood := { row := cloneCutUptoRow, standIns := [], harness := (true, "5d16f2a25a4cff1c7a546080f1a606f2c95d3cad9565aaa53b5388a9de539715"), looks := false }, kinds := [], alts := [], laidByText := true, laidKinds := [.data], laidTests := true, laidLooks := .later }
def CloneCutUptoCardSaid : Prop := Claim7.holds Tryz.pinned (.plain (OpenSpec.upto cloneCutSpec)) cloneCutUptoCard
end Rows
end Go.Proofs.YtdmlgbcgbddkoaaGreatDoor
