/-
  DERIVED. GIVEN WITH THE SEED: THE CARDS: each row of YtkgbmefaphhcnaaGreatDoorRows.lean that lists a variable, with what it lists TIED to the program's text (the seventh form; the later family's looks); each row that meets fmt, with fmt's text TOLD by the authors' own Lean function (tested against real Go, not proved from fmt's source: count such statements apart). THE CARD IS WHAT COUNTS. Prove the row's statement (the work); the ties are given (YtkgbmefaphhcnaaGreatDoorTie.lean); close each card by the builder's one call (the guide's Derived/Test/ToyasCard.lean, 'card_holds'). Laid BY PROGRAM, IN A SANDBOX (cutbox-door.mjs). By AI agents, Wed Nov 11 2026. No macro, syntax, notation, axiom, sorry.
-/
import Derived.Test.YtkgbmefaphhcnaaGreatDoorRows
import GoSem.ClaimSeven
namespace Go.Proofs.YtkgbmefaphhcnaaGreatDoor
namespace Rows

/-- THE TIED CARD OF 'echelonlaw14.CloneCopies'. -/
def cloneCopiesCard : Claim7 := { stood := { row := cloneCopiesRow, standIns := [], harness := (true, "37663269b66eba7c11ca18fb6b34c667c67568006b313d3616ee58fc37fd0998"), looks := false }, kinds := [], alts := [], laidByText := true, laidKinds := [.data], laidTests := true, laidLooks := .later }
def CloneCopiesCardSaid : Prop := Claim7.holds Tryz.pinned (.plain (OpenSpec.ofChange cloneCopiesSpec)) cloneCopiesCard

/-- THE TIED CARD OF 'echelonlaw14.CloneBytes'. -/
def cloneBytesCard : Claim7 := { stood := { row := cloneBytesRow, standIns := [], harness := (true, "37663269b66eba7c11ca18fb6b34c667c67568006b313d3616ee58fc37fd0998"), looks := false }, kinds := [], alts := [], laidByText := true, laidKinds := [.data], laidTests := true, laidLooks := .later }
def CloneBytesCardSaid : Prop := Claim7.holds Tryz.pinned (.plain (OpenSpec.ofChange cloneBytesSpec)) cloneBytesCard

/-- THE TIED CARD OF 'echelonlaw14.CloneReads'. -/
def cloneReadsCard : Claim7 := { stood := { row := cloneReadsRow, standIns := [], harness := (true, "37663269b66eba7c11ca18fb6b34c667c67568006b313d3616ee58fc37fd0998"), looks := false }, kinds := [], alts := [], laidByText := true, laidKinds := [.data], laidTests := true, laidLooks := .later }
def CloneReadsCardSaid : Prop := Claim7.holds Tryz.pinned (.plain (OpenSpec.ofChange cloneReadsSpec)) cloneReadsCard

/-- THE SECOND FORM's CARD OF 'echelonlaw14.CloneCopies'. -/
def cloneCopiesUptoCard : Claim7 := { stood := { row := cloneCopiesUptoRow, standIns := [], harness := (true, "37663269b66eba7c11ca18fb6b34c667c67568006b313d3616ee58fc37fd0998"), looks := false }, kinds := [], alts := [], laidByText := true, laidKinds := [.data], laidTests := true, laidLooks := .later }
def CloneCopiesUptoCardSaid : Prop := Claim7.holds Tryz.pinned (.plain (OpenSpec.upto cloneCopiesSpec)) cloneCopiesUptoCard

/-- THE SECOND FORM's CARD OF 'echelonlaw14.CloneBytes'. -/
def cloneBytesUptoCard : Claim7 := { stood := { row := cloneBytesUptoRow, standIns := [], harness := (true, "37663269b66eba7c11ca18fb6b34c667c67568006b313d3616ee58fc37fd0998"), looks := false }, kinds := [], alts := [], laidByText := true, laidKinds := [.data], laidTests := true, laidLooks := .later }
def CloneBytesUptoCardSaid : Prop := Claim7.holds Tryz.pinned (.plain (OpenSpec.upto cloneBytesSpec)) cloneBytesUptoCard

/-- THE SECOND FORM's CARD OF 'echelonlaw14.CloneReads'. -/
def cloneReadsUptoCard : Claim7 := { stood := { row := cloneReadsUptoRow, standIns := [], harness := (true, "37663269b66eba7c11ca18fb6b34c667c67568006b313d3616ee58fc37fd0998"), looks := false }, kinds := [], alts := [], laidByText := true, laidKinds := [.data], laidTests := true, laidLooks := .later }
def CloneReadsUptoCardSaid : Prop := Claim7.holds Tryz.pinned (.plain (OpenSpec.upto cloneReadsSpec)) cloneReadsUptoCard
end Rows
end Go.Proofs.YtkgbmefaphhcnaaGreatDoor
