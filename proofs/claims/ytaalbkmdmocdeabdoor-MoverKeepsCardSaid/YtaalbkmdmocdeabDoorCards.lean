/-
  DERIVED. GIVEN WITH THE SEED: THE CARDS: each row of YtaalbkmdmocdeabDoorRows.lean that lists a variable, with what it lists TIED to the program's text (the seventh form; the later family's looks); each row that meets fmt, with fmt's text TOLD by the authors' own Lean function (tested against real Go, not proved from fmt's source: count such statements apart). THE CARD IS WHAT COUNTS. Prove the row's statement (the work); the ties are given (YtaalbkmdmocdeabDoorTie.lean); close each card by the builder's one call (the guide's Derived/Test/ToyasCard.lean, 'card_holds'). Laid BY PROGRAM, IN A SANDBOX (cutbox-door.mjs). By AI agents, Wed Nov 11 2026. No macro, syntax, notation, axiom, sorry.
-/
import Derived.Test.YtaalbkmdmocdeabDoorRows
import GoSem.ClaimSeven
namespace Go.Proofs.YtaalbkmdmocdeabDoor
namespace Rows

/-- THE TIED CARD OF 'echelonlaw08.MoverOut'. -/
def moverOutCard : Claim7 := { stood := { row := moverOutRow, standIns := [], harness := (true, "a2bc6a43ee645615367d44502f5b8375a234c4384e9790f1fa28ff28007602ef"), looks := false }, kinds := [], alts := [], laidByText := true, laidKinds := [.data], laidTests := true, laidLooks := .later }
def MoverOutCardSaid : Prop := Claim7.holds Tryd.pinned (.plain (OpenSpec.ofChange moverOutSpec)) moverOutCard

/-- THE TIED CARD OF 'echelonlaw08.MoverKeeps'. -/
def moverKeepsCard : Claim7 := { stood := { row := moverKeepsRow, standIns := [], harness := (true, "a2bc6a43ee645615367d44502f5b8375a234c4384e9790f1fa28ff28007602ef"), looks := false }, kinds := [], alts := [], laidByText := true, laidKinds := [.data], laidTests := true, laidLooks := .later }
def MoverKeepsCardSaid : Prop := Claim7.holds Tryd.pinned (.plain (OpenSpec.ofChange moverKeepsSpec)) moverKeepsCard

/-- THE SECOND FORM's CARD OF 'echelonlaw08.MoverOut'. -/
def moverOutUptoCard : Claim7 := { stood := { row := moverOutUptoRow, standIns := [], harness := (true, "a2bc6a43ee645615367d44502f5b8375a234c4384e9790f1fa28ff28007602ef"), looks := false }, kinds := [], alts := [], laidByText := true, laidKinds := [.data], laidTests := true, laidLooks := .later }
def MoverOutUptoCardSaid : Prop := Claim7.holds Tryd.pinned (.plain (OpenSpec.upto moverOutSpec)) moverOutUptoCard

/-- THE SECOND FORM's CARD OF 'echelonlaw08.MoverKeeps'. -/
def moverKeepsUptoCard : Claim7 := { stood := { row := moverKeepsUptoRow, standIns := [], harness := (true, "a2bc6a43ee645615367d44502f5b8375a234c4384e9790f1fa28ff28007602ef"), looks := false }, kinds := [], alts := [], laidByText := true, laidKinds := [.data], laidTests := true, laidLooks := .later }
def MoverKeepsUptoCardSaid : Prop := Claim7.holds Tryd.pinned (.plain (OpenSpec.upto moverKeepsSpec)) moverKeepsUptoCard
end Rows
end Go.Proofs.YtaalbkmdmocdeabDoor
