/-
  DERIVED. GIVEN WITH THE SEED: THE CARDS: each row of YtkmkbglamgkkpabDoorRows.lean that lists a variable, with what it lists TIED to the program's text (the seventh form; the later family's looks); each row that meets fmt, with fmt's text TOLD by the authors' own Lean function (tested against real Go, not proved from fmt's source: count such statements apart). THE CARD IS WHAT COUNTS. Prove the row's statement (the work); the ties are given (YtkmkbglamgkkpabDoorTie.lean); close each card by the builder's one call (the guide's Derived/Test/ToyasCard.lean, 'card_holds'). Laid BY PROGRAM, IN A SANDBOX (cutbox-door.mjs). By AI agents, Wed Nov 11 2026. No macro, syntax, notation, axiom, sorry.
-/
import Derived.Test.YtkmkbglamgkkpabDoorRows
import GoSem.ClaimSeven
namespace Go.Proofs.YtkmkbglamgkkpabDoor
namespace Rows

/-- THE TIED CARD OF 'echelonlaw05.GeomMeets'. -/
def geomMeetsCard : Claim7 := { stood := { row := geomMeetsRow, standIns := [], harness := (true, "0e624ffd40340787d798c6446266c727e4f3008ba22171699c37876629fb2abc"), looks := false }, kinds := [], alts := [], laidByText := true, laidKinds := [.data], laidTests := true, laidLooks := .later }
def GeomMeetsCardSaid : Prop := Claim7.holds Tryd.pinned (.plain (OpenSpec.ofChange geomMeetsSpec)) geomMeetsCard

/-- THE TIED CARD OF 'echelonlaw05.GeomAdds'. -/
def geomAddsCard : Claim7 := { stood := { row := geomAddsRow, standIns := [], harness := (true, "0e624ffd40340787d798c6446266c727e4f3008ba22171699c37876629fb2abc"), looks := false }, kinds := [], alts := [], laidByText := true, laidKinds := [.data], laidTests := true, laidLooks := .later }
def GeomAddsCardSaid : Prop := Claim7.holds Tryd.pinned (.plain (OpenSpec.ofChange geomAddsSpec)) geomAddsCard

/-- THE SECOND FORM's CARD OF 'echelonlaw05.GeomMeets'. -/
def geomMeetsUptoCard : Claim7 := { stood := { row := geomMeetsUptoRow, standIns := [], harness := (true, "0e624ffd40340787d798c6446266c727e4f3008ba22171699c37876629fb2abc"), looks := false }, kinds := [], alts := [], laidByText := true, laidKinds := [.data], laidTests := true, laidLooks := .later }
def GeomMeetsUptoCardSaid : Prop := Claim7.holds Tryd.pinned (.plain (OpenSpec.upto geomMeetsSpec)) geomMeetsUptoCard

/-- THE SECOND FORM's CARD OF 'echelonlaw05.GeomAdds'. -/
def geomAddsUptoCard : Claim7 := { stood := { row := geomAddsUptoRow, standIns := [], harness := (true, "0e624ffd40340787d798c6446266c727e4f3008ba22171699c37876629fb2abc"), looks := false }, kinds := [], alts := [], laidByText := true, laidKinds := [.data], laidTests := true, laidLooks := .later }
def GeomAddsUptoCardSaid : Prop := Claim7.holds Tryd.pinned (.plain (OpenSpec.upto geomAddsSpec)) geomAddsUptoCard
end Rows
end Go.Proofs.YtkmkbglamgkkpabDoor
