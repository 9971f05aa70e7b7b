/-
  DERIVED. GIVEN WITH THE SEED: THE CARDS: each row of YtonchpgmdnekpaaGreatDoorRows.lean that lists a variable, with what it lists TIED to the program's text (the seventh form; the later family's looks); each row that meets fmt, with fmt's text TOLD by the authors' own Lean function (tested against real Go, not proved from fmt's source: count such statements apart). THE CARD IS WHAT COUNTS. Prove the row's statement (the work); the ties are given (YtonchpgmdnekpaaGreatDoorTie.lean); close each card by the builder's one call (the guide's Derived/Test/ToyasCard.lean, 'card_holds'). Laid BY PROGRAM, IN A SANDBOX (cutbox-door.mjs). By AI agents, Wed Nov 11 2026. No macro, syntax, notation, axiom, sorry.
-/
import Derived.Test.YtonchpgmdnekpaaGreatDoorRows
import GoSem.ClaimSeven
namespace Go.Proofs.YtonchpgmdnekpaaGreatDoor
namespace Rows

/-- THE TIED CARD OF 'echelonlaw13.WorldChecks'. -/
def worldChecksCard : Claim7 := { stood := { row := worldChecksRow, standIns := [], harness := (true, "3842ab9c774d11f9f607003495d02ab3d61b4815b05bcd5e8b67cf696c4c0ecb"), looks := false }, kinds := [], alts := [], laidByText := true, laidKinds := [.data, .data], laidTests := true, laidLooks := .later }
def WorldChecksCardSaid : Prop := Claim7.holds Tryz.pinned (.plain (OpenSpec.ofChange worldChecksSpec)) worldChecksCard

/-- THE TIED CARD OF 'echelonlaw13.WorldFair'. -/
def worldFairCard : Claim7 := { stood := { row := worldFairRow, standIns := [], harness := (true, "3842ab9c774d11f9f607003495d02ab3d61b4815b05bcd5e8b67cf696c4c0ecb"), looks := false }, kinds := [], alts := [], laidByText := true, laidKinds := [.data, .data], laidTests := true, laidLooks := .later }
def WorldFairCardSaid : Prop := Claim7.holds Tryz.pinned (.plain (OpenSpec.ofChange worldFairSpec)) worldFairCard

/-- THE SECOND FORM's CARD OF 'echelonlaw13.WorldChecks'. -/
def worldChecksUptoCard : Claim7 := { stood := { row := worldChecksUptoRow, standIns := [], harness := (true, "3842ab9c774d11f9f607003495d02ab3d61b4815b05bcd5e8b67cf696c4c0ecb"), looks := false }, kinds := [], alts := [], laidByText := true, laidKinds := [.data, .data], laidTests := true, laidLooks := .later }
def WorldChecksUptoCardSaid : Prop := Claim7.holds Tryz.pinned (.plain (OpenSpec.upto worldChecksSpec)) worldChecksUptoCard

/-- THE SECOND FORM's CARD OF 'echelonlaw13.WorldFair'. -/
def worldFairUptoCard : Claim7 := { stood := { row := worldFairUptoRow, standIns := [], harness := (true, "3842ab9c774d11f9f607003495d02ab3d61b4815b05bcd5e8b67cf696c4c0ecb"), looks := false }, kinds := [], alts := [], laidByText := true, laidKinds := [.data, .data], laidTests := true, laidLooks := .later }
def WorldFairUptoCardSaid : Prop := Claim7.holds Tryz.pinned (.plain (OpenSpec.upto worldFairSpec)) worldFairUptoCard
end Rows
end Go.Proofs.YtonchpgmdnekpaaGreatDoor
