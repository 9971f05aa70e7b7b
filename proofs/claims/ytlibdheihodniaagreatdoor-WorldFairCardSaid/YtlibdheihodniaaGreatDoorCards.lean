/-
  DERIVED. GIVEN WITH THE SEED: THE CARDS: each row of YtlibdheihodniaaGreatDoorRows.lean that lists a variable, with what it lists TIED to the program's text (the seventh form; the later family's looks); each row that meets fmt, with fmt's text TOLD by the authors' own Lean function (tested against real Go, not proved from fmt's source: count such statements apart). THE CARD IS WHAT COUNTS. Prove the row's statement (the work); the ties are given (YtlibdheihodniaaGreatDoorTie.lean); close each card by the builder's one call (the guide's Derived/Test/ToyasCard.lean, 'card_holds'). Laid BY PROGRAM, IN A SANDBOX (cutbox-door.mjs). By AI agents, Wed Nov 11 2026. No macro, syntax, notation, axiom, sorry.
-/
import Derived.Test.YtlibdheihodniaaGreatDoorRows
import GoSem.ClaimSeven
namespace Go.Proofs.YtlibdheihodniaaGreatDoor
namespace Rows

/-- THE TIED CARD OF 'echelonlaw13.WorldFair'. -/
def worldFairCard : Claim7 := { stood := { row := worldFairRow, standIns := [], harness := (true, "24ea1f86284f5429127cbf3e39f30df34d3183b37d01e6442caf470ed96fb448"), looks := false }, kinds := [], alts := [], laidByText := true, laidKinds := [.data, .data], laidTests := true, laidLooks := .later }
def WorldFairCardSaid : Prop := Claim7.holds Tryz.pinned (.plain (OpenSpec.ofChange worldFairSpec)) worldFairCard

/-- THE TIED CARD OF 'echelonlaw13.WorldAnew'. -/
def worldAnewCard : Claim7 := { stood := { row := worldAnewRow, standIns := [], harness := (true, "24ea1f86284f5429127cbf3e39f30df34d3183b37d01e6442caf470ed96fb448"), looks := false }, kinds := [], alts := [], laidByText := true, laidKinds := [.data, .data], laidTests := true, laidLooks := .later }
def WorldAnewCardSaid : Prop := Claim7.holds Tryz.pinned (.plain (OpenSpec.ofChange worldAnewSpec)) worldAnewCard

/-- THE SECOND FORM's CARD OF 'echelonlaw13.WorldFair'. -/
def worldFairUptoCard : Claim7 := { stood := { row := worldFairUptoRow, standIns := [], harness := (true, "24ea1f86284f5429127cbf3e39f30df34d3183b37d01e6442caf470ed96fb448"), looks := false }, kinds := [], alts := [], laidByText := true, laidKinds := [.data, .data], laidTests := true, laidLooks := .later }
def WorldFairUptoCardSaid : Prop := Claim7.holds Tryz.pinned (.plain (OpenSpec.upto worldFairSpec)) worldFairUptoCard

/-- THE SECOND FORM's CARD OF 'echelonlaw13.WorldAnew'. -/
def worldAnewUptoCard : Claim7 := { stood := { row := worldAnewUptoRow, standIns := [], harness := (true, "24ea1f86284f5429127cbf3e39f30df34d3183b37d01e6442caf470ed96fb448"), looks := false }, kinds := [], alts := [], laidByText := true, laidKinds := [.data, .data], laidTests := true, laidLooks := .later }
def WorldAnewUptoCardSaid : Prop := Claim7.holds Tryz.pinned (.plain (OpenSpec.upto worldAnewSpec)) worldAnewUptoCard
end Rows
end Go.Proofs.YtlibdheihodniaaGreatDoor
