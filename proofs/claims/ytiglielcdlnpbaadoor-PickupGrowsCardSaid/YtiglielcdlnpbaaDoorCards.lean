/-
  DERIVED. GIVEN WITH THE SEED: THE CARDS: each row of YtiglielcdlnpbaaDoorRows.lean that lists a variable, with what it lists TIED to the program's text (the seventh form; the later family's looks); each row that meets fmt, with fmt's text TOLD by the authors' own Lean function (tested against real Go, not proved from fmt's source: count such statements apart). THE CARD IS WHAT COUNTS. Prove the row's statement (the work); the ties are given (YtiglielcdlnpbaaDoorTie.lean); close each card by the builder's one call (the guide's Derived/Test/ToyasCard.lean, 'card_holds'). Laid BY PROGRAM, IN A SANDBOX (cutbox-door.mjs). By AI agents, Wed Nov 11 2026. No macro, syntax, notation, axiom, sorry.
-/
import Derived.Test.YtiglielcdlnpbaaDoorRows
import GoSem.ClaimSeven
namespace Go.Proofs.YtiglielcdlnpbaaDoor
namespace Rows

/-- THE TIED CARD OF 'echelonlaw10.PickupChecks'. -/
def pickupChecksCard : Claim7 := { stood := { row := pickupChecksRow, standIns := [], harness := (true, "42181f9c52f8ebfc5732c9423d9660917900600c67278af1b1c6b2d5c4ee7750"), looks := false }, kinds := [], alts := [], laidByText := true, laidKinds := [.data], laidTests := true, laidLooks := .later }
def PickupChecksCardSaid : Prop := Claim7.holds Tryd.pinned (.plain (OpenSpec.ofChange pickupChecksSpec)) pickupChecksCard

/-- THE TIED CARD OF 'echelonlaw10.PickupSpawns'. -/
def pickupSpawnsCard : Claim7 := { stood := { row := pickupSpawnsRow, standIns := [], harness := (true, "42181f9c52f8ebfc5732c9423d9660917900600c67278af1b1c6b2d5c4ee7750"), looks := false }, kinds := [], alts := [], laidByText := true, laidKinds := [.data], laidTests := true, laidLooks := .later }
def PickupSpawnsCardSaid : Prop := Claim7.holds Tryd.pinned (.plain (OpenSpec.ofChange pickupSpawnsSpec)) pickupSpawnsCard

/-- THE TIED CARD OF 'echelonlaw10.PickupTakes'. -/
def pickupTakesCard : Claim7 := { stood := { row := pickupTakesRow, standIns := [], harness := (true, "42181f9c52f8ebfc5732c9423d9660917900600c67278af1b1c6b2d5c4ee7750"), looks := false }, kinds := [], alts := [], laidByText := true, laidKinds := [.data], laidTests := true, laidLooks := .later }
def PickupTakesCardSaid : Prop := Claim7.holds Tryd.pinned (.plain (OpenSpec.ofChange pickupTakesSpec)) pickupTakesCard

/-- THE TIED CARD OF 'echelonlaw10.PickupGrows'. -/
def pickupGrowsCard : Claim7 := { stood := { row := pickupGrowsRow, standIns := [], harness := (true, "42181f9c52f8ebfc5732c9423d9660917900600c67278af1b1c6b2d5c4ee7750"), looks := false }, kinds := [], alts := [], laidByText := true, laidKinds := [.data], laidTests := true, laidLooks := .later }
def PickupGrowsCardSaid : Prop := Claim7.holds Tryd.pinned (.plain (OpenSpec.ofChange pickupGrowsSpec)) pickupGrowsCard

/-- THE TIED CARD OF 'echelonlaw10.PickupHelps'. -/
def pickupHelpsCard : Claim7 := { stood := { row := pickupHelpsRow, standIns := [], harness := (true, "42181f9c52f8ebfc5732c9423d9660917900600c67278af1b1c6b2d5c4ee7750"), looks := false }, kinds := [], alts := [], laidByText := true, laidKinds := [.data], laidTests := true, laidLooks := .later }
def PickupHelpsCardSaid : Prop := Claim7.holds Tryd.pinned (.plain (OpenSpec.ofChange pickupHelpsSpec)) pickupHelpsCard

/-- THE SECOND FORM's CARD OF 'echelonlaw10.PickupChecks'. -/
def pickupChecksUptoCard : Claim7 := { stood := { row := pickupChecksUptoRow, standIns := [], harness := (true, "42181f9c52f8ebfc5732c9423d9660917900600c67278af1b1c6b2d5c4ee7750"), looks := false }, kinds := [], alts := [], laidByText := true, laidKinds := [.data], laidTests := true, laidLooks := .later }
def PickupChecksUptoCardSaid : Prop := Claim7.holds Tryd.pinned (.plain (OpenSpec.upto pickupChecksSpec)) pickupChecksUptoCard

/-- THE SECOND FORM's CARD OF 'echelonlaw10.PickupSpawns'. -/
def pickupSpawnsUptoCard : Claim7 := { stood := { row := pickupSpawnsUptoRow, standIns := [], harness := (true, "42181f9c52f8ebfc5732c9423d9660917900600c67278af1b1c6b2d5c4ee7750"), looks := false }, kinds := [], alts := [], laidByText := true, laidKinds := [.data], laidTests := true, laidLooks := .later }
def PickupSpawnsUptoCardSaid : Prop := Claim7.holds Tryd.pinned (.plain (OpenSpec.upto pickupSpawnsSpec)) pickupSpawnsUptoCard

/-- THE SECOND FORM's CARD OF 'echelonlaw10.PickupTakes'. -/
def pickupTakesUptoCard : Claim7 := { stood := { row := pickupTakesUptoRow, standIns := [], harness := (true, "42181f9c52f8ebfc5732c9423d9660917900600c67278af1b1c6b2d5c4ee7750"), looks := false }, kinds := [], alts := [], laidByText := true, laidKinds := [.data], laidTests := true, laidLooks := .later }
def PickupTakesUptoCardSaid : Prop := Claim7.holds Tryd.pinned (.plain (OpenSpec.upto pickupTakesSpec)) pickupTakesUptoCard

/-- THE SECOND FORM's CARD OF 'echelonlaw10.PickupGrows'. -/
def pickupGrowsUptoCard : Claim7 := { stood := { row := pickupGrowsUptoRow, standIns := [], harness := (true, "42181f9c52f8ebfc5732c9423d9660917900600c67278af1b1c6b2d5c4ee7750"), looks := false }, kinds := [], alts := [], laidByText := true, laidKinds := [.data], laidTests := true, laidLooks := .later }
def PickupGrowsUptoCardSaid : Prop := Claim7.holds Tryd.pinned (.plain (OpenSpec.upto pickupGrowsSpec)) pickupGrowsUptoCard

/-- THE SECOND FORM's CARD OF 'echelonlaw10.PickupHelps'. -/
def pickupHelpsUptoCard : Claim7 := { stood := { row := pickupHelpsUptoRow, standIns := [], harness := (true, "42181f9c52f8ebfc5732c9423d9660917900600c67278af1b1c6b2d5c4ee7750"), looks := false }, kinds := [], alts := [], laidByText := true, laidKinds := [.data], laidTests := true, laidLooks := .later }
def PickupHelpsUptoCardSaid : Prop := Claim7.holds Tryd.pinned (.plain (OpenSpec.upto pickupHelpsSpec)) pickupHelpsUptoCard
end Rows
end Go.Proofs.YtiglielcdlnpbaaDoor
