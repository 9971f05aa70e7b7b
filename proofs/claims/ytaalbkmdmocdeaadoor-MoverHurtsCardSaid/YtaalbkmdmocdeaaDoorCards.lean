/-
  DERIVED. GIVEN WITH THE SEED: THE CARDS: each row of YtaalbkmdmocdeaaDoorRows.lean that lists a variable, with what it lists TIED to the program's text (the seventh form; the later family's looks); each row that meets fmt, with fmt's text TOLD by the authors' own Lean function (tested against real Go, not proved from fmt's source: count such statements apart). THE CARD IS WHAT COUNTS. Prove the row's statement (the work); the ties are given (YtaalbkmdmocdeaaDoorTie.lean); close each card by the builder's one call (the guide's Derived/Test/ToyasCard.lean, 'card_holds'). Laid BY PROGRAM, IN A SANDBOX (cutbox-door.mjs). By AI agents, Wed Nov 11 2026. No macro, syntax, notation, axiom, sorry.
-/
import Derived.Test.YtaalbkmdmocdeaaDoorRows
import GoSem.ClaimSeven
namespace Go.Proofs.YtaalbkmdmocdeaaDoor
namespace Rows

/-- THE TIED CARD OF 'echelonlaw08.MoverStarts'. -/
def moverStartsCard : Claim7 := { stood := { row := moverStartsRow, standIns := [], harness := (true, "78d056590cbbf0d2193976dcbdbd550837287727610bade4cbab8b8f9950cf2c"), looks := false }, kinds := [], alts := [], laidByText := true, laidKinds := [.data], laidTests := true, laidLooks := .later }
def MoverStartsCardSaid : Prop := Claim7.holds Tryd.pinned (.plain (OpenSpec.ofChange moverStartsSpec)) moverStartsCard

/-- THE TIED CARD OF 'echelonlaw08.MoverActs'. -/
def moverActsCard : Claim7 := { stood := { row := moverActsRow, standIns := [], harness := (true, "78d056590cbbf0d2193976dcbdbd550837287727610bade4cbab8b8f9950cf2c"), looks := false }, kinds := [], alts := [], laidByText := true, laidKinds := [.data, .data, .data, .data, .data, .data], laidTests := true, laidLooks := .later }
def MoverActsCardSaid : Prop := Claim7.holds Tryd.pinned (.plain (OpenSpec.ofChange moverActsSpec)) moverActsCard

/-- THE TIED CARD OF 'echelonlaw08.MoverGlides'. -/
def moverGlidesCard : Claim7 := { stood := { row := moverGlidesRow, standIns := [], harness := (true, "78d056590cbbf0d2193976dcbdbd550837287727610bade4cbab8b8f9950cf2c"), looks := false }, kinds := [], alts := [], laidByText := true, laidKinds := [.data], laidTests := true, laidLooks := .later }
def MoverGlidesCardSaid : Prop := Claim7.holds Tryd.pinned (.plain (OpenSpec.ofChange moverGlidesSpec)) moverGlidesCard

/-- THE TIED CARD OF 'echelonlaw08.MoverHurts'. -/
def moverHurtsCard : Claim7 := { stood := { row := moverHurtsRow, standIns := [], harness := (true, "78d056590cbbf0d2193976dcbdbd550837287727610bade4cbab8b8f9950cf2c"), looks := false }, kinds := [], alts := [], laidByText := true, laidKinds := [.data], laidTests := true, laidLooks := .later }
def MoverHurtsCardSaid : Prop := Claim7.holds Tryd.pinned (.plain (OpenSpec.ofChange moverHurtsSpec)) moverHurtsCard

/-- THE TIED CARD OF 'echelonlaw08.MoverRests'. -/
def moverRestsCard : Claim7 := { stood := { row := moverRestsRow, standIns := [], harness := (true, "78d056590cbbf0d2193976dcbdbd550837287727610bade4cbab8b8f9950cf2c"), looks := false }, kinds := [], alts := [], laidByText := true, laidKinds := [.data], laidTests := true, laidLooks := .later }
def MoverRestsCardSaid : Prop := Claim7.holds Tryd.pinned (.plain (OpenSpec.ofChange moverRestsSpec)) moverRestsCard

/-- THE TIED CARD OF 'echelonlaw08.MoverMay'. -/
def moverMayCard : Claim7 := { stood := { row := moverMayRow, standIns := [], harness := (true, "78d056590cbbf0d2193976dcbdbd550837287727610bade4cbab8b8f9950cf2c"), looks := false }, kinds := [], alts := [], laidByText := true, laidKinds := [.data], laidTests := true, laidLooks := .later }
def MoverMayCardSaid : Prop := Claim7.holds Tryd.pinned (.plain (OpenSpec.ofChange moverMaySpec)) moverMayCard

/-- THE SECOND FORM's CARD OF 'echelonlaw08.MoverStarts'. -/
def moverStartsUptoCard : Claim7 := { stood := { row := moverStartsUptoRow, standIns := [], harness := (true, "78d056590cbbf0d2193976dcbdbd550837287727610bade4cbab8b8f9950cf2c"), looks := false }, kinds := [], alts := [], laidByText := true, laidKinds := [.data], laidTests := true, laidLooks := .later }
def MoverStartsUptoCardSaid : Prop := Claim7.holds Tryd.pinned (.plain (OpenSpec.upto moverStartsSpec)) moverStartsUptoCard

/-- THE SECOND FORM's CARD OF 'echelonlaw08.MoverActs'. -/
def moverActsUptoCard : Claim7 := { stood := { row := moverActsUptoRow, standIns := [], harness := (true, "78d056590cbbf0d2193976dcbdbd550837287727610bade4cbab8b8f9950cf2c"), looks := false }, kinds := [], alts := [], laidByText := true, laidKinds := [.data, .data, .data, .data, .data, .data], laidTests := true, laidLooks := .later }
def MoverActsUptoCardSaid : Prop := Claim7.holds Tryd.pinned (.plain (OpenSpec.upto moverActsSpec)) moverActsUptoCard

/-- THE SECOND FORM's CARD OF 'echelonlaw08.MoverGlides'. -/
def moverGlidesUptoCard : Claim7 := { stood := { row := moverGlidesUptoRow, standIns := [], harness := (true, "78d056590cbbf0d2193976dcbdbd550837287727610bade4cbab8b8f9950cf2c"), looks := false }, kinds := [], alts := [], laidByText := true, laidKinds := [.data], laidTests := true, laidLooks := .later }
def MoverGlidesUptoCardSaid : Prop := Claim7.holds Tryd.pinned (.plain (OpenSpec.upto moverGlidesSpec)) moverGlidesUptoCard

/-- THE SECOND FORM's CARD OF 'echelonlaw08.MoverHurts'. -/
def moverHurtsUptoCard : Claim7 := { stood := { row := moverHurtsUptoRow, standIns := [], harness := (true, "78d056590cbbf0d2193976dcbdbd550837287727610bade4cbab8b8f9950cf2c"), looks := false }, kinds := [], alts := [], laidByText := true, laidKinds := [.data], laidTests := true, laidLooks := .later }
def MoverHurtsUptoCardSaid : Prop := Claim7.holds Tryd.pinned (.plain (OpenSpec.upto moverHurtsSpec)) moverHurtsUptoCard

/-- THE SECOND FORM's CARD OF 'echelonlaw08.MoverRests'. -/
def moverRestsUptoCard : Claim7 := { stood := { row := moverRestsUptoRow, standIns := [], harness := (true, "78d056590cbbf0d2193976dcbdbd550837287727610bade4cbab8b8f9950cf2c"), looks := false }, kinds := [], alts := [], laidByText := true, laidKinds := [.data], laidTests := true, laidLooks := .later }
def MoverRestsUptoCardSaid : Prop := Claim7.holds Tryd.pinned (.plain (OpenSpec.upto moverRestsSpec)) moverRestsUptoCard

/-- THE SECOND FORM's CARD OF 'echelonlaw08.MoverMay'. -/
def moverMayUptoCard : Claim7 := { stood := { row := moverMayUptoRow, standIns := [], harness := (true, "78d056590cbbf0d2193976dcbdbd550837287727610bade4cbab8b8f9950cf2c"), looks := false }, kinds := [], alts := [], laidByText := true, laidKinds := [.data], laidTests := true, laidLooks := .later }
def MoverMayUptoCardSaid : Prop := Claim7.holds Tryd.pinned (.plain (OpenSpec.upto moverMaySpec)) moverMayUptoCard
end Rows
end Go.Proofs.YtaalbkmdmocdeaaDoor
