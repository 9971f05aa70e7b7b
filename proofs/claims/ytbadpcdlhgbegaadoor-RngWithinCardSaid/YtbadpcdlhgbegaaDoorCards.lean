/-
  DERIVED. GIVEN WITH THE SEED: THE CARDS: each row of YtbadpcdlhgbegaaDoorRows.lean that lists a variable, with what it lists TIED to the program's text (the seventh form; the later family's looks); each row that meets fmt, with fmt's text TOLD by the authors' own Lean function (tested against real Go, not proved from fmt's source: count such statements apart). THE CARD IS WHAT COUNTS. Prove the row's statement (the work); the ties are given (YtbadpcdlhgbegaaDoorTie.lean); close each card by the builder's one call (the guide's Derived/Test/ToyasCard.lean, 'card_holds'). Laid BY PROGRAM, IN A SANDBOX (cutbox-door.mjs). By AI agents, Wed Nov 11 2026. No macro, syntax, notation, axiom, sorry.
-/
import Derived.Test.YtbadpcdlhgbegaaDoorRows
import GoSem.ClaimSeven
namespace Go.Proofs.YtbadpcdlhgbegaaDoor
namespace Rows

/-- THE TIED CARD OF 'echelonlaw04.RngNumbers'. -/
def rngNumbersCard : Claim7 := { stood := { row := rngNumbersRow, standIns := [], harness := (true, "0ba6535bc7df22145452f9db963e006fa2849c2a0f33c31dbf380893a5ec6493"), looks := false }, kinds := [], alts := [], laidByText := true, laidKinds := [.data], laidTests := true, laidLooks := .later }
def RngNumbersCardSaid : Prop := Claim7.holds Tryd.pinned (.plain (OpenSpec.ofChange rngNumbersSpec)) rngNumbersCard

/-- THE TIED CARD OF 'echelonlaw04.RngWeighted'. -/
def rngWeightedCard : Claim7 := { stood := { row := rngWeightedRow, standIns := [], harness := (true, "0ba6535bc7df22145452f9db963e006fa2849c2a0f33c31dbf380893a5ec6493"), looks := false }, kinds := [], alts := [], laidByText := true, laidKinds := [.data], laidTests := true, laidLooks := .later }
def RngWeightedCardSaid : Prop := Claim7.holds Tryd.pinned (.plain (OpenSpec.ofChange rngWeightedSpec)) rngWeightedCard

/-- THE TIED CARD OF 'echelonlaw04.RngOrders'. -/
def rngOrdersCard : Claim7 := { stood := { row := rngOrdersRow, standIns := [], harness := (true, "0ba6535bc7df22145452f9db963e006fa2849c2a0f33c31dbf380893a5ec6493"), looks := false }, kinds := [], alts := [], laidByText := true, laidKinds := [.data], laidTests := true, laidLooks := .later }
def RngOrdersCardSaid : Prop := Claim7.holds Tryd.pinned (.plain (OpenSpec.ofChange rngOrdersSpec)) rngOrdersCard

/-- THE TIED CARD OF 'echelonlaw04.RngWithin'. -/
def rngWithinCard : Claim7 := { stood := { row := rngWithinRow, standIns := [], harness := (true, "0ba6535bc7df22145452f9db963e006fa2849c2a0f33c31dbf380893a5ec6493"), looks := false }, kinds := [], alts := [], laidByText := true, laidKinds := [.data], laidTests := true, laidLooks := .later }
def RngWithinCardSaid : Prop := Claim7.holds Tryd.pinned (.plain (OpenSpec.ofChange rngWithinSpec)) rngWithinCard

/-- THE TIED CARD OF 'echelonlaw04.RngOnce'. -/
def rngOnceCard : Claim7 := { stood := { row := rngOnceRow, standIns := [], harness := (true, "0ba6535bc7df22145452f9db963e006fa2849c2a0f33c31dbf380893a5ec6493"), looks := false }, kinds := [], alts := [], laidByText := true, laidKinds := [.data], laidTests := true, laidLooks := .later }
def RngOnceCardSaid : Prop := Claim7.holds Tryd.pinned (.plain (OpenSpec.ofChange rngOnceSpec)) rngOnceCard

/-- THE TIED CARD OF 'echelonlaw04.RngShifts'. -/
def rngShiftsCard : Claim7 := { stood := { row := rngShiftsRow, standIns := [], harness := (true, "0ba6535bc7df22145452f9db963e006fa2849c2a0f33c31dbf380893a5ec6493"), looks := false }, kinds := [], alts := [], laidByText := true, laidKinds := [.data], laidTests := true, laidLooks := .later }
def RngShiftsCardSaid : Prop := Claim7.holds Tryd.pinned (.plain (OpenSpec.ofChange rngShiftsSpec)) rngShiftsCard

/-- THE SECOND FORM's CARD OF 'echelonlaw04.RngNumbers'. -/
def rngNumbersUptoCard : Claim7 := { stood := { row := rngNumbersUptoRow, standIns := [], harness := (true, "0ba6535bc7df22145452f9db963e006fa2849c2a0f33c31dbf380893a5ec6493"), looks := false }, kinds := [], alts := [], laidByText := true, laidKinds := [.data], laidTests := true, laidLooks := .later }
def RngNumbersUptoCardSaid : Prop := Claim7.holds Tryd.pinned (.plain (OpenSpec.upto rngNumbersSpec)) rngNumbersUptoCard

/-- THE SECOND FORM's CARD OF 'echelonlaw04.RngWeighted'. -/
def rngWeightedUptoCard : Claim7 := { stood := { row := rngWeightedUptoRow, standIns := [], harness := (true, "0ba6535bc7df22145452f9db963e006fa2849c2a0f33c31dbf380893a5ec6493"), looks := false }, kinds := [], alts := [], laidByText := true, laidKinds := [.data], laidTests := true, laidLooks := .later }
def RngWeightedUptoCardSaid : Prop := Claim7.holds Tryd.pinned (.plain (OpenSpec.upto rngWeightedSpec)) rngWeightedUptoCard

/-- THE SECOND FORM's CARD OF 'echelonlaw04.RngOrders'. -/
def rngOrdersUptoCard : Claim7 := { stood := { row := rngOrdersUptoRow, standIns := [], harness := (true, "0ba6535bc7df22145452f9db963e006fa2849c2a0f33c31dbf380893a5ec6493"), looks := false }, kinds := [], alts := [], laidByText := true, laidKinds := [.data], laidTests := true, laidLooks := .later }
def RngOrdersUptoCardSaid : Prop := Claim7.holds Tryd.pinned (.plain (OpenSpec.upto rngOrdersSpec)) rngOrdersUptoCard

/-- THE SECOND FORM's CARD OF 'echelonlaw04.RngWithin'. -/
def rngWithinUptoCard : Claim7 := { stood := { row := rngWithinUptoRow, standIns := [], harness := (true, "0ba6535bc7df22145452f9db963e006fa2849c2a0f33c31dbf380893a5ec6493"), looks := false }, kinds := [], alts := [], laidByText := true, laidKinds := [.data], laidTests := true, laidLooks := .later }
def RngWithinUptoCardSaid : Prop := Claim7.holds Tryd.pinned (.plain (OpenSpec.upto rngWithinSpec)) rngWithinUptoCard

/-- THE SECOND FORM's CARD OF 'echelonlaw04.RngOnce'. -/
def rngOnceUptoCard : Claim7 := { stood := { row := rngOnceUptoRow, standIns := [], harness := (true, "0ba6535bc7df22145452f9db963e006fa2849c2a0f33c31dbf380893a5ec6493"), looks := false }, kinds := [], alts := [], laidByText := true, laidKinds := [.data], laidTests := true, laidLooks := .later }
def RngOnceUptoCardSaid : Prop := Claim7.holds Tryd.pinned (.plain (OpenSpec.upto rngOnceSpec)) rngOnceUptoCard

/-- THE SECOND FORM's CARD OF 'echelonlaw04.RngShifts'. -/
def rngShiftsUptoCard : Claim7 := { stood := { row := rngShiftsUptoRow, standIns := [], harness := (true, "0ba6535bc7df22145452f9db963e006fa2849c2a0f33c31dbf380893a5ec6493"), looks := false }, kinds := [], alts := [], laidByText := true, laidKinds := [.data], laidTests := true, laidLooks := .later }
def RngShiftsUptoCardSaid : Prop := Claim7.holds Tryd.pinned (.plain (OpenSpec.upto rngShiftsSpec)) rngShiftsUptoCard
end Rows
end Go.Proofs.YtbadpcdlhgbegaaDoor
