/-
  DERIVED. GIVEN WITH THE SEED: THE CARDS: each row of YtnbofjaecchnaaaDoorRows.lean that lists a variable, with what it lists TIED to the program's text (the seventh form; the later family's looks); each row that meets fmt, with fmt's text TOLD by the authors' own Lean function (tested against real Go, not proved from fmt's source: count such statements apart). THE CARD IS WHAT COUNTS. Prove the row's statement (the work); the ties are given (YtnbofjaecchnaaaDoorTie.lean); close each card by the builder's one call (the guide's Derived/Test/ToyasCard.lean, 'card_holds'). Laid BY PROGRAM, IN A SANDBOX (cutbox-door.mjs). By AI agents, Wed Nov 11 2026. No macro, syntax, notation, axiom, sorry.
-/
import Derived.Test.YtnbofjaecchnaaaDoorRows
import GoSem.ClaimSeven
namespace Go.Proofs.YtnbofjaecchnaaaDoor
namespace Rows

/-- THE TIED CARD OF 'echelonlaw18.LinkDoes'. -/
def linkDoesCard : Claim7 := { stood := { row := linkDoesRow, standIns := [], harness := (true, "7521c69c73026cd0bbeca983be34674f956b3f7ecf395ae3befbd0bed7b76a8e"), looks := true }, kinds := [], alts := [], laidByText := true, laidKinds := [.data, .data, .data], laidTests := true, laidLooks := .later }
def LinkDoesCardSaid : Prop := Claim7.holds Tryd.pinned (.plain (OpenSpec.ofChange linkDoesSpec)) linkDoesCard

/-- THE TIED CARD OF 'echelonlaw18.LinkRefuses'. -/
def linkRefusesCard : Claim7 := { stood := { row := linkRefusesRow, standIns := [], harness := (true, "7521c69c73026cd0bbeca983be34674f956b3f7ecf395ae3befbd0bed7b76a8e"), looks := true }, kinds := [], alts := [], laidByText := true, laidKinds := [.data, .data, .data], laidTests := true, laidLooks := .later }
def LinkRefusesCardSaid : Prop := Claim7.holds Tryd.pinned (.plain (OpenSpec.ofChange linkRefusesSpec)) linkRefusesCard

/-- THE SECOND FORM's CARD OF 'echelonlaw18.LinkDoes'. -/
def linkDoesUptoCard : Claim7 := { stood := { row := linkDoesUptoRow, standIns := [], harness := (true, "7521c69c73026cd0bbeca983be34674f956b3f7ecf395ae3befbd0bed7b76a8e"), looks := true }, kinds := [], alts := [], laidByText := true, laidKinds := [.data, .data, .data], laidTests := true, laidLooks := .later }
def LinkDoesUptoCardSaid : Prop := Claim7.holds Tryd.pinned (.plain (OpenSpec.upto linkDoesSpec)) linkDoesUptoCard

/-- THE SECOND FORM's CARD OF 'echelonlaw18.LinkRefuses'. -/
def linkRefusesUptoCard : Claim7 := { stood := { row := linkRefusesUptoRow, standIns := [], harness := (true, "7521c69c73026cd0bbeca983be34674f956b3f7ecf395ae3befbd0bed7b76a8e"), looks := true }, kinds := [], alts := [], laidByText := true, laidKinds := [.data, .data, .data], laidTests := true, laidLooks := .later }
def LinkRefusesUptoCardSaid : Prop := Claim7.holds Tryd.pinned (.plain (OpenSpec.upto linkRefusesSpec)) linkRefusesUptoCard
end Rows
end Go.Proofs.YtnbofjaecchnaaaDoor
