/-
  DERIVED. GIVEN WITH THE SEED: THE CARDS: each row of YtaaongbdincimaaDoorRows.lean that lists a variable, with what it lists TIED to the program's text (the seventh form; the later family's looks); each row that meets fmt, with fmt's text TOLD by the authors' own Lean function (tested against real Go, not proved from fmt's source: count such statements apart). THE CARD IS WHAT COUNTS. Prove the row's statement (the work); the ties are given (YtaaongbdincimaaDoorTie.lean); close each card by the builder's one call (the guide's Derived/Test/ToyasCard.lean, 'card_holds'). Laid BY PROGRAM, IN A SANDBOX (cutbox-door.mjs). By AI agents, Wed Nov 11 2026. No macro, syntax, notation, axiom, sorry.
-/
import Derived.Test.YtaaongbdincimaaDoorRows
import GoSem.ClaimSeven
namespace Go.Proofs.YtaaongbdincimaaDoor
namespace Rows

/-- THE TIED CARD OF 'echelonlaw16.WireBack'. -/
def wireBackCard : Claim7 := { stood := { row := wireBackRow, standIns := [], harness := (true, "bd252a878c94fbdf4335ded9fa6bb1f7cc6c70f6ef21fc61841e5e586fa053a2"), looks := true }, kinds := [], alts := [], laidByText := true, laidKinds := [.data, .sentinel, .sentinel, .sentinel], laidTests := true, laidLooks := .later }
def WireBackCardSaid : Prop := Claim7.holds Tryd.pinned (.plain (OpenSpec.ofChange wireBackSpec)) wireBackCard

/-- THE TIED CARD OF 'echelonlaw16.WireOneForm'. -/
def wireOneFormCard : Claim7 := { stood := { row := wireOneFormRow, standIns := [], harness := (true, "bd252a878c94fbdf4335ded9fa6bb1f7cc6c70f6ef21fc61841e5e586fa053a2"), looks := true }, kinds := [], alts := [], laidByText := true, laidKinds := [.data, .sentinel, .sentinel, .sentinel], laidTests := true, laidLooks := .later }
def WireOneFormCardSaid : Prop := Claim7.holds Tryd.pinned (.plain (OpenSpec.ofChange wireOneFormSpec)) wireOneFormCard

/-- THE SECOND FORM's CARD OF 'echelonlaw16.WireBack'. -/
def wireBackUptoCard : Claim7 := { stood := { row := wireBackUptoRow, standIns := [], harness := (true, "bd252a878c94fbdf4335ded9fa6bb1f7cc6c70f6ef21fc61841e5e586fa053a2"), looks := true }, kinds := [], alts := [], laidByText := true, laidKinds := [.data, .sentinel, .sentinel, .sentinel], laidTests := true, laidLooks := .later }
def WireBackUptoCardSaid : Prop := Claim7.holds Tryd.pinned (.plain (OpenSpec.upto wireBackSpec)) wireBackUptoCard

/-- THE SECOND FORM's CARD OF 'echelonlaw16.WireOneForm'. -/
def wireOneFormUptoCard : Claim7 := { stood := { row := wireOneFormUptoRow, standIns := [], harness := (true, "bd252a878c94fbdf4335ded9fa6bb1f7cc6c70f6ef21fc61841e5e586fa053a2"), looks := true }, kinds := [], alts := [], laidByText := true, laidKinds := [.data, .sentinel, .sentinel, .sentinel], laidTests := true, laidLooks := .later }
def WireOneFormUptoCardSaid : Prop := Claim7.holds Tryd.pinned (.plain (OpenSpec.upto wireOneFormSpec)) wireOneFormUptoCard
end Rows
end Go.Proofs.YtaaongbdincimaaDoor
