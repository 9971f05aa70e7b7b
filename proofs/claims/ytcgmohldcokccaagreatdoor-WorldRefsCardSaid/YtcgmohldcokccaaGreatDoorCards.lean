/-
  DERIVED. GIVEN WITH THE SEED: THE CARDS: each row of YtcgmohldcokccaaGreatDoorRows.lean that lists a variable, with what it lists TIED to the program's text (the seventh form; the later family's looks); each row that meets fmt, with fmt's text TOLD by the authors' own Lean function (tested against real Go, not proved from fmt's source: count such statements apart). THE CARD IS WHAT COUNTS. Prove the row's statement (the work); the ties are given (YtcgmohldcokccaaGreatDoorTie.lean); close each card by the builder's one call (the guide's Derived/Test/ToyasCard.lean, 'card_holds'). Laid BY PROGRAM, IN A SANDBOX (cutbox-door.mjs). By AI agents, Wed Nov 11 2026. No macro, syntax, notation, axiom, sorry.
-/
import Derived.Test.YtcgmohldcokccaaGreatDoorRows
import GoSem.ClaimSeven
namespace Go.Proofs.YtcgmohldcokccaaGreatDoor
namespace Rows

/-- THE TIED CARD OF 'echelonlaw13.WorldSteps'. -/
def worldStepsCard : Claim7 := { stood := { row := worldStepsRow, standIns := [], harness := (true, "b79cc6cad5296935730c5bffab9284bd2e4dea2fc6a2947c628f26c1b2191912"), looks := false }, kinds := [], alts := [], laidByText := true, laidKinds := [.data, .data, .data, .data, .data, .data, .data], laidTests := true, laidLooks := .later }
def WorldStepsCardSaid : Prop := Claim7.holds Tryz.pinned (.plain (OpenSpec.ofChange worldStepsSpec)) worldStepsCard

/-- THE TIED CARD OF 'echelonlaw13.WorldRuns'. -/
def worldRunsCard : Claim7 := { stood := { row := worldRunsRow, standIns := [], harness := (true, "b79cc6cad5296935730c5bffab9284bd2e4dea2fc6a2947c628f26c1b2191912"), looks := false }, kinds := [], alts := [], laidByText := true, laidKinds := [.data, .data, .data, .data, .data, .data, .data], laidTests := true, laidLooks := .later }
def WorldRunsCardSaid : Prop := Claim7.holds Tryz.pinned (.plain (OpenSpec.ofChange worldRunsSpec)) worldRunsCard

/-- THE TIED CARD OF 'echelonlaw13.WorldRefs'. -/
def worldRefsCard : Claim7 := { stood := { row := worldRefsRow, standIns := [], harness := (true, "b79cc6cad5296935730c5bffab9284bd2e4dea2fc6a2947c628f26c1b2191912"), looks := false }, kinds := [], alts := [], laidByText := true, laidKinds := [.data, .data, .data, .data, .data, .data, .data], laidTests := true, laidLooks := .later }
def WorldRefsCardSaid : Prop := Claim7.holds Tryz.pinned (.plain (OpenSpec.ofChange worldRefsSpec)) worldRefsCard

/-- THE SECOND FORM's CARD OF 'echelonlaw13.WorldSteps'. -/
def worldStepsUptoCard : Claim7 := { stood := { row := worldStepsUptoRow, standIns := [], harness := (true, "b79cc6cad5296935730c5bffab9284bd2e4dea2fc6a2947c628f26c1b2191912"), looks := false }, kinds := [], alts := [], laidByText := true, laidKinds := [.data, .data, .data, .data, .data, .data, .data], laidTests := true, laidLooks := .later }
def WorldStepsUptoCardSaid : Prop := Claim7.holds Tryz.pinned (.plain (OpenSpec.upto worldStepsSpec)) worldStepsUptoCard

/-- THE SECOND FORM's CARD OF 'echelonlaw13.WorldRuns'. -/
def worldRunsUptoCard : Claim7 := { stood := { row := worldRunsUptoRow, standIns := [], harness := (true, "b79cc6cad5296935730c5bffab9284bd2e4dea2fc6a2947c628f26c1b2191912"), looks := false }, kinds := [], alts := [], laidByText := true, laidKinds := [.data, .data, .data, .data, .data, .data, .data], laidTests := true, laidLooks := .later }
def WorldRunsUptoCardSaid : Prop := Claim7.holds Tryz.pinned (.plain (OpenSpec.upto worldRunsSpec)) worldRunsUptoCard

/-- THE SECOND FORM's CARD OF 'echelonlaw13.WorldRefs'. -/
def worldRefsUptoCard : Claim7 := { stood := { row := worldRefsUptoRow, standIns := [], harness := (true, "b79cc6cad5296935730c5bffab9284bd2e4dea2fc6a2947c628f26c1b2191912"), looks := false }, kinds := [], alts := [], laidByText := true, laidKinds := [.data, .data, .data, .data, .data, .data, .data], laidTests := true, laidLooks := .later }
def WorldRefsUptoCardSaid : Prop := Claim7.holds Tryz.pinned (.plain (OpenSpec.upto worldRefsSpec)) worldRefsUptoCard
end Rows
end Go.Proofs.YtcgmohldcokccaaGreatDoor
