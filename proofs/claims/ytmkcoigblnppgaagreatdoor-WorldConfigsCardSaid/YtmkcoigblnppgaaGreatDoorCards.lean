/-
  DERIVED. GIVEN WITH THE SEED: THE CARDS: each row of YtmkcoigblnppgaaGreatDoorRows.lean that lists a variable, with what it lists TIED to the program's text (the seventh form; the later family's looks); each row that meets fmt, with fmt's text TOLD by the authors' own Lean function (tested against real Go, not proved from fmt's source: count such statements apart). THE CARD IS WHAT COUNTS. Prove the row's statement (the work); the ties are given (YtmkcoigblnppgaaGreatDoorTie.lean); close each card by the builder's one call (the guide's Derived/Test/ToyasCard.lean, 'card_holds'). Laid BY PROGRAM, IN A SANDBOX (cutbox-door.mjs). By AI agents, Wed Nov 11 2026. No macro, syntax, notation, axiom, sorry.
-/
import Derived.Test.YtmkcoigblnppgaaGreatDoorRows
import GoSem.ClaimSeven
namespace Go.Proofs.YtmkcoigblnppgaaGreatDoor
namespace Rows

/-- THE TIED CARD OF 'echelonlaw13.WorldConfigs'. -/
def worldConfigsCard : Claim7 := { stood := { row := worldConfigsRow, standIns := [], harness := (true, "8d45e630a1d8ea3126c5f660e0308229a5a5292c4f718560d2e9882d179a8f59"), looks := false }, kinds := [], alts := [], laidByText := true, laidKinds := [.data, .data], laidTests := true, laidLooks := .later }
def WorldConfigsCardSaid : Prop := Claim7.holds Tryz.pinned (.plain (OpenSpec.ofChange worldConfigsSpec)) worldConfigsCard

/-- THE TIED CARD OF 'echelonlaw13.WorldChecks'. -/
def worldChecksCard : Claim7 := { stood := { row := worldChecksRow, standIns := [], harness := (true, "8d45e630a1d8ea3126c5f660e0308229a5a5292c4f718560d2e9882d179a8f59"), looks := false }, kinds := [], alts := [], laidByText := true, laidKinds := [.data, .data], laidTests := true, laidLooks := .later }
def WorldChecksCardSaid : Prop := Claim7.holds Tryz.pinned (.plain (OpenSpec.ofChange worldChecksSpec)) worldChecksCard

/-- THE TIED CARD OF 'echelonlaw13.WorldGoes'. -/
def worldGoesCard : Claim7 := { stood := { row := worldGoesRow, standIns := [], harness := (true, "8d45e630a1d8ea3126c5f660e0308229a5a5292c4f718560d2e9882d179a8f59"), looks := false }, kinds := [], alts := [], laidByText := true, laidKinds := [.data, .data], laidTests := true, laidLooks := .later }
def WorldGoesCardSaid : Prop := Claim7.holds Tryz.pinned (.plain (OpenSpec.ofChange worldGoesSpec)) worldGoesCard

/-- THE TIED CARD OF 'echelonlaw13.WorldFair'. -/
def worldFairCard : Claim7 := { stood := { row := worldFairRow, standIns := [], harness := (true, "8d45e630a1d8ea3126c5f660e0308229a5a5292c4f718560d2e9882d179a8f59"), looks := false }, kinds := [], alts := [], laidByText := true, laidKinds := [.data, .data], laidTests := true, laidLooks := .later }
def WorldFairCardSaid : Prop := Claim7.holds Tryz.pinned (.plain (OpenSpec.ofChange worldFairSpec)) worldFairCard

/-- THE TIED CARD OF 'echelonlaw13.WorldSeeds'. -/
def worldSeedsCard : Claim7 := { stood := { row := worldSeedsRow, standIns := [], harness := (true, "8d45e630a1d8ea3126c5f660e0308229a5a5292c4f718560d2e9882d179a8f59"), looks := false }, kinds := [], alts := [], laidByText := true, laidKinds := [.data, .data], laidTests := true, laidLooks := .later }
def WorldSeedsCardSaid : Prop := Claim7.holds Tryz.pinned (.plain (OpenSpec.ofChange worldSeedsSpec)) worldSeedsCard

/-- THE TIED CARD OF 'echelonlaw13.WorldStill'. -/
def worldStillCard : Claim7 := { stood := { row := worldStillRow, standIns := [], harness := (true, "8d45e630a1d8ea3126c5f660e0308229a5a5292c4f718560d2e9882d179a8f59"), looks := false }, kinds := [], alts := [], laidByText := true, laidKinds := [.data, .data], laidTests := true, laidLooks := .later }
def WorldStillCardSaid : Prop := Claim7.holds Tryz.pinned (.plain (OpenSpec.ofChange worldStillSpec)) worldStillCard

/-- THE SECOND FORM's CARD OF 'echelonlaw13.WorldConfigs'. -/
def worldConfigsUptoCard : Claim7 := { stood := { row := worldConfigsUptoRow, standIns := [], harness := (true, "8d45e630a1d8ea3126c5f660e0308229a5a5292c4f718560d2e9882d179a8f59"), looks := false }, kinds := [], alts := [], laidByText := true, laidKinds := [.data, .data], laidTests := true, laidLooks := .later }
def WorldConfigsUptoCardSaid : Prop := Claim7.holds Tryz.pinned (.plain (OpenSpec.upto worldConfigsSpec)) worldConfigsUptoCard

/-- THE SECOND FORM's CARD OF 'echelonlaw13.WorldChecks'. -/
def worldChecksUptoCard : Claim7 := { stood := { row := worldChecksUptoRow, standIns := [], harness := (true, "8d45e630a1d8ea3126c5f660e0308229a5a5292c4f718560d2e9882d179a8f59"), looks := false }, kinds := [], alts := [], laidByText := true, laidKinds := [.data, .data], laidTests := true, laidLooks := .later }
def WorldChecksUptoCardSaid : Prop := Claim7.holds Tryz.pinned (.plain (OpenSpec.upto worldChecksSpec)) worldChecksUptoCard

/-- THE SECOND FORM's CARD OF 'echelonlaw13.WorldGoes'. -/
def worldGoesUptoCard : Claim7 := { stood := { row := worldGoesUptoRow, standIns := [], harness := (true, "8d45e630a1d8ea3126c5f660e0308229a5a5292c4f718560d2e9882d179a8f59"), looks := false }, kinds := [], alts := [], laidByText := true, laidKinds := [.data, .data], laidTests := true, laidLooks := .later }
def WorldGoesUptoCardSaid : Prop := Claim7.holds Tryz.pinned (.plain (OpenSpec.upto worldGoesSpec)) worldGoesUptoCard

/-- THE SECOND FORM's CARD OF 'echelonlaw13.WorldFair'. -/
def worldFairUptoCard : Claim7 := { stood := { row := worldFairUptoRow, standIns := [], harness := (true, "8d45e630a1d8ea3126c5f660e0308229a5a5292c4f718560d2e9882d179a8f59"), looks := false }, kinds := [], alts := [], laidByText := true, laidKinds := [.data, .data], laidTests := true, laidLooks := .later }
def WorldFairUptoCardSaid : Prop := Claim7.holds Tryz.pinned (.plain (OpenSpec.upto worldFairSpec)) worldFairUptoCard

/-- THE SECOND FORM's CARD OF 'echelonlaw13.WorldSeeds'. -/
def worldSeedsUptoCard : Claim7 := { stood := { row := worldSeedsUptoRow, standIns := [], harness := (true, "8d45e630a1d8ea3126c5f660e0308229a5a5292c4f718560d2e9882d179a8f59"), looks := false }, kinds := [], alts := [], laidByText := true, laidKinds := [.data, .data], laidTests := true, laidLooks := .later }
def WorldSeedsUptoCardSaid : Prop := Claim7.holds Tryz.pinned (.plain (OpenSpec.upto worldSeedsSpec)) worldSeedsUptoCard

/-- THE SECOND FORM's CARD OF 'echelonlaw13.WorldStill'. -/
def worldStillUptoCard : Claim7 := { stood := { row := worldStillUptoRow, standIns := [], harness := (true, "8d45e630a1d8ea3126c5f660e0308229a5a5292c4f718560d2e9882d179a8f59"), looks := false }, kinds := [], alts := [], laidByText := true, laidKinds := [.data, .data], laidTests := true, laidLooks := .later }
def WorldStillUptoCardSaid : Prop := Claim7.holds Tryz.pinned (.plain (OpenSpec.upto worldStillSpec)) worldStillUptoCard
end Rows
end Go.Proofs.YtmkcoigblnppgaaGreatDoor
