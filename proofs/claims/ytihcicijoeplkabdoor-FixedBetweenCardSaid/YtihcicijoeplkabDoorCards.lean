/-
  DERIVED. GIVEN WITH THE SEED: THE CARDS: each row of YtihcicijoeplkabDoorRows.lean that lists a variable, with what it lists TIED to the program's text (the seventh form; the later family's looks); each row that meets fmt, with fmt's text TOLD by the authors' own Lean function (tested against real Go, not proved from fmt's source: count such statements apart). THE CARD IS WHAT COUNTS. Prove the row's statement (the work); the ties are given (YtihcicijoeplkabDoorTie.lean); close each card by the builder's one call (the guide's Derived/Test/ToyasCard.lean, 'card_holds'). Laid BY PROGRAM, IN A SANDBOX (cutbox-door.mjs). By AI agents, Wed Nov 11 2026. No macro, syntax, notation, axiom, sorry.
-/
import Derived.Test.YtihcicijoeplkabDoorRows
import GoSem.ClaimSeven
namespace Go.Proofs.YtihcicijoeplkabDoor
namespace Rows

/-- THE TIED CARD OF 'echelonlaw01.FixedNear'. -/
def fixedNearCard : Claim7 := { stood := { row := fixedNearRow, standIns := [], harness := (true, "38213801bbb330b4f434f1d801805d7408c5fab830503d2d73412e6deb18d064"), looks := false }, kinds := [], alts := [], laidByText := true, laidKinds := [.data, .data, .data, .data, .pinned], laidTests := true, laidLooks := .later }
def FixedNearCardSaid : Prop := Claim7.holds Tryd.pinned (.plain (OpenSpec.ofChange fixedNearSpec)) fixedNearCard

/-- THE TIED CARD OF 'echelonlaw01.FixedBetween'. -/
def fixedBetweenCard : Claim7 := { stood := { row := fixedBetweenRow, standIns := [], harness := (true, "38213801bbb330b4f434f1d801805d7408c5fab830503d2d73412e6deb18d064"), looks := false }, kinds := [], alts := [], laidByText := true, laidKinds := [.data, .data, .data, .data, .pinned], laidTests := true, laidLooks := .later }
def FixedBetweenCardSaid : Prop := Claim7.holds Tryd.pinned (.plain (OpenSpec.ofChange fixedBetweenSpec)) fixedBetweenCard

/-- THE TIED CARD OF 'echelonlaw01.FixedSigns'. -/
def fixedSignsCard : Claim7 := { stood := { row := fixedSignsRow, standIns := [], harness := (true, "38213801bbb330b4f434f1d801805d7408c5fab830503d2d73412e6deb18d064"), looks := false }, kinds := [], alts := [], laidByText := true, laidKinds := [.data, .data, .data, .data, .pinned], laidTests := true, laidLooks := .later }
def FixedSignsCardSaid : Prop := Claim7.holds Tryd.pinned (.plain (OpenSpec.ofChange fixedSignsSpec)) fixedSignsCard

/-- THE SECOND FORM's CARD OF 'echelonlaw01.FixedNear'. -/
def fixedNearUptoCard : Claim7 := { stood := { row := fixedNearUptoRow, standIns := [], harness := (true, "38213801bbb330b4f434f1d801805d7408c5fab830503d2d73412e6deb18d064"), looks := false }, kinds := [], alts := [], laidByText := true, laidKinds := [.data, .data, .data, .data, .pinned], laidTests := true, laidLooks := .later }
def FixedNearUptoCardSaid : Prop := Claim7.holds Tryd.pinned (.plain (OpenSpec.upto fixedNearSpec)) fixedNearUptoCard

/-- THE SECOND FORM's CARD OF 'echelonlaw01.FixedBetween'. -/
def fixedBetweenUptoCard : Claim7 := { stood := { row := fixedBetweenUptoRow, standIns := [], harness := (true, "38213801bbb330b4f434f1d801805d7408c5fab830503d2d73412e6deb18d064"), looks := false }, kinds := [], alts := [], laidByText := true, laidKinds := [.data, .data, .data, .data, .pinned], laidTests := true, laidLooks := .later }
def FixedBetweenUptoCardSaid : Prop := Claim7.holds Tryd.pinned (.plain (OpenSpec.upto fixedBetweenSpec)) fixedBetweenUptoCard

/-- THE SECOND FORM's CARD OF 'echelonlaw01.FixedSigns'. -/
def fixedSignsUptoCard : Claim7 := { stood := { row := fixedSignsUptoRow, standIns := [], harness := (true, "38213801bbb330b4f434f1d801805d7408c5fab830503d2d73412e6deb18d064"), looks := false }, kinds := [], alts := [], laidByText := true, laidKinds := [.data, .data, .data, .data, .pinned], laidTests := true, laidLooks := .later }
def FixedSignsUptoCardSaid : Prop := Claim7.holds Tryd.pinned (.plain (OpenSpec.upto fixedSignsSpec)) fixedSignsUptoCard
end Rows
end Go.Proofs.YtihcicijoeplkabDoor
