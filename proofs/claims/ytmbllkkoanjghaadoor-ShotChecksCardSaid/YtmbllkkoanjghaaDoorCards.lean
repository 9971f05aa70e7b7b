/-
  DERIVED. GIVEN WITH THE SEED: THE CARDS: each row of YtmbllkkoanjghaaDoorRows.lean that lists a variable, with what it lists TIED to the program's text (the seventh form; the later family's looks); each row that meets fmt, with fmt's text TOLD by the authors' own Lean function (tested against real Go, not proved from fmt's source: count such statements apart). THE CARD IS WHAT COUNTS. Prove the row's statement (the work); the ties are given (YtmbllkkoanjghaaDoorTie.lean); close each card by the builder's one call (the guide's Derived/Test/ToyasCard.lean, 'card_holds'). Laid BY PROGRAM, IN A SANDBOX (cutbox-door.mjs). By AI agents, Wed Nov 11 2026. No macro, syntax, notation, axiom, sorry.
-/
import Derived.Test.YtmbllkkoanjghaaDoorRows
import GoSem.ClaimSeven
namespace Go.Proofs.YtmbllkkoanjghaaDoor
namespace Rows

/-- THE TIED CARD OF 'echelonlaw09.ShotChecks'. -/
def shotChecksCard : Claim7 := { stood := { row := shotChecksRow, standIns := [], harness := (true, "7889655de407b1dcbb8398058226915e695a8743f3be5d662ea2237cc976328d"), looks := false }, kinds := [], alts := [], laidByText := true, laidKinds := [.data], laidTests := true, laidLooks := .later }
def ShotChecksCardSaid : Prop := Claim7.holds Tryd.pinned (.plain (OpenSpec.ofChange shotChecksSpec)) shotChecksCard

/-- THE TIED CARD OF 'echelonlaw09.ShotFires'. -/
def shotFiresCard : Claim7 := { stood := { row := shotFiresRow, standIns := [], harness := (true, "7889655de407b1dcbb8398058226915e695a8743f3be5d662ea2237cc976328d"), looks := false }, kinds := [], alts := [], laidByText := true, laidKinds := [.data, .data, .data], laidTests := true, laidLooks := .later }
def ShotFiresCardSaid : Prop := Claim7.holds Tryd.pinned (.plain (OpenSpec.ofChange shotFiresSpec)) shotFiresCard

/-- THE TIED CARD OF 'echelonlaw09.ShotFlies'. -/
def shotFliesCard : Claim7 := { stood := { row := shotFliesRow, standIns := [], harness := (true, "7889655de407b1dcbb8398058226915e695a8743f3be5d662ea2237cc976328d"), looks := false }, kinds := [], alts := [], laidByText := true, laidKinds := [.data], laidTests := true, laidLooks := .later }
def ShotFliesCardSaid : Prop := Claim7.holds Tryd.pinned (.plain (OpenSpec.ofChange shotFliesSpec)) shotFliesCard

/-- THE TIED CARD OF 'echelonlaw09.ShotLives'. -/
def shotLivesCard : Claim7 := { stood := { row := shotLivesRow, standIns := [], harness := (true, "7889655de407b1dcbb8398058226915e695a8743f3be5d662ea2237cc976328d"), looks := false }, kinds := [], alts := [], laidByText := true, laidKinds := [.data], laidTests := true, laidLooks := .later }
def ShotLivesCardSaid : Prop := Claim7.holds Tryd.pinned (.plain (OpenSpec.ofChange shotLivesSpec)) shotLivesCard

/-- THE TIED CARD OF 'echelonlaw09.ShotStraight'. -/
def shotStraightCard : Claim7 := { stood := { row := shotStraightRow, standIns := [], harness := (true, "7889655de407b1dcbb8398058226915e695a8743f3be5d662ea2237cc976328d"), looks := false }, kinds := [], alts := [], laidByText := true, laidKinds := [.data], laidTests := true, laidLooks := .later }
def ShotStraightCardSaid : Prop := Claim7.holds Tryd.pinned (.plain (OpenSpec.ofChange shotStraightSpec)) shotStraightCard

/-- THE SECOND FORM's CARD OF 'echelonlaw09.ShotChecks'. -/
def shotChecksUptoCard : Claim7 := { stood := { row := shotChecksUptoRow, standIns := [], harness := (true, "7889655de407b1dcbb8398058226915e695a8743f3be5d662ea2237cc976328d"), looks := false }, kinds := [], alts := [], laidByText := true, laidKinds := [.data], laidTests := true, laidLooks := .later }
def ShotChecksUptoCardSaid : Prop := Claim7.holds Tryd.pinned (.plain (OpenSpec.upto shotChecksSpec)) shotChecksUptoCard

/-- THE SECOND FORM's CARD OF 'echelonlaw09.ShotFires'. -/
def shotFiresUptoCard : Claim7 := { stood := { row := shotFiresUptoRow, standIns := [], harness := (true, "7889655de407b1dcbb8398058226915e695a8743f3be5d662ea2237cc976328d"), looks := false }, kinds := [], alts := [], laidByText := true, laidKinds := [.data, .data, .data], laidTests := true, laidLooks := .later }
def ShotFiresUptoCardSaid : Prop := Claim7.holds Tryd.pinned (.plain (OpenSpec.upto shotFiresSpec)) shotFiresUptoCard

/-- THE SECOND FORM's CARD OF 'echelonlaw09.ShotFlies'. -/
def shotFliesUptoCard : Claim7 := { stood := { row := shotFliesUptoRow, standIns := [], harness := (true, "7889655de407b1dcbb8398058226915e695a8743f3be5d662ea2237cc976328d"), looks := false }, kinds := [], alts := [], laidByText := true, laidKinds := [.data], laidTests := true, laidLooks := .later }
def ShotFliesUptoCardSaid : Prop := Claim7.holds Tryd.pinned (.plain (OpenSpec.upto shotFliesSpec)) shotFliesUptoCard

/-- THE SECOND FORM's CARD OF 'echelonlaw09.ShotLives'. -/
def shotLivesUptoCard : Claim7 := { stood := { row := shotLivesUptoRow, standIns := [], harness := (true, "7889655de407b1dcbb8398058226915e695a8743f3be5d662ea2237cc976328d"), looks := false }, kinds := [], alts := [], laidByText := true, laidKinds := [.data], laidTests := true, laidLooks := .later }
def ShotLivesUptoCardSaid : Prop := Claim7.holds Tryd.pinned (.plain (OpenSpec.upto shotLivesSpec)) shotLivesUptoCard

/-- THE SECOND FORM's CARD OF 'echelonlaw09.ShotStraight'. -/
def shotStraightUptoCard : Claim7 := { stood := { row := shotStraightUptoRow, standIns := [], harness := (true, "7889655de407b1dcbb8398058226915e695a8743f3be5d662ea2237cc976328d"), looks := false }, kinds := [], alts := [], laidByText := true, laidKinds := [.data], laidTests := true, laidLooks := .later }
def ShotStraightUptoCardSaid : Prop := Claim7.holds Tryd.pinned (.plain (OpenSpec.upto shotStraightSpec)) shotStraightUptoCard
end Rows
end Go.Proofs.YtmbllkkoanjghaaDoor
