/-
  DERIVED. GIVEN WITH THE SEED: THE PROGRAM's TIES (one call each: nine closed facts by the kernel) AND EACH ROW's TIE, after the 31st guide's Derived/Test/Toyas{Tie, Card}.lean. No idea stands in it: it is a product of the set-up. Laid BY PROGRAM, IN A SANDBOX (cutbox-door.mjs). By AI agents, Wed Nov 11 2026. No macro, syntax, notation, axiom, sorry.
-/
import Derived.Test.YtnbofjaecchnaaaDoorRows
import Derived.LaidByTextLater
import Derived.SevenTiedAt
import Derived.LaidSub
import Derived.LaidOnce
namespace Go.Proofs.YtnbofjaecchnaaaDoor
open Go
set_option maxRecDepth 100000
theorem seatTie1 : Tryd.prog.laidByTextLater [("echelon/echelonref07.first", Rows.laid_echelon_echelonref07_first), ("echelon/echelonref07.least", Rows.laid_echelon_echelonref07_least), ("echelon/echelonref07.most", Rows.laid_echelon_echelonref07_most)] [.data, .data, .data] true :=
  Program.laidByTextLater_by_one 24 8 8 (by kernel_rfl) (by kernel_rfl) (by kernel_rfl) (by kernel_rfl) (by kernel_rfl) (by kernel_rfl) (fun _ _ => by kernel_rfl)
theorem noOwnUnsafe : Tryd.pinned.checked.prog.headLifts.contains "ownunsafe" = false := by kernel_rfl
theorem tie : Tryd.prog.laidByTextLater [("echelon/echelonref07.first", Rows.laid_echelon_echelonref07_first), ("echelon/echelonref07.least", Rows.laid_echelon_echelonref07_least), ("echelon/echelonref07.most", Rows.laid_echelon_echelonref07_most)] [.data, .data, .data] true :=
  Program.laidByTextLater.sub seatTie1 ["echelon/echelonref07.first", "echelon/echelonref07.least", "echelon/echelonref07.most"] (by kernel_rfl) (by kernel_rfl)
theorem linkDoes_row_tie : Rows.linkDoesRow.laidByTextAt .later Tryd.pinned [.data, .data, .data] true :=
  OpenClaim.laidByTextAt_later rfl rfl tie noOwnUnsafe
theorem linkRefuses_row_tie : Rows.linkRefusesRow.laidByTextAt .later Tryd.pinned [.data, .data, .data] true :=
  OpenClaim.laidByTextAt_later rfl rfl tie noOwnUnsafe
theorem linkDoesUpto_row_tie : Rows.linkDoesUptoRow.laidByTextAt .later Tryd.pinned [.data, .data, .data] true :=
  OpenClaim.laidByTextAt_later rfl rfl tie noOwnUnsafe
theorem linkRefusesUpto_row_tie : Rows.linkRefusesUptoRow.laidByTextAt .later Tryd.pinned [.data, .data, .data] true :=
  OpenClaim.laidByTextAt_later rfl rfl tie noOwnUnsafe
end Go.Proofs.YtnbofjaecchnaaaDoor
