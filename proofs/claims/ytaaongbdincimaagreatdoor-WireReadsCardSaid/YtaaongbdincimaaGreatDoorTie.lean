/-
  DERIVED. GIVEN WITH THE SEED: THE PROGRAM's TIES (one call each: nine closed facts by the kernel) AND EACH ROW's TIE, after the 31st guide's Derived/Test/Toyas{Tie, Card}.lean. No idea stands in it: it is a product of the set-up. Laid BY PROGRAM, IN A SANDBOX (cutbox-door.mjs). By AI agents, Wed Nov 11 2026. No macro, syntax, notation, axiom, sorry.
-/
import Derived.Test.YtaaongbdincimaaGreatDoorRows
import Derived.LaidByTextLater
import Derived.SevenTiedAt
import Derived.LaidSub
import Derived.LaidOnce
namespace Go.Proofs.YtaaongbdincimaaGreatDoor
open Go
set_option maxRecDepth 100000
theorem seatTie1 : Tryz.prog.laidByTextLater [("echelon/echelonref07.first", Rows.laid_echelon_echelonref07_first), ("echelon/echelonref07.least", Rows.laid_echelon_echelonref07_least), ("echelon/echelonref07.most", Rows.laid_echelon_echelonref07_most), ("echelon/digest.factors", Rows.laid_echelon_digest_factors), ("echelon/wire.errForm", Rows.laid_echelon_wire_errForm), ("echelon/wire.errSum", Rows.laid_echelon_wire_errSum), ("echelon/wire.errData", Rows.laid_echelon_wire_errData)] [.data, .data, .data, .data, .sentinel, .sentinel, .sentinel] true :=
  Program.laidByTextLater_by_one 86 8 8 (by kernel_rfl) (by kernel_rfl) (by kernel_rfl) (by kernel_rfl) (by kernel_rfl) (by kernel_rfl) (fun _ _ => by kernel_rfl)
theorem noOwnUnsafe : Tryz.pinned.checked.prog.headLifts.contains "ownunsafe" = false := by kernel_rfl
theorem tie : Tryz.prog.laidByTextLater [("echelon/echelonref07.first", Rows.laid_echelon_echelonref07_first), ("echelon/echelonref07.least", Rows.laid_echelon_echelonref07_least), ("echelon/echelonref07.most", Rows.laid_echelon_echelonref07_most), ("echelon/digest.factors", Rows.laid_echelon_digest_factors), ("echelon/wire.errForm", Rows.laid_echelon_wire_errForm), ("echelon/wire.errSum", Rows.laid_echelon_wire_errSum), ("echelon/wire.errData", Rows.laid_echelon_wire_errData)] [.data, .data, .data, .data, .sentinel, .sentinel, .sentinel] true :=
  Program.laidByTextLater.sub seatTie1 ["echelon/echelonref07.first", "echelon/echelonref07.least", "echelon/echelonref07.most", "echelon/digest.factors", "echelon/wire.errForm", "echelon/wire.errSum", "echelon/wire.errData"] (by kernel_rfl) (by kernel_rfl)
theorem wireWrites_row_tie : Rows.wireWritesRow.laidByTextAt .later Tryz.pinned [.data, .data, .data, .data, .sentinel, .sentinel, .sentinel] true :=
  OpenClaim.laidByTextAt_later rfl rfl tie noOwnUnsafe
theorem wireReads_row_tie : Rows.wireReadsRow.laidByTextAt .later Tryz.pinned [.data, .data, .data, .data, .sentinel, .sentinel, .sentinel] true :=
  OpenClaim.laidByTextAt_later rfl rfl tie noOwnUnsafe
theorem wireWritesUpto_row_tie : Rows.wireWritesUptoRow.laidByTextAt .later Tryz.pinned [.data, .data, .data, .data, .sentinel, .sentinel, .sentinel] true :=
  OpenClaim.laidByTextAt_later rfl rfl tie noOwnUnsafe
theorem wireReadsUpto_row_tie : Rows.wireReadsUptoRow.laidByTextAt .later Tryz.pinned [.data, .data, .data, .data, .sentinel, .sentinel, .sentinel] true :=
  OpenClaim.laidByTextAt_later rfl rfl tie noOwnUnsafe
end Go.Proofs.YtaaongbdincimaaGreatDoor
