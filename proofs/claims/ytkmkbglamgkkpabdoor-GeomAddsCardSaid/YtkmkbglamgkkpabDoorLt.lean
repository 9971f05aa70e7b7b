/- What a row's list of variables gives. -/
import Derived.Test.YtkmkbglamgkkpabDoorOb
import Derived.Lay
import Derived.KernelRfl
namespace Go.Proofs.YtkmkbglamgkkpabDoor
open Go.RowKit
open Pu Gp

theorem units_same : (Rows.laid_echelon_geom_units : DataW Unit) = unitsData := by kernel_rfl
theorem tab_one {W : World} (hL : laidMet Tryd.prog [("echelon/geom.units", Rows.laid_echelon_geom_units)] W) : Tab W := by
  rw [units_same] at hL
  exact tab_reads (Lib.laidMet.reads hL (.head _))
end Go.Proofs.YtkmkbglamgkkpabDoor
