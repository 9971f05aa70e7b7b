/- What a row's list of variables gives. -/
import Derived.Test.YtaalbkmdmocdeaaDoorOb
import Derived.Lay
import Derived.KernelRfl
namespace Go.Proofs.YtaalbkmdmocdeaaDoor
open Go.RowKit
open Pu Gp
set_option maxRecDepth 100000

theorem units_same : (Rows.laid_echelon_geom_units : DataW Unit) = unitsData := by kernel_rfl
theorem tab_one {W : World} (hL : laidMet Tryd.prog [("echelon/geom.units", Rows.laid_echelon_geom_units)] W) : Tab W := by
  rw [units_same] at hL
  exact tab_reads (Lib.laidMet.reads hL (.head _))
theorem gX : Tryd.prog.globalNamed "echelon/echelonref05.unitX" = some 0 := by kernel_rfl
theorem gY : Tryd.prog.globalNamed "echelon/echelonref05.unitY" = some 1 := by kernel_rfl
theorem x_reads {W : World} (h : Lib.VarReads Tryd.prog W "echelon/echelonref05.unitX" (Lib.tabData .i64 unitX)) (i : Nat) (hi : i < 16) : W.cell? ⟨0, i, none⟩ = some (.int .i64 (ux i)) := by
  obtain ⟨g, t, cs, fuel, p, hg, hty, hvar, hd⟩ := h
  obtain rfl := Option.some.inj (gX.symm.trans hg)
  obtain rfl := Option.some.inj ((show (Tryd.prog.globals[0]?).map (·.type) = some 92 by kernel_rfl).symm.trans hty)
  have hcs := Lib.cells_of_tab (t := 92) (e := 3) (n := 16) Tryd.underlying92 Tryd.underlying3 cells_int (by kernel_rfl) hd
  rw [World.var?_cell hg hvar i, ← Array.getElem?_toList, hcs]
  have hl : i < unitX.length := hi
  simp [ux, hl]
theorem y_reads {W : World} (h : Lib.VarReads Tryd.prog W "echelon/echelonref05.unitY" (Lib.tabData .i64 unitY)) (i : Nat) (hi : i < 16) : W.cell? ⟨1, i, none⟩ = some (.int .i64 (uy i)) := by
  obtain ⟨g, t, cs, fuel, p, hg, hty, hvar, hd⟩ := h
  obtain rfl := Option.some.inj (gY.symm.trans hg)
  obtain rfl := Option.some.inj ((show (Tryd.prog.globals[1]?).map (·.type) = some 92 by kernel_rfl).symm.trans hty)
  have hcs := Lib.cells_of_tab (t := 92) (e := 3) (n := 16) Tryd.underlying92 Tryd.underlying3 cells_int (by kernel_rfl) hd
  rw [World.var?_cell hg hvar i, ← Array.getElem?_toList, hcs]
  have hl : i < unitY.length := hi
  simp [uy, hl]
theorem tab_three {W : World} /- 36 -/ (hL : laidMet Tryd.prog [("echelon/echelonref05.unitX", Rows.laid_echelon_echelonref05_unitX), ("echelon/echelonref05.unitY", Rows.laid_echelon_echelonref05_unitY), ("echelon/geom.units", Rows.laid_echelon_geom_units)] W) : Tab W ∧ RTab W := by
  rw [units_same] at hL
  have hL' : laidMet Tryd.prog [("echelon/echelonref05.unitX", Lib.tabData .i64 unitX), ("echelon/echelonref05.unitY", Lib.tabData .i64 unitY), ("echelon/geom.units", unitsData)] W := hL
  exact ⟨tab_reads (Lib.laidMet.reads hL' (.tail _ (.tail _ (.head _)))), ⟨x_reads (Lib.laidMet.reads hL' (.head _)), y_reads (Lib.laidMet.reads hL' (.tail _ (.head _)))⟩⟩
end Go.Proofs.YtaalbkmdmocdeaaDoor
