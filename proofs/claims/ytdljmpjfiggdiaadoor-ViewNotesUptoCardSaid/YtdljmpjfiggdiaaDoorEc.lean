/- The document's Check, Gain and Hit of scores. -/
import Derived.Test.YtdljmpjfiggdiaaDoorEb
import Derived.Deep.DeepCutAuto
import Derived.Deep.RegionHeld3
import Derived.BigRegion
namespace Go.Proofs.YtdljmpjfiggdiaaDoor
open Go.RowKit
open Ea
set_option maxRecDepth 100000

theorem rchk12_any (x : Scr) (w : World) : Calls Tryd.prog 51 #[cv x] w fun e w' => e = .returned (.int .i64 (chkC x)) ∧ Still w w' := by
  have p := newC_cb w x
  have HS := hid (Still.alloc w (.cells (ccs x) 54))
  obtain ⟨c0, c1, c2, c3, cf⟩ := p.cells
  clear p
  by_cases z0 : x.p < -2147483647
  · have HE : Hid (chkC x = 120) := hid (chkC_no (fun h => by have := h.1; have := h.2.1; have := h.2.2.1; have := h.2.2.2; omega))
    go_enter Tryd.func51, Tryd.ntmps51
    go_wp2_with fail
    go_ret
    exact ⟨by rw [HE.out]; rfl, HS.out⟩
  by_cases z1 : x.p > 2147483647
  · have HE : Hid (chkC x = 120) := hid (chkC_no (fun h => by have := h.1; have := h.2.1; have := h.2.2.1; have := h.2.2.2; omega))
    go_enter Tryd.func51, Tryd.ntmps51
    go_wp2_with fail
    go_ret
    exact ⟨by rw [HE.out]; rfl, HS.out⟩
  have y1 : decide (2147483647 < x.p) = false := by simpa using z1
  by_cases z2 : x.h < 0
  · have HE : Hid (chkC x = 120) := hid (chkC_no (fun h => by have := h.1; have := h.2.1; have := h.2.2.1; have := h.2.2.2; omega))
    go_enter Tryd.func51, Tryd.ntmps51
    go_wp2_with fail
    go_ret
    exact ⟨by rw [HE.out]; rfl, HS.out⟩
  by_cases z3 : x.h > 2147483647
  · have HE : Hid (chkC x = 120) := hid (chkC_no (fun h => by have := h.1; have := h.2.1; have := h.2.2.1; have := h.2.2.2; omega))
    go_enter Tryd.func51, Tryd.ntmps51
    go_wp2_with fail
    go_ret
    exact ⟨by rw [HE.out]; rfl, HS.out⟩
  have y3 : decide (2147483647 < x.h) = false := by simpa using z3
  by_cases z4 : x.o < 0
  · have HE : Hid (chkC x = 120) := hid (chkC_no (fun h => by have := h.1; have := h.2.1; have := h.2.2.1; have := h.2.2.2; omega))
    go_enter Tryd.func51, Tryd.ntmps51
    go_wp2_with fail
    go_ret
    exact ⟨by rw [HE.out]; rfl, HS.out⟩
  by_cases z5 : x.o > 2147483647
  · have HE : Hid (chkC x = 120) := hid (chkC_no (fun h => by have := h.1; have := h.2.1; have := h.2.2.1; have := h.2.2.2; omega))
    go_enter Tryd.func51, Tryd.ntmps51
    go_wp2_with fail
    go_ret
    exact ⟨by rw [HE.out]; rfl, HS.out⟩
  have y5 : decide (2147483647 < x.o) = false := by simpa using z5
  by_cases z6 : x.k < 0
  · have HE : Hid (chkC x = 120) := hid (chkC_no (fun h => by have := h.1; have := h.2.1; have := h.2.2.1; have := h.2.2.2; omega))
    go_enter Tryd.func51, Tryd.ntmps51
    go_wp2_with fail
    go_ret
    exact ⟨by rw [HE.out]; rfl, HS.out⟩
  by_cases z7 : x.k > 2147483647
  · have HE : Hid (chkC x = 120) := hid (chkC_no (fun h => by have := h.1; have := h.2.1; have := h.2.2.1; have := h.2.2.2; omega))
    go_enter Tryd.func51, Tryd.ntmps51
    go_wp2_with fail
    go_ret
    exact ⟨by rw [HE.out]; rfl, HS.out⟩
  have y7 : decide (2147483647 < x.k) = false := by simpa using z7
  have HE : Hid (chkC x = 0) := hid (chkC_yes (by unfold MayC; omega))
  clear z1 z3 z5 z7
  go_enter Tryd.func51, Tryd.ntmps51
  go_wp2_with fail
  go_ret
  exact ⟨by rw [HE.out]; rfl, HS.out⟩
end Go.Proofs.YtdljmpjfiggdiaaDoor
