/- A body that slides: the document's answer. -/
import Derived.Test.YtaalbkmdmocdeabDoorAl
namespace Go.Proofs.YtaalbkmdmocdeabDoor
open Go.RowKit
open Pu Gp Ap

theorem sgn_in (n : Int) : -1 ≤ sgn n ∧ sgn n ≤ 1 := by
  unfold sgn
  repeat' split
  all_goals omega
theorem setP_size (w : World) (b : Nat) (x y : Int) : (setP w b x y).heap.size = w.heap.size := by simp [setP, World.setCell]
theorem setP_ab {w : World} {b g : Nat} {C R : Int} {s : ByteArray} (h : Ab w b C R s) (hb : b ≠ g) (x y : Int) : Ab (setP w g x y) b C R s := by
  unfold Ab
  rw [heap_setCell_other _ _ _ _ hb, heap_setCell_other _ _ _ _ hb]
  exact h
theorem setP_pb {w : World} {b g : Nat} {p q : Int} (h : Pb w b p q) (hb : b ≠ g) (x y : Int) : Pb (setP w g x y) b p q := by
  unfold Pb
  rw [heap_setCell_other _ _ _ _ hb, heap_setCell_other _ _ _ _ hb]
  exact h
theorem Pb.rest {fn : Func} {p q : Tmp} {w : World} {g : Nat} {x y : Int} (hb : Pb w g x y) (h : fn.results = #[.cell p 23, .tmp q]) (tmps : Array Value) (t : Value) (hp : tmps.getD p undef = .pointer (some ⟨g, 0, none⟩)) (hq : tmps.getD q undef = t) :
    (results fn tmps).run Tryd.prog w = .ok (.tuple #[pt x y, t]) w := by
  rw [results_cell_tmp h, hp, hq]
  simp [asAddr, Result.andThen, load_pt w g x y hb.cells.1 hb.cells.2.1]
/-- how far on X, how far on Y -/
def kX (sol : Int → Int → Bool) (r X Y p : Int) : Nat := go (fun j => bdy sol r (atS X (sgn p) j) (atS Y 0 j)) p.natAbs
def kY (sol : Int → Int → Bool) (r X Y q : Int) : Nat := go (fun j => bdy sol r (atS X 0 j) (atS Y (sgn q) j)) q.natAbs
def side (k n l m : Nat) : Int := (if k < n then 1 else 0) + (if l < m then 2 else 0)
theorem kX_le (sol : Int → Int → Bool) (r X Y p : Int) : kX sol r X Y p ≤ p.natAbs := go_le _ _
theorem kY_le (sol : Int → Int → Bool) (r X Y q : Int) : kY sol r X Y q ≤ q.natAbs := go_le _ _
theorem sgn_mul {s : Int} {k : Nat} (h0 : -1 ≤ s) (h1 : s ≤ 1) (hk : k ≤ 2048) : -2048 ≤ s * (k : Int) ∧ s * (k : Int) ≤ 2048 := by
  have : s = -1 ∨ s = 0 ∨ s = 1 := by omega
  rcases this with rfl | rfl | rfl <;> omega
theorem clamp_r (n : Int) : 0 ≤ clampf n 0 4096 ∧ clampf n 0 4096 ≤ 4096 := by
  have h1 : bnd 0 = 0 := by decide
  have h2 : bnd 4096 = 4096 := by decide
  unfold clampf
  rw [h1, h2]
  repeat' split
  all_goals omega
end Go.Proofs.YtaalbkmdmocdeabDoor
