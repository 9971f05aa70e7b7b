/- How far a body comes on one axis: the document's answer. -/
import Derived.Test.YtaalbkmdmocdeabDoorTo
namespace Go.Proofs.YtaalbkmdmocdeabDoor
open Go.RowKit
open Pu Gp Ap

theorem around_ok (x y r : Int) (h0 : 0 ≤ r) (h1 : r ≤ 4096) : okb (subf x r) (subf y r) (addf x r) (addf y r) = true := by
  refine okb_of ?_
  have er := bnd_id (n := r) (by omega) (by omega)
  unfold okB subf addf
  exact ⟨bnd_lo _, bnd_hi _, bnd_lo _, bnd_hi _, bnd_lo _, bnd_hi _, bnd_lo _, bnd_hi _, bnd_mono (by omega), bnd_mono (by omega)⟩
theorem setB_ab {w : World} {b g : Nat} {C R : Int} {s : ByteArray} (h : Ab w b C R s) (hb : b ≠ g) (x y z u : Int) : Ab (setB w g x y z u) b C R s := by
  unfold Ab
  rw [heap_setCell_other _ _ _ _ hb, heap_setCell_other _ _ _ _ hb, heap_setCell_other _ _ _ _ hb, heap_setCell_other _ _ _ _ hb]
  exact h
theorem setB_pb {w : World} {b g : Nat} {p q : Int} (h : Pb w b p q) (hb : b ≠ g) (x y z u : Int) : Pb (setB w g x y z u) b p q := by
  unfold Pb
  rw [heap_setCell_other _ _ _ _ hb, heap_setCell_other _ _ _ _ hb, heap_setCell_other _ _ _ _ hb, heap_setCell_other _ _ _ _ hb]
  exact h
theorem setB_bb {w : World} {b g : Nat} {p q p' q' : Int} (h : Bb w b p q p' q') (hb : b ≠ g) (x y z u : Int) : Bb (setB w g x y z u) b p q p' q' := by
  unfold Bb
  rw [heap_setCell_other _ _ _ _ hb, heap_setCell_other _ _ _ _ hb, heap_setCell_other _ _ _ _ hb, heap_setCell_other _ _ _ _ hb]
  exact h
theorem eql_bx_is {x y z u x' y' z' u' : Int} {t : Bool} (h : ((x == x' && y == y') && (z == z' && u == u')) = t) (w : World) : (binOp .eql 86 (bx x y z u) (bx x' y' z' u')).run Tryd.prog w = .ok (.bool t) w := by
  rw [eql_bx, h]
/-- the cells of a body's box, and the box of those of the step ahead -/
def cl1 (x r : Int) : Int := dn (subf x r)
def cl2 (x r : Int) : Int := dn (addf x r)
theorem bdy_cells {sol : Int → Int → Bool} {r x y x' y' : Int} (h1 : cl1 x r = cl1 x' r) (h2 : cl1 y r = cl1 y' r) (h3 : cl2 x r = cl2 x' r) (h4 : cl2 y r = cl2 y' r) : bdy sol r x y = bdy sol r x' y' := by
  unfold bdy tch
  unfold cl1 cl2 at *
  rw [h1, h2, h3, h4]
/-- where a body is at the j-th step -/
def atS (x s : Int) (j : Nat) : Int := addf x (s * (j : Int))
def lastC (f : Nat → Int) (k : Nat) : Int := if k ≤ 1 then 0 else f (k - 1)
end Go.Proofs.YtaalbkmdmocdeabDoor
