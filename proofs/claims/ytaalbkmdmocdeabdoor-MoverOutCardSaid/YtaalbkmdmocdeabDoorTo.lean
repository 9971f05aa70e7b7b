/- Boxes that touch: the document's answer. -/
import Derived.Test.YtaalbkmdmocdeabDoorSo
namespace Go.Proofs.YtaalbkmdmocdeabDoor
open Go.RowKit
open Pu Gp Ap

/-- does a box touch -/
def touB (C R : Int) (s : ByteArray) (a b c d : Int) : Bool := okb a b c d && tch (solB C R s) a b c d
theorem ret_bool {a b : Bool} (h : a = b) : Ending.returned (.bool a) = .returned (.bool b) := by rw [h]
end Go.Proofs.YtaalbkmdmocdeabDoor
