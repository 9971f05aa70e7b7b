/- Parts of the proof, laid end to end. -/
import Derived.Test.YtkgbmefaphhcnaaGreatDoorZU05
import Derived.ProofKit
namespace Go.Proofs.YtkgbmefaphhcnaaGreatDoor
open Go.RowKit
open Vp
set_option maxRecDepth 100000
open Go.ChangeMaps (setBlock)
theorem sz (w : World) (o : Obj) : (w.alloc o).heap.size = w.heap.size + 1 := by simp
end Go.Proofs.YtkgbmefaphhcnaaGreatDoor
