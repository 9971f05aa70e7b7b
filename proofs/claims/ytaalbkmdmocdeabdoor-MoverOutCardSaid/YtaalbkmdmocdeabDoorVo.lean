/- The document's Operands. -/
import Derived.Test.YtaalbkmdmocdeabDoorVn
namespace Go.Proofs.YtaalbkmdmocdeabDoor
open Go.RowKit
open Vp

end Go.Proofs.YtaalbkmdmocdeabDoor
