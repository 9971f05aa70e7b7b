/- The document's Is, Name, Operands. -/
import Derived.Test.YtaalbkmdmocdeabDoorVt
namespace Go.Proofs.YtaalbkmdmocdeabDoor
open Go.RowKit
open Vp

end Go.Proofs.YtaalbkmdmocdeabDoor
