import Derived.Test.YthcjckgmdokmdaaGreatDoorXQ02
import Derived.ProofKit
namespace Go.Proofs.YthcjckgmdokmdaaGreatDoor
open Go.RowKit
open Vp
set_option maxRecDepth 100000
open Go.ChangeMaps (setBlock)
end Go.Proofs.YthcjckgmdokmdaaGreatDoor
