import Derived.Test.YthcjckgmdokmdaaGreatDoorXQ13
import Derived.Deep.RegionHeld3
namespace Go.Proofs.YthcjckgmdokmdaaGreatDoor
open Go.RowKit
open Pu Gp Ap Vp Np
set_option maxRecDepth 100000
end Go.Proofs.YthcjckgmdokmdaaGreatDoor
