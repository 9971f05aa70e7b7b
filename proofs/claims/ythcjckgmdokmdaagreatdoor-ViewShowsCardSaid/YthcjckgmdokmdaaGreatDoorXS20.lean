/- Parts of the proof, laid end to end. -/
import Derived.Test.YthcjckgmdokmdaaGreatDoorXS16
import Derived.Deep.RegionWith
import Derived.Deep.DeepCutAuto
import Derived.Test.YthcjckgmdokmdaaGreatDoorXS01
import Derived.Deep.RegionHeld3
import Derived.Test.YthcjckgmdokmdaaGreatDoorXS00
namespace Go.Proofs.YthcjckgmdokmdaaGreatDoor
open Go.RowKit
open Pu Gp Ap Vp Np
set_option maxRecDepth 100000
end Go.Proofs.YthcjckgmdokmdaaGreatDoor
namespace Go.Proofs.YthcjckgmdokmdaaGreatDoor
open Go.RowKit
open Pu Gp Ap Vp Np
set_option maxRecDepth 100000
end Go.Proofs.YthcjckgmdokmdaaGreatDoor
namespace Go.Proofs.YthcjckgmdokmdaaGreatDoor
open Go.RowKit
open Pu Gp Ap Vp Np
set_option maxRecDepth 100000
end Go.Proofs.YthcjckgmdokmdaaGreatDoor
namespace Go.Proofs.YthcjckgmdokmdaaGreatDoor
open Go.RowKit
open Pu Gp Ap Vp Np
set_option maxRecDepth 100000
end Go.Proofs.YthcjckgmdokmdaaGreatDoor
