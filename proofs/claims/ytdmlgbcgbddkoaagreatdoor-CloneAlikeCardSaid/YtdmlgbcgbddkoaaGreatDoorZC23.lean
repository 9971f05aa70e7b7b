/- Parts of the proof, laid end to end. -/
import Derived.Test.YtdmlgbcgbddkoaaGreatDoorZC20
import Derived.Deep.RegionWith
import Derived.Deep.DeepCutAuto
import Derived.Test.YtdmlgbcgbddkoaaGreatDoorZC02
import Derived.Deep.RegionHeld3
import Derived.Test.YtdmlgbcgbddkoaaGreatDoorZC01
namespace Go.Proofs.YtdmlgbcgbddkoaaGreatDoor
open Go.RowKit
open Pu Gp Ap Vp Np
set_option maxRecDepth 100000
end Go.Proofs.YtdmlgbcgbddkoaaGreatDoor
namespace Go.Proofs.YtdmlgbcgbddkoaaGreatDoor
open Go.RowKit
open Pu Gp Ap Vp Np
set_option maxRecDepth 100000
end Go.Proofs.YtdmlgbcgbddkoaaGreatDoor
namespace Go.Proofs.YtdmlgbcgbddkoaaGreatDoor
open Go.RowKit
open Pu Gp Ap Vp Np
set_option maxRecDepth 100000
end Go.Proofs.YtdmlgbcgbddkoaaGreatDoor
namespace Go.Proofs.YtdmlgbcgbddkoaaGreatDoor
open Go.RowKit
open Pu Gp Ap Vp Np
set_option maxRecDepth 100000
end Go.Proofs.YtdmlgbcgbddkoaaGreatDoor
