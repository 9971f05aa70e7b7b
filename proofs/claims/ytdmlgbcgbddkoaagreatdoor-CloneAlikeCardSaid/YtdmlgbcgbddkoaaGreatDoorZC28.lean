/- Parts of the proof, laid end to end. -/
import Derived.Test.YtdmlgbcgbddkoaaGreatDoorZC13
import Derived.Test.YtdmlgbcgbddkoaaGreatDoorZC03
import Derived.Test.YtdmlgbcgbddkoaaGreatDoorZC02
import Derived.Test.YtdmlgbcgbddkoaaGreatDoorZC25
import Derived.Test.YtdmlgbcgbddkoaaGreatDoorZC18
namespace Go.Proofs.YtdmlgbcgbddkoaaGreatDoor
open Go.RowKit
open Pu Gp Ap Vp Np Za Ka Ja
set_option maxRecDepth 100000
end Go.Proofs.YtdmlgbcgbddkoaaGreatDoor
namespace Go.Proofs.YtdmlgbcgbddkoaaGreatDoor
open Go.RowKit
open Pu Gp Ap Vp Np Za Ka Ja
set_option maxRecDepth 100000
end Go.Proofs.YtdmlgbcgbddkoaaGreatDoor
namespace Go.Proofs.YtdmlgbcgbddkoaaGreatDoor
open Go.RowKit
open Ea
set_option maxRecDepth 100000
end Go.Proofs.YtdmlgbcgbddkoaaGreatDoor
namespace Go.Proofs.YtdmlgbcgbddkoaaGreatDoor
open Go.RowKit
open Ea
set_option maxRecDepth 100000
end Go.Proofs.YtdmlgbcgbddkoaaGreatDoor
