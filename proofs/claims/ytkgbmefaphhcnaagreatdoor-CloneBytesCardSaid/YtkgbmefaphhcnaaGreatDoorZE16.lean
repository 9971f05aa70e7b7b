/- Parts of the proof, laid end to end. -/
import Derived.Test.YtkgbmefaphhcnaaGreatDoorZE03
import Derived.Test.YtkgbmefaphhcnaaGreatDoorZE02
import Derived.Deep.RegionLaw
import Derived.Test.YtkgbmefaphhcnaaGreatDoorZE00
set_option maxRecDepth 100000
namespace Go.Proofs.YtkgbmefaphhcnaaGreatDoor
open Go.RowKit
end Go.Proofs.YtkgbmefaphhcnaaGreatDoor
namespace Go.Proofs.YtkgbmefaphhcnaaGreatDoor
open Go.RowKit
end Go.Proofs.YtkgbmefaphhcnaaGreatDoor
namespace Go.Proofs.YtkgbmefaphhcnaaGreatDoor
end Go.Proofs.YtkgbmefaphhcnaaGreatDoor
namespace Go.Proofs.YtkgbmefaphhcnaaGreatDoor
open Go.RowKit
end Go.Proofs.YtkgbmefaphhcnaaGreatDoor
