/- Parts of the proof, laid end to end. -/
import Derived.Test.YtkgbmefaphhcnaaGreatDoorZE17
import Derived.Test.YtkgbmefaphhcnaaGreatDoorZE22
import Derived.Test.YtkgbmefaphhcnaaGreatDoorZE27
import Derived.Deep.DeepCutAuto
namespace Go.Proofs.YtkgbmefaphhcnaaGreatDoor
open Go.RowKit
open Pu Gp Ap Vp Np Za Ka Ja Ea Ha Hg Hi
set_option maxRecDepth 100000
end Go.Proofs.YtkgbmefaphhcnaaGreatDoor
