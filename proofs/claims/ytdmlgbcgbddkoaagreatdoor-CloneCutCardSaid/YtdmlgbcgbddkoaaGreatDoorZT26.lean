/- Parts of the proof, laid end to end. -/
import Derived.Test.YtdmlgbcgbddkoaaGreatDoorZT14
import Derived.Test.YtdmlgbcgbddkoaaGreatDoorZT19
import Derived.Test.YtdmlgbcgbddkoaaGreatDoorZT25
import Derived.Deep.DeepCutAuto
namespace Go.Proofs.YtdmlgbcgbddkoaaGreatDoor
open Go.RowKit
open Pu Gp Ap Vp Np Za Ka Ja Ea Ha Hg Hi
set_option maxRecDepth 100000
end Go.Proofs.YtdmlgbcgbddkoaaGreatDoor
