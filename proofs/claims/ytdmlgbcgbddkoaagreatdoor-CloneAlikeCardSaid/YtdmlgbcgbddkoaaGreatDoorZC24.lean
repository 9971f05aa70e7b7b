/- Parts of the proof, laid end to end. -/
import Derived.Test.YtdmlgbcgbddkoaaGreatDoorZC17
import Derived.Test.YtdmlgbcgbddkoaaGreatDoorZC21
import Derived.Test.YtdmlgbcgbddkoaaGreatDoorZC23
import Derived.Deep.DeepCutAuto
namespace Go.Proofs.YtdmlgbcgbddkoaaGreatDoor
open Go.RowKit
open Pu Gp Ap Vp Np Za Ka Ja Ea Ha Hg Hi
set_option maxRecDepth 100000
end Go.Proofs.YtdmlgbcgbddkoaaGreatDoor
