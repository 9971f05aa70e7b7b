/- Parts of the proof, laid end to end. -/
import Derived.Test.YthcjckgmdokmdaaGreatDoorXS18
import Derived.Test.YthcjckgmdokmdaaGreatDoorXS17
import Derived.Test.YthcjckgmdokmdaaGreatDoorXS20
import Derived.Deep.DeepCutAuto
namespace Go.Proofs.YthcjckgmdokmdaaGreatDoor
open Go.RowKit
open Pu Gp Ap Vp Np Za Ka Ja Ea Ha Hg Hi
set_option maxRecDepth 100000
end Go.Proofs.YthcjckgmdokmdaaGreatDoor
