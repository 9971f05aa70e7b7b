import Derived.Test.YthcjckgmdokmdaaGreatDoorXQ15
import Derived.Test.YthcjckgmdokmdaaGreatDoorXQ14
import Derived.Test.YthcjckgmdokmdaaGreatDoorXQ17
namespace Go.Proofs.YthcjckgmdokmdaaGreatDoor
open Go.RowKit
open Pu Gp Ap Vp Np Za Ka Ja Ea Ha Hg Hi
set_option maxRecDepth 100000
end Go.Proofs.YthcjckgmdokmdaaGreatDoor
