import Derived.Test.YthcjckgmdokmdaaGreatDoorXQ30
import Derived.Test.YthcjckgmdokmdaaGreatDoorXQ31
namespace Go.Proofs.YthcjckgmdokmdaaGreatDoor
open Go Go.RowKit
open Pu Gp Ap Vp Np Za Ka Ja Ygp
set_option maxRecDepth 100000
attribute [local go_sem] Oper.semAt_some
attribute [local go_sem] Oper.semAt_some
attribute [local go_sem] Oper.semAt_some
attribute [local go_sem] Oper.semAt_some
end Go.Proofs.YthcjckgmdokmdaaGreatDoor
