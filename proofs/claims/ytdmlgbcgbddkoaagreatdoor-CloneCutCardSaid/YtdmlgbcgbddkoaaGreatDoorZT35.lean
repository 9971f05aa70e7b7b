/- Parts of the proof, laid end to end. -/
import Derived.Test.YtdmlgbcgbddkoaaGreatDoorZT13
import Derived.Test.YtdmlgbcgbddkoaaGreatDoorZT33
import Derived.Test.YtdmlgbcgbddkoaaGreatDoorZT34
namespace Go.Proofs.YtdmlgbcgbddkoaaGreatDoor
open Go Go.RowKit
open Pu Gp Ap Vp Np Za Ka Ja Ygp
set_option maxRecDepth 100000
attribute [local go_sem] Oper.semAt_some
end Go.Proofs.YtdmlgbcgbddkoaaGreatDoor
namespace Go.Proofs.YtdmlgbcgbddkoaaGreatDoor
open Go Go.RowKit
open Pu Gp Ap Vp Np Za Ka Ja Ygp
set_option maxRecDepth 100000
attribute [local go_sem] Oper.semAt_some
end Go.Proofs.YtdmlgbcgbddkoaaGreatDoor
namespace Go.Proofs.YtdmlgbcgbddkoaaGreatDoor
open Go Go.RowKit
open Pu Gp Ap Vp Np Za Ka Ja Ygp
set_option maxRecDepth 100000
end Go.Proofs.YtdmlgbcgbddkoaaGreatDoor
namespace Go.Proofs.YtdmlgbcgbddkoaaGreatDoor
open Go Go.RowKit
open Pu Gp Ap Vp Np Za Ka Ja Ygp
set_option maxRecDepth 100000
end Go.Proofs.YtdmlgbcgbddkoaaGreatDoor
namespace Go.Proofs.YtdmlgbcgbddkoaaGreatDoor
open Go Go.RowKit
open Pu Gp Ap Vp Np Za Ka Ja Ygp
set_option maxRecDepth 100000
end Go.Proofs.YtdmlgbcgbddkoaaGreatDoor
namespace Go.Proofs.YtdmlgbcgbddkoaaGreatDoor
open Go Go.RowKit
open Pu Gp Ap Vp Np Za Ka Ja Ygp
set_option maxRecDepth 100000
attribute [local go_sem] Oper.semAt_some
end Go.Proofs.YtdmlgbcgbddkoaaGreatDoor
namespace Go.Proofs.YtdmlgbcgbddkoaaGreatDoor
open Go Go.RowKit
open Pu Gp Ap Vp Np Za Ka Ja Ygp
set_option maxRecDepth 100000
attribute [local go_sem] Oper.semAt_some
end Go.Proofs.YtdmlgbcgbddkoaaGreatDoor
