/- Parts of the proof, laid end to end. -/
import Derived.Test.YtkgbmefaphhcnaaGreatDoorZU14
import Derived.Test.YtkgbmefaphhcnaaGreatDoorZU36
import Derived.Test.YtkgbmefaphhcnaaGreatDoorZU37
namespace Go.Proofs.YtkgbmefaphhcnaaGreatDoor
open Go Go.RowKit
open Pu Gp Ap Vp Np Za Ka Ja Ygp
set_option maxRecDepth 100000
attribute [local go_sem] Oper.semAt_some
end Go.Proofs.YtkgbmefaphhcnaaGreatDoor
namespace Go.Proofs.YtkgbmefaphhcnaaGreatDoor
open Go Go.RowKit
open Pu Gp Ap Vp Np Za Ka Ja Ygp
set_option maxRecDepth 100000
attribute [local go_sem] Oper.semAt_some
end Go.Proofs.YtkgbmefaphhcnaaGreatDoor
namespace Go.Proofs.YtkgbmefaphhcnaaGreatDoor
open Go Go.RowKit
open Pu Gp Ap Vp Np Za Ka Ja Ygp
set_option maxRecDepth 100000
end Go.Proofs.YtkgbmefaphhcnaaGreatDoor
namespace Go.Proofs.YtkgbmefaphhcnaaGreatDoor
open Go Go.RowKit
open Pu Gp Ap Vp Np Za Ka Ja Ygp
set_option maxRecDepth 100000
end Go.Proofs.YtkgbmefaphhcnaaGreatDoor
namespace Go.Proofs.YtkgbmefaphhcnaaGreatDoor
open Go Go.RowKit
open Pu Gp Ap Vp Np Za Ka Ja Ygp
set_option maxRecDepth 100000
end Go.Proofs.YtkgbmefaphhcnaaGreatDoor
namespace Go.Proofs.YtkgbmefaphhcnaaGreatDoor
open Go Go.RowKit
open Pu Gp Ap Vp Np Za Ka Ja Ygp
set_option maxRecDepth 100000
attribute [local go_sem] Oper.semAt_some
end Go.Proofs.YtkgbmefaphhcnaaGreatDoor
namespace Go.Proofs.YtkgbmefaphhcnaaGreatDoor
open Go Go.RowKit
open Pu Gp Ap Vp Np Za Ka Ja Ygp
set_option maxRecDepth 100000
attribute [local go_sem] Oper.semAt_some
end Go.Proofs.YtkgbmefaphhcnaaGreatDoor
