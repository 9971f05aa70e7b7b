import Derived.Test.YthcjckgmdokmdaaGreatDoorXQ41
import Derived.Test.YthcjckgmdokmdaaGreatDoorXQ42
namespace Go.Proofs.YthcjckgmdokmdaaGreatDoor
open Go.RowKit
open Pu Gp Ap Vp Np Za Ka Ja Ea Ha Hg Hi
set_option maxRecDepth 100000
abbrev Uo (q C R:Int) (s:ByteArray) (v0:Int):Env:=⟨Ym C R s,stV C s v0,spV C s v0,q⟩
end Go.Proofs.YthcjckgmdokmdaaGreatDoor
