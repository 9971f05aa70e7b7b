import Derived.Test.YthcjckgmdokmdaaGreatDoorXQ07
import Derived.Deep.AppendLies
namespace Go.Proofs.YthcjckgmdokmdaaGreatDoor
open Go.RowKit
set_option maxRecDepth 100000
section
variable {α:Type} {e:TypeId}
end
end Go.Proofs.YthcjckgmdokmdaaGreatDoor
