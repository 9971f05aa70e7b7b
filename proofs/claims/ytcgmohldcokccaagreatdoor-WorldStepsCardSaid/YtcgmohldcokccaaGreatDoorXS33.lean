import Derived.Test.YtcgmohldcokccaaGreatDoorXS08
import Derived.Deep.AppendLies
set_option linter.unusedVariables false
namespace Go.Proofs.YtcgmohldcokccaaGreatDoor
open Go.RowKit
set_option maxRecDepth 100000
section
variable {α:Type} {e:TypeId}
end
end Go.Proofs.YtcgmohldcokccaaGreatDoor
