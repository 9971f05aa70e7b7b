import Derived.Test.YtcgmohldcokccaaGreatDoorXR08
import Derived.Deep.AppendLies
set_option linter.unusedVariables false
set_option maxRecDepth 100000
namespace Go.Proofs.YtcgmohldcokccaaGreatDoor
open Go.RowKit
section
variable {α:Type} {e:TypeId}
end
end Go.Proofs.YtcgmohldcokccaaGreatDoor
