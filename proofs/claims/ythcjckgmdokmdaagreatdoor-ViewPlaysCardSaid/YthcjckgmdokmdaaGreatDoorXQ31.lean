import Derived.RangeFuncNested
import Derived.RangeFuncBound
import Derived.RangeFuncCalls
import Derived.RangeFuncLeaves
import Derived.Shelf.Abstract
import Derived.OwnWalkIn
import Derived.TacticsInMore
import Derived.LoopNIn
import Derived.LoopIn
import Derived.Test.YthcjckgmdokmdaaGreatDoorXQ01
set_option maxRecDepth 100000
namespace Go.Proofs.YthcjckgmdokmdaaGreatDoor
open Go Go.RowKit
/-! a statement that draws, within a round -/
/-! an iterator whose rounds all go on, and which may range over others itself -/
end Go.Proofs.YthcjckgmdokmdaaGreatDoor
