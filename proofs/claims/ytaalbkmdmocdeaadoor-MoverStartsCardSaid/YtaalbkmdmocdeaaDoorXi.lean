/- The program's six functions on movers, as one bundle. -/
import Derived.Test.YtaalbkmdmocdeaaDoorNo
import Derived.Test.YtaalbkmdmocdeaaDoorXe
import Derived.Test.YtaalbkmdmocdeaaDoorXf
import Derived.Test.YtaalbkmdmocdeaaDoorXh
namespace Go.Proofs.YtaalbkmdmocdeaaDoor
open Go.RowKit
open Pu Gp Ap Vp Np

theorem cts8_any (w : World) (ht : Tab w) : Cts8 w :=
  ⟨fun x y f u _ => start8_any x y f u, fun m u _ => check8_any m u, fun m v a b c u hu => act_any m v a b c u (ht.still hu), fun m C R s u hz _ _ => glide8_any m C R s hz u, fun m h u _ => hurt8_any m h u, fun m x y u _ => rest8_any m x y u⟩
end Go.Proofs.YtaalbkmdmocdeaaDoor
