/- A way that is not longer than that; the box around a point. -/
import Derived.Test.YtaalbkmdmocdeaaDoorCk
namespace Go.Proofs.YtaalbkmdmocdeaaDoor
open Go.RowKit
open Pu Gp

def capf (v f m : Int) : Int := if f ≤ m then v else Gp.part v m (f + 1)
theorem clamp_in (n : Int) : 0 ≤ clampf n 0 2147483647 ∧ clampf n 0 2147483647 ≤ 2147483647 := by
  have h1 : bnd 0 = 0 := by decide
  have h2 : bnd 2147483647 = 2147483647 := by decide
  have h3 := bnd_lo n
  have h4 := bnd_hi n
  unfold clampf
  rw [h1, h2]
  repeat' split
  all_goals omega
theorem wrap_part {x m k : Int} (h0 : -2147483647 ≤ (x * m).tdiv k) (h1 : (x * m).tdiv k ≤ 2147483647) : IntKind.i64.wrap ((x * m).tdiv k) = (x * m).tdiv k := by
  rw [IntKind.wrap_i64]; omega
end Go.Proofs.YtaalbkmdmocdeaaDoor
