/- What a row's list of variables gives: the table. -/
import Derived.Test.YtbadpcdlhgbegaaDoorRows
import Derived.Test.YtbadpcdlhgbegaaDoorTb
import Derived.Lay
import Derived.LaidMore
import Derived.Stop.Joined
import Derived.Lib.LaidTab
import Derived.KernelRfl
namespace Go.Proofs.YtbadpcdlhgbegaaDoor
open Go.RowKit

def LL : List (String × DataW Unit) := [("echelon/digest.factors", Rows.laid_echelon_digest_factors)]
def facs : List Int := [13787848793156543929, 10723151780598845931, 1099511628211, 11400714819323198485]
theorem gFac : Tryd.prog.globalNamed "echelon/digest.factors" = some 0 := by kernel_rfl
set_option maxRecDepth 100000 in
theorem tab_of {W : World} (hL : laidMet Tryd.prog LL W) : Tab W := by
  have h5 : laidMet Tryd.prog (("echelon/digest.factors", Lib.tabData .u64 facs) :: []) W := hL
  have t5 := Lib.tabIs_of_head (t := 53) (e := 22) (n := 4) gFac (by kernel_rfl) Tryd.underlying53 Tryd.underlying22 (by kernel_rfl) (by kernel_rfl) h5
  exact ⟨t5.cell gFac 0 (by decide), t5.cell gFac 1 (by decide), t5.cell gFac 3 (by decide)⟩
end Go.Proofs.YtbadpcdlhgbegaaDoor
