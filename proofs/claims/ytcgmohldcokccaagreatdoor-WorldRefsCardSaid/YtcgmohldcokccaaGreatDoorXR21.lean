import Derived.Test.YtcgmohldcokccaaGreatDoorXR20
set_option linter.unusedVariables false
set_option maxHeartbeats 4000000
namespace Go.Proofs.YtcgmohldcokccaaGreatDoor
open Go.RowKit
open Pu Gp Ap Vp Np
set_option maxRecDepth 100000
attribute [local go_sem] zr Y0 Kt QD QB QC QF QE XW Xj Jz J7
attribute [local go_sem ↓] Go.wp_at_zero Go.wp_at_succ
variable (m:Mv) (a b c:Int) (w:World)
theorem act1(h1:-8<=a)(h2:a<=8)(h3:-8<=b)(h4:b<=8):AG m 1 a b c w:=Xy
theorem P9:AG m 2 a b c w:=Xy
theorem PA:AG m 3 a b c w:=Xy
theorem PB:AG m 7 a b c w:=Xy
end Go.Proofs.YtcgmohldcokccaaGreatDoor
