import Derived.Test.YtcgmohldcokccaaGreatDoorXR20
set_option linter.unusedVariables false
set_option maxHeartbeats 4000000
set_option maxRecDepth 100000
namespace Go.Proofs.YtcgmohldcokccaaGreatDoor
open Go.RowKit
open Pu Gp Ap Vp Np
attribute [local go_sem] zr Y0 Kn Q8 Q6 Q7 QA Q9 XU Xh Jt Ju
attribute [local go_sem ↓] Go.wp_at_zero Go.wp_at_succ
variable (m:Mv) (a b c:Int) (w:World)
theorem act1(h1:-8<=a)(h2:a<=8)(h3:-8<=b)(h4:b<=8):AG m 1 a b c w:=Xw
theorem P7:AG m 2 a b c w:=Xw
theorem P8:AG m 3 a b c w:=Xw
theorem P9:AG m 7 a b c w:=Xw
end Go.Proofs.YtcgmohldcokccaaGreatDoor
