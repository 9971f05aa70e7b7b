import Derived.Test.YtcgmohldcokccaaGreatDoorXS20
set_option linter.unusedVariables false
set_option maxHeartbeats 4000000
namespace Go.Proofs.YtcgmohldcokccaaGreatDoor
open Go.RowKit
open Pu Gp Ap Vp Np
set_option maxRecDepth 100000
attribute [local go_sem] zr Y8 Kn Q1 Qy Qz Q3 Q2 XR Xd Jt Ju
attribute [local go_sem ↓] Go.wp_at_zero Go.wp_at_succ
variable (m:Mv) (a b c:Int) (w:World)
theorem act1(h1:-8<=a)(h2:a<=8)(h3:-8<=b)(h4:b<=8):AG m 1 a b c w:=Xt
theorem P7:AG m 2 a b c w:=Xt
theorem P8:AG m 3 a b c w:=Xt
theorem P9:AG m 7 a b c w:=Xt
end Go.Proofs.YtcgmohldcokccaaGreatDoor
