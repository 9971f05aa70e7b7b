import Derived.Test.YtcgmohldcokccaaGreatDoorXS20
set_option linter.unusedVariables false
set_option maxHeartbeats 4000000
namespace Go.Proofs.YtcgmohldcokccaaGreatDoor
open Go.RowKit
open Pu Gp Ap Vp Np
set_option maxRecDepth 100000
attribute [local go_sem] zr Y8 Kn Q1 Qy Qz Q3 Q2 XR Xd Jt Ju
attribute [local go_sem ↓] Go.wp_at_zero Go.wp_at_succ
variable (m:Mv) (a b c:Int) (w:World)
theorem PA(h3:0<m.co):AG m 4 a b c w:=Xt
theorem PB(h1:1<=a)(h2:a<=3)(h3:¬0<m.co)(h4:m.en<10*a):AG m 4 a b c w:=Xt
theorem PC(h1:1<=a)(h2:a<=3)(h3:¬0<m.co)(h6:0<=m.co)(h4:¬m.en<10*a)(h5:m.en<=100):AG m 4 a b c w:=Xt
theorem PD:AG m 5 0 b c w:=Xt
end Go.Proofs.YtcgmohldcokccaaGreatDoor
