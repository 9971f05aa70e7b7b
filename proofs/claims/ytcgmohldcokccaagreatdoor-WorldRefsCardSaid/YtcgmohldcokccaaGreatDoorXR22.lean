import Derived.Test.YtcgmohldcokccaaGreatDoorXR20
set_option linter.unusedVariables false
set_option maxHeartbeats 4000000
set_option maxRecDepth 100000
namespace Go.Proofs.YtcgmohldcokccaaGreatDoor
open Go.RowKit
open Pu Gp Ap Vp Np
attribute [local go_sem] zr Y0 Kn Q8 Q6 Q7 QA Q9 XU Xh Jt Ju
attribute [local go_sem ↓] Go.wp_at_zero Go.wp_at_succ
variable (m:Mv) (a b c:Int) (w:World)
theorem PA(h3:0<m.co):AG m 4 a b c w:=Xw
theorem PB(h1:1<=a)(h2:a<=3)(h3:¬0<m.co)(h4:m.en<10*a):AG m 4 a b c w:=Xw
theorem PC(h1:1<=a)(h2:a<=3)(h3:¬0<m.co)(h6:0<=m.co)(h4:¬m.en<10*a)(h5:m.en<=100):AG m 4 a b c w:=Xw
theorem PD:AG m 5 0 b c w:=Xw
end Go.Proofs.YtcgmohldcokccaaGreatDoor
