import Derived.Test.YtcgmohldcokccaaGreatDoorXR20
set_option linter.unusedVariables false
set_option maxHeartbeats 4000000
namespace Go.Proofs.YtcgmohldcokccaaGreatDoor
open Go.RowKit
open Pu Gp Ap Vp Np
set_option maxRecDepth 100000
attribute [local go_sem] zr Y0 Kt QD QB QC QF QE XW Xj Jz J7
attribute [local go_sem ↓] Go.wp_at_zero Go.wp_at_succ
variable (m:Mv) (a b c:Int) (w:World)
theorem PC(h3:0<m.co):AG m 4 a b c w:=Xy
theorem PD(h1:1<=a)(h2:a<=3)(h3:¬0<m.co)(h4:m.en<10*a):AG m 4 a b c w:=Xy
theorem PE(h1:1<=a)(h2:a<=3)(h3:¬0<m.co)(h6:0<=m.co)(h4:¬m.en<10*a)(h5:m.en<=100):AG m 4 a b c w:=Xy
theorem PF:AG m 5 0 b c w:=Xy
end Go.Proofs.YtcgmohldcokccaaGreatDoor
