import Derived.Test.YtcgmohldcokccaaGreatDoorXR20
set_option linter.unusedVariables false
set_option maxHeartbeats 4000000
set_option maxRecDepth 100000
namespace Go.Proofs.YtcgmohldcokccaaGreatDoor
open Go.RowKit
open Pu Gp Ap Vp Np
attribute [local go_sem] zr Y0 Kn Q8 Q6 Q7 QA Q9 XU Xh Jt Ju
attribute [local go_sem ↓] Go.wp_at_zero Go.wp_at_succ
variable (m:Mv) (a b c:Int) (w:World)
theorem PE(h1:(m.en == 0)=true):AG m 5 1 b c w:=Xw
theorem PF(h1:(m.en == 0)=false)(h2:0<=m.en):AG m 5 1 b c w:=Xw
theorem PG(h1:m.en<20):AG m 6 a b c w:=Xw
theorem PH(h1:¬m.en<20)(h2:m.en<=100)(HU:Hid (∀u,Yc w u->Ya 282 #[.int .i64 a] u (pt (ux (dir a)) (uy (dir a))))):AG m 6 a b c w:=Xw
end Go.Proofs.YtcgmohldcokccaaGreatDoor
