import Derived.Test.YtcgmohldcokccaaGreatDoorXR21
import Derived.Test.YtcgmohldcokccaaGreatDoorXR22
import Derived.Test.YtcgmohldcokccaaGreatDoorXR23
set_option linter.unusedVariables false
set_option maxHeartbeats 4000000
set_option maxRecDepth 100000
namespace Go.Proofs.YtcgmohldcokccaaGreatDoor
open Go.RowKit
open Pu Gp Ap Vp Np
attribute [local go_sem] zr Y0
theorem PI(m:Mv)(v a b c:Int)(w:World)(ht:Tab w):Ya 170 #[mv m,od v a b c] w (.tuple #[mv (YR m v a b c),.bool (Zt m v a b c),.int .i64 (YU m v a b c)]):=by
 have HC:=hid (V5 m);have HO:=hid (fun u=>Ft v a b c u);rcases Xt m with⟨HM,e⟩|⟨HM,e,hb⟩<;>rw[e]at HC<;>clear e
 ·unfold Ya;go_in;go_wp2_with (go_at_call 95;refine zc (HC.o _) ?_;intro J n)
  refine bodyPost_ret (Y9 zbk rfl rfl) rfl ⟨?_,zst⟩;simp[YR,Zt,YU,HM.o,zM]
 by_cases hx:YB v a b c=0
 ·obtain⟨-,-,-,-,-,⟨i,j⟩,⟨k,-⟩,-⟩:=hb;have HX:=hid hx;rw[hx]at HO;cases h0:m.ou == 0
  ·clear hx;have HP:Hid (∀u,Ya 216 #[mv m] u (.bool false)):=hid fun u=>by
    have h:¬m.ou=0:=by simpa using h0
    unfold Ya;go_in;go_wp2;go_ret;exact⟨by simp,zst⟩
   unfold Ya;go_in;go_wp2_with (first|(go_at_call 95;refine zc (HC.o _) ?_;intro J n)|(go_at_call 101;refine zc (HO.o _) ?_;intro J1 n1))
   refine Yk (by kernel_rfl) (by kernel_rfl) ?_;repeat(any_goals (go_big_quiet_step (with_reducible exact Calls.cl (HP.o _))))
   refine wpQuiet_nil ?_;intro w' h';obtain⟨J2,n2,rfl⟩:=h'.more
   go_wp2
   all_goals
    refine bodyPost_ret (Y9 zbk rfl rfl) rfl ⟨?_,zst⟩;simp[YR,Zt,YU,HM.o,HX.o,VY,h0]
  rcases JF hx with⟨rfl,h1,h2,h3,h4⟩|rfl|⟨rfl,h1,h2⟩|⟨rfl,h1,h2⟩|⟨rfl,h1,h2⟩|⟨rfl,h1,h2⟩|⟨rfl,h1,h2⟩
  ·exact act1 m a b c w h1 h2 h3 h4 HC HO HM HX h0
  ·exact P7 m a b c w HC HO HM HX h0
  ·exact P8 m a b c w HC HO HM HX h0
  ·by_cases d:0<m.co
   ·exact PA m a b c w d HC HO HM HX h0
   by_cases e:m.en<10*a
   ·exact PB m a b c w h1 h2 d e HC HO HM HX h0
   ·exact PC m a b c w h1 h2 d k e j HC HO HM HX h0
  ·obtain rfl|rfl:a=0\/a=1:=by omega
   ·exact PD m b c w HC HO HM HX h0
   cases e:m.en == 0
   ·exact PF m b c w e i HC HO HM HX h0
   ·exact PE m b c w e HC HO HM HX h0
  ·by_cases e:m.en<20
   ·exact PG m a b c w e HC HO HM HX h0
   ·exact PH m a b c w e j (hid (fun u h=>WK a u (ht.sT h))) HC HO HM HX h0
  ·exact P9 m a b c w HC HO HM HX h0
 ·clear hb;have HX:=hid hx;generalize ex:YB v a b c=x at *
  have HE:=hid ex;have hx1:(x != 0)=true:=by simpa using hx
  clear ex hx;unfold Ya;go_in;go_wp2_with (first|(go_at_call 95;refine zc (HC.o _) ?_;intro J n)|(go_at_call 101;refine zc (HO.o _) ?_;intro J1 n1))
  refine bodyPost_ret (Y9 zbk rfl rfl) rfl ⟨?_,zst⟩;have hx:=HX.o;simp[YR,Zt,YU,HM.o,hx,HE.o,zM]
end Go.Proofs.YtcgmohldcokccaaGreatDoor
