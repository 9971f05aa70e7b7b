import Derived.Test.YtcgmohldcokccaaGreatDoorXW21
import Derived.Test.YtcgmohldcokccaaGreatDoorXW22
import Derived.Test.YtcgmohldcokccaaGreatDoorXW23
set_option linter.unusedVariables false
set_option maxHeartbeats 4000000
namespace Go.Proofs.YtcgmohldcokccaaGreatDoor
open Go.RowKit
open Pu Gp Ap Vp Np
set_option maxRecDepth 100000
attribute [local go_sem] zr YD
theorem PA(m:Mv)(v a b c:Int)(w:World)(ht:Tab w):Ya 170 #[mv m,od v a b c] w (.tuple #[mv (YP m v a b c),.bool (Zv m v a b c),.int .i64 (YS m v a b c)]):=by
 have HC:=hid (V3 m);have HO:=hid (fun u=>Fc v a b c u);rcases Xr m with⟨HM,e⟩|⟨HM,e,hb⟩<;>rw[e]at HC<;>clear e
 ·unfold Ya;go_in;go_wp2_with (go_at_call 95;refine zc (HC.o _) ?_;intro J n)
  refine bodyPost_ret (Y7 zbk rfl rfl (by kernel_rfl) (by kernel_rfl)) rfl ⟨?_,zst⟩;simp[YP,Zv,YS,HM.o,zM]
 by_cases hx:YA v a b c=0
 ·obtain⟨-,-,-,-,-,⟨i,j⟩,⟨k,-⟩,-⟩:=hb;have HX:=hid hx;rw[hx]at HO;cases h0:m.ou == 0
  ·clear hx;have HP:Hid (∀u,Ya 216 #[mv m] u (.bool false)):=hid fun u=>by
    have h:¬m.ou=0:=by simpa using h0
    unfold Ya;go_in;go_wp2;go_ret;exact⟨by simp,zst⟩
   unfold Ya;go_in;go_wp2_with (first|(go_at_call 95;refine zc (HC.o _) ?_;intro J n)|(go_at_call 101;refine zc (HO.o _) ?_;intro J1 n1))
   refine Yk (by kernel_rfl) (by kernel_rfl) ?_;repeat(any_goals (go_big_quiet_step (with_reducible exact Calls.cl (HP.o _))))
   refine wpQuiet_nil ?_;intro w' h';obtain⟨J2,n2,rfl⟩:=h'.more
   go_wp2
   all_goals
    refine bodyPost_ret (Y7 zbk rfl rfl (by kernel_rfl) (by kernel_rfl)) rfl ⟨?_,zst⟩;simp[YP,Zv,YS,HM.o,HX.o,VV,h0]
  rcases JA hx with⟨rfl,h1,h2,h3,h4⟩|rfl|⟨rfl,h1,h2⟩|⟨rfl,h1,h2⟩|⟨rfl,h1,h2⟩|⟨rfl,h1,h2⟩|⟨rfl,h1,h2⟩
  ·exact act1 m a b c w h1 h2 h3 h4 HC HO HM HX h0
  ·exact Px m a b c w HC HO HM HX h0
  ·exact Py m a b c w HC HO HM HX h0
  ·by_cases d:0<m.co
   ·exact P0 m a b c w d HC HO HM HX h0
   by_cases e:m.en<10*a
   ·exact P1 m a b c w h1 h2 d e HC HO HM HX h0
   ·exact P2 m a b c w h1 h2 d k e j HC HO HM HX h0
  ·obtain rfl|rfl:a=0\/a=1:=by omega
   ·exact P5 m b c w HC HO HM HX h0
   cases e:m.en == 0
   ·exact P7 m b c w e i HC HO HM HX h0
   ·exact P6 m b c w e HC HO HM HX h0
  ·by_cases e:m.en<20
   ·exact P8 m a b c w e HC HO HM HX h0
   ·exact P9 m a b c w e j (hid (fun u h=>Wt a u (ht.sT h))) HC HO HM HX h0
  ·exact Pz m a b c w HC HO HM HX h0
 ·clear hb;have HX:=hid hx;generalize ex:YA v a b c=x at *
  have HE:=hid ex;have hx1:(x != 0)=true:=by simpa using hx
  clear ex hx;unfold Ya;go_in;go_wp2_with (first|(go_at_call 95;refine zc (HC.o _) ?_;intro J n)|(go_at_call 101;refine zc (HO.o _) ?_;intro J1 n1))
  refine bodyPost_ret (Y7 zbk rfl rfl (by kernel_rfl) (by kernel_rfl)) rfl ⟨?_,zst⟩;have hx:=HX.o;simp[YP,Zv,YS,HM.o,hx,HE.o,zM]
end Go.Proofs.YtcgmohldcokccaaGreatDoor
