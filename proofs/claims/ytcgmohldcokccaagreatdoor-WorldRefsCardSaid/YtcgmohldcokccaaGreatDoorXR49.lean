import Derived.Test.YtcgmohldcokccaaGreatDoorXR48
set_option linter.unusedVariables false
set_option maxHeartbeats 8000000
set_option maxRecDepth 100000
namespace Go.Proofs.YtcgmohldcokccaaGreatDoor
open Go.RowKit
open Pu Gp Ap Vp Np
open Ja
attribute [local go_sem] zr Y0
theorem Qx{p:Prop}(h:p:=by
  unfold Ya;go_in
  go_wp2_with (first|(go_at_call 235;(first|with_reducible refine zc (HMa.o _) ?_|with_reducible refine zc (HMb.o _) ?_);intro J n)|(go_at_call 236;(first|with_reducible refine zc (HPa.o _) ?_|with_reducible refine zc (HPb.o _) ?_);intro J n));try (go_region;all_goals go_wp2_with fail)
  all_goals
   refine bodyPost_ret (X3 zbk zbk rfl rfl rfl) rfl ⟨?_,zst⟩;clear HMa HMb HPa HPb;have ha:=Ha.o;have hb:=Hb.o
   try have hc:=Hc.o
   try have hd:=Hd.o
   simp_all[Zq,ZR,Zp,zM]):p:=h
theorem RF(a b:Mv)(w:World):Ya 175 #[mv a,mv b] w (.tuple #[mv (Zq a b),mv (Zq b a),.int .i64 (Zp (ZR a b))]):=by
 have HMa:=hid (D0 a);have HMb:=hid (D0 b);have HPa:=hid (Dz a);have HPb:=hid (Dz b);rcases ha:Yw a<;>rcases hb:Yw b<;>rw[ha]at HMa<;>rw[hb]at HMb<;>have Ha:=hid ha<;>have Hb:=hid hb<;>clear ha hb
 ·exact Qx
 ·exact Qx
 ·exact Qx
 ·rcases ha:a.ou == 0<;>rcases hb:b.ou == 0<;>rw[ha]at HPa<;>rw[hb]at HPb<;>have Hc:=hid ha<;>have Hd:=hid hb<;>clear ha hb
  all_goals exact Qx
end Go.Proofs.YtcgmohldcokccaaGreatDoor
