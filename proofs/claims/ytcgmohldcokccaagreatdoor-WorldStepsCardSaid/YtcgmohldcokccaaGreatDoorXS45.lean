import Derived.Test.YtcgmohldcokccaaGreatDoorXS44
set_option linter.unusedVariables false
set_option maxHeartbeats 8000000
set_option maxRecDepth 100000
set_option maxRecDepth 100000
set_option maxRecDepth 100000
set_option maxRecDepth 100000
namespace Go.Proofs.YtcgmohldcokccaaGreatDoor
open Go.RowKit
open Pu Gp Ap Vp Np
open Ja
set_option maxRecDepth 100000
attribute [local go_sem] zr Y8
theorem Qs{p:Prop}(h:p:=by
  unfold Ya;go_in
  go_wp2_with (first|(go_at_call 235;(first|with_reducible refine zc (HMa.o _) ?_|with_reducible refine zc (HMb.o _) ?_);intro J n)|(go_at_call 236;(first|with_reducible refine zc (HPa.o _) ?_|with_reducible refine zc (HPb.o _) ?_);intro J n));try (go_region;all_goals go_wp2_with fail)
  all_goals
   refine bodyPost_ret (X0 zbk zbk rfl rfl rfl) rfl ⟨?_,zst⟩;clear HMa HMb HPa HPb;have ha:=Ha.o;have hb:=Hb.o
   try have hc:=Hc.o
   try have hd:=Hd.o
   simp_all[Zp,ZP,Zo,zM]):p:=h
theorem Rw(a b:Mv)(w:World):Ya 175 #[mv a,mv b] w (.tuple #[mv (Zp a b),mv (Zp b a),.int .i64 (Zo (ZP a b))]):=by
 have HMa:=hid (Dk a);have HMb:=hid (Dk b);have HPa:=hid (Dj a);have HPb:=hid (Dj b);rcases ha:Yw a<;>rcases hb:Yw b<;>rw[ha]at HMa<;>rw[hb]at HMb<;>have Ha:=hid ha<;>have Hb:=hid hb<;>clear ha hb
 ·exact Qs
 ·exact Qs
 ·exact Qs
 ·rcases ha:a.ou == 0<;>rcases hb:b.ou == 0<;>rw[ha]at HPa<;>rw[hb]at HPb<;>have Hc:=hid ha<;>have Hd:=hid hb<;>clear ha hb
  all_goals exact Qs
end Go.Proofs.YtcgmohldcokccaaGreatDoor
