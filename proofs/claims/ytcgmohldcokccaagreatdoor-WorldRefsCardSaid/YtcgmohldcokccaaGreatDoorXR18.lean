import Derived.Test.YtcgmohldcokccaaGreatDoorXR03
import Derived.Deep.DrawnRows
set_option linter.unusedVariables false
set_option maxHeartbeats 4000000
set_option maxRecDepth 100000
namespace Go.Proofs.YtcgmohldcokccaaGreatDoor
open Go.RowKit
open Pu Gp Ap Vp Np
attribute [local go_sem] zr Y0
attribute [local go_sem ↓] Go.wp_at_zero Go.wp_at_succ
theorem FH(s p SX P:Int)(s1:-1024<=s)(s2:s<=1024)(p1:-256<=p)(p2:p<=256)(eSX:(s*7).tdiv 8=SX)(x1:-1024<=SX)(x2:SX<=1024)(eP:Yl (SX+p) (-1024) 1024=P)(w:World):Ya 285 #[.int .i64 s,.int .i64 p] w (.int .i64 P):=by
 have HP:Hid (min (max (SX+p) (-1024)) 1024=P):=hid (by
  rw[<- eP];unfold Yl;rw[bnd_is.2 (show -2147483647<=SX+p/\SX+p<=2147483647 by omega),bnd_is.2 (show -2147483647<=(1024:Int)/\(1024:Int)<=2147483647 by omega),bnd_is.2 (show -2147483647<=(-1024:Int)/\(-1024:Int)<=2147483647 by omega)];repeat' split
  all_goals omega)
 clear eP;unfold Ya;go_in;go_wp2_with fail;go_ret
 exact⟨by rw[<- HP.o];rfl,zst⟩
theorem FI(P DP:Int)(e:P.tdiv 2=DP)(d1:-1024<=DP)(d2:DP<=1024)(w:World):Ya 287 #[.int .i64 P] w (.int .i64 (-DP)):=by
 unfold Ya;go_in;go_wp2_with fail;go_ret
 exact⟨rfl,zst⟩
theorem Q5{n d:Int}(hd:1<=d)(k:Int)(h1:-k*d<=n)(h2:n<=k*d):-k<=n.tdiv d/\n.tdiv d<=k:=by
 rcases Int.le_total 0 n with h|h
 ·rw[Int.tdiv_eq_ediv_of_nonneg h];have h3:n / d<=k:=by
   have:=Int.ediv_le_ediv (show 0<d by omega) h2;rwa [Int.mul_ediv_cancel _ (by omega)]at this
  have h4:0<=n / d:=Int.ediv_nonneg h (by omega);omega
 ·have e:n.tdiv d=-((-n).tdiv d):=by rw[Int.neg_tdiv];omega
  rw[e,Int.tdiv_eq_ediv_of_nonneg (by omega)];have h3:-n / d<=k:=by
   have:=Int.ediv_le_ediv (show 0<d by omega) (show -n<=k*d by rw[Int.neg_mul]at h1;omega);rwa [Int.mul_ediv_cancel _ (by omega)]at this
  have h4:0 <= -n / d:=Int.ediv_nonneg (by omega) (by omega);omega
theorem P1(a b c d:Nat):ZM a b c d=0\/ZM a b c d=1\/ZM a b c d=2\/ZM a b c d=3:=by
 unfold ZM;split<;>split<;>omega
theorem P2(m:Mv)(C R:Int)(s:ByteArray)(P Q X Y N DP DQ:Int)(hN:N=0\/N=1\/N=2\/N=3)(HC:Hid (∀u,Ya 95 #[mv m] u (.int .i64 0)))(h0:(m.ou == 0)=true)
  (H1:Hid (∀u,Ya 285 #[.int .i64 m.sx,.int .i64 m.px] u (.int .i64 P))) (H2:Hid (∀u,Ya 285 #[.int .i64 m.sy,.int .i64 m.py] u (.int .i64 Q)))
  (B1:Hid (∀u,Ya 287 #[.int .i64 P] u (.int .i64 (-DP)))) (B2:Hid (∀u,Ya 287 #[.int .i64 Q] u (.int .i64 (-DQ))))
  (HS:Hid (∀u,Ya 286 #[ar C R s,pt m.ax m.ay,pt P Q,.int .i64 1280] u (.tuple #[pt X Y,.int .i64 N]))) (w:World) :
  Ya 173 #[mv m,ar C R s] w (.tuple #[mv { m with ax:=X,ay:=Y,sx:=if N % 2=1 then -DP else P,sy:=if 2<=N then -DQ else Q },.int .i64 0]):=by
 unfold Ya;rcases hN with rfl|rfl|rfl|rfl;all_goals
  go_in
  go_wp2_with (first|(go_at_call 95;refine zc (HC.o _) ?_;intro J n)|(go_at_call 285;fail)|go_in);refine Yp 31 (by kernel_rfl) (by kernel_rfl) ?_;simp only[tkd];repeat(go_big_quiet_step (first|with_reducible exact Calls.cl (H1.o _)|with_reducible exact Calls.cl (H2.o _)))
  refine wpQuiet_nil ?_;intro w' h';obtain⟨J1,n1,rfl⟩:=h'.more
  go_wp2
  refine Bt 15 4 #[.int .i64 0,.int .i64 0] #[.int .i64 X,.int .i64 Y] 57 rfl rfl nwz ?_;apply Exists.intro;refine And.intro ?_ (And.intro ?_ ?_)
  ·intro u hu;obtain⟨J2,n2,rfl⟩:=hu.more;simp only[Y4,tkd,tkq,Nat.reduceAdd];repeat(go_big_quiet_step (with_reducible exact Calls.cl (HS.o _)))
   exact wpQuiet_nil rfl
  ·exact fun u g hh=>stz hh rfl rfl rfl (by kernel_rfl) (by simp[Value.oneCell']) ⟨rfl,rfl⟩
  intro J2 n2 K k;go_wp2_with (first|(go_at_call 287;(first|refine zc (B1.o _) ?_|refine zc (B2.o _) ?_);intro J3 n3)|go_in|((first|go_end0|refine bodyPost_ret (results_none rfl _ _ _) rfl ?_);simp only[];go_at_K));refine bodyPost_ret (YF zbk rfl rfl) rfl ⟨?_,zst⟩;rfl
theorem P3(m:Mv)(C R:Int)(s:ByteArray)(hz:s.size<=281474976710656)(w:World):Ya 173 #[mv m,ar C R s] w (.tuple #[mv (Zl (Yg C R s) m),.int .i64 (YC m)]):=by
  have HC:=hid (V5 m);rcases Xt m with⟨HM,e⟩|⟨HM,e,g1,g2,g3,g4,g5,g6,g7,g8,g9,g10,g11⟩<;>rw[e]at HC⊢<;>clear e
  · unfold Ya;go_in;go_wp2_with (go_at_call 95;refine zc (HC.o _) ?_;intro J n)
    refine bodyPost_ret (YF zbk rfl rfl) rfl ⟨?_,zst⟩;simp[Zl,HM.o,zM]
  cases h0:m.ou == 0
  · have HG:Hid (Zl (Yg C R s) m=m):=hid (by unfold Zl UJ;rw[if_pos HM.o,if_neg (by simpa using h0)])
    rw[HG.o];unfold Ya;go_in;go_wp2_with (first|(go_at_call 95;refine zc (HC.o _) ?_;intro J n)|(go_at_call 230;fail)|go_in)
    refine bodyPost_ret (YF zbk rfl rfl) rfl ⟨rfl,zst⟩
  · have t1:=Q5 (n:=m.sx*7) (d:=8) (by omega) 1024 (by omega) (by omega)
    have t2:=Q5 (n:=m.sy*7) (d:=8) (by omega) 1024 (by omega) (by omega);have s1:=UL m.sx m.px;have s2:=UL m.sy m.py;have t3:=Q5 (n:=spd m.sx m.px) (d:=2) (by omega) 1024 (by omega) (by omega);have t4:=Q5 (n:=spd m.sy m.py) (d:=2) (by omega) 1024 (by omega) (by omega);have k:=P2 m C R s (spd m.sx m.px) (spd m.sy m.py) _ _ _ _ _ (P1 _ _ _ _) HC h0
        (hid (FH m.sx m.px _ _ g2.1 g2.2.1 g3.1 g3.2.1 rfl t1.1 t1.2 rfl)) (hid (FH m.sy m.py _ _ g2.2.2.1 g2.2.2.2 g3.2.2.1 g3.2.2.2 rfl t2.1 t2.2 rfl))
        (hid (FI _ _ rfl t3.1 t3.2)) (hid (FI _ _ rfl t4.1 t4.2))
        (hid (fun u=>IG C R m.ax m.ay (spd m.sx m.px) (spd m.sy m.py) 1280 s hz _ _ _ _ 1280 _ _ _ _ _ _ rfl rfl rfl rfl (by decide) rfl rfl rfl rfl rfl rfl u)) w
    unfold Zl UJ;rw[if_pos HM.o,if_pos (by simpa using h0)];exact k
end Go.Proofs.YtcgmohldcokccaaGreatDoor
