import Derived.Test.YthcjckgmdokmdaaGreatDoorXQ02
set_option maxHeartbeats 16000000
namespace Go.Proofs.YthcjckgmdokmdaaGreatDoor
open Go.RowKit
open Pu Gp Ap Vp Np
set_option maxRecDepth 100000
theorem Mb.spd {w:World} {g:Nat} {m:Mv} (h:Mb w g m) (x y:Int):Mb ((w.setCell ⟨g,2,none⟩ (.int .i64 x)).setCell ⟨g,3,none⟩ (.int .i64 y)) g { m with sx:=x,sy:=y }:=by
 have h1:=heap_setCell_same w g 2 _ _ (.int .i64 x) h;have h2:=heap_setCell_same _ g 3 _ _ (.int .i64 y) h1;exact h2.trans (by kernel_rfl)
theorem Rp (m:Mv) (C R:Int) (s:ByteArray) (hm:Yq m=false) (w:World):Ya 64 #[mv m,ar C R s] w (.tuple #[mv zM,.int .i64 80]):=by
 have A0:=aL w (.cells (mcs m) 56);have A1:=aL (Ye w m) (.cells #[.int .i64 C,.int .i64 R,.string s] 24);have A2:=aL (Yn (Ye w m) C R s) (.cells (mcs zM) 56);have p0:=((Yk w m).sT A1).sT A2;have o0:=(Y0 (Ye w m) C R s).sT A2;have q0:=Yk (Yn (Ye w m) C R s) zM;simp only [Yf] at o0 q0;have HS0:=hid ((A0.trans A1).trans A2);clear A0 A1 A2;obtain ⟨c0,c1,c2,c3,c4,c5,c6,c7,c8,c9,c10,c11,c12,cf⟩:=p0.cells;obtain ⟨d0,d1,d2,df⟩:=o0.cells;have H:=hid (fun w=>Y7 m w);rw [show Yi m=80 by unfold Yi; rw [hm]; rfl] at H;clear hm;go_enter Tryz.func64,Tryz.ntmps64;go_wp2_with fail;refine (H.o _).mono ?_;rintro e w1 ⟨rfl,h1⟩;have q1:=q0.sT h1;have HS1:=hid (HS0.o.trans h1);clear h1 HS0 p0 o0 q0 c0 c1 c2 c3 c4 c5 c6 c7 c8 c9 c10 c11 c12 cf d0 d1 d2 df;obtain ⟨k0,k1,k2,k3,k4,k5,k6,k7,k8,k9,k10,k11,k12,kf⟩:=q1.cells;go_wp2_with fail;refine bodyPost_ret (Mb.rest (Mb.put q1 _ _ _ _ _ _ _ _ _ _ _ _ _) rfl _ _ rfl rfl) rfl ⟨rfl, ?_⟩;repeat (first | refine Yg ?_ _ _ _ (by omega) | with_reducible exact HS1.o)
theorem Rq (m:Mv) (C R:Int) (s:ByteArray) (hm:Yq m=true) (h0:0<m.ou) (w:World):Ya 64 #[mv m,ar C R s] w (.tuple #[mv m,.int .i64 0]):=by
 have A0:=aL w (.cells (mcs m) 56);have A1:=aL (Ye w m) (.cells #[.int .i64 C,.int .i64 R,.string s] 24);have A2:=aL (Yn (Ye w m) C R s) (.cells (mcs zM) 56);have p0:=((Yk w m).sT A1).sT A2;have o0:=(Y0 (Ye w m) C R s).sT A2;have q0:=Yk (Yn (Ye w m) C R s) zM;simp only [Yf] at o0 q0;have HS0:=hid ((A0.trans A1).trans A2);clear A0 A1 A2;obtain ⟨c0,c1,c2,c3,c4,c5,c6,c7,c8,c9,c10,c11,c12,cf⟩:=p0.cells;obtain ⟨d0,d1,d2,df⟩:=o0.cells;have H:=hid (fun w=>Y7 m w);rw [show Yi m=0 by unfold Yi; rw [hm]; rfl] at H;clear hm;go_enter Tryz.func64,Tryz.ntmps64;go_wp2_with fail;refine (H.o _).mono ?_;rintro e w1 ⟨rfl,h1⟩;have p1:=p0.sT h1;have o1:=o0.sT h1;have q1:=q0.sT h1;have HS1:=hid (HS0.o.trans h1);clear h1 HS0 p0 o0 q0 c0 c1 c2 c3 c4 c5 c6 c7 c8 c9 c10 c11 c12 cf d0 d1 d2 df H;obtain ⟨c0,c1,c2,c3,c4,c5,c6,c7,c8,c9,c10,c11,c12,cf⟩:=p1.cells;obtain ⟨d0,d1,d2,df⟩:=o1.cells;obtain ⟨k0,k1,k2,k3,k4,k5,k6,k7,k8,k9,k10,k11,k12,kf⟩:=q1.cells;go_wp2_with fail;refine bodyPost_ret (Mb.rest (Mb.put q1 _ _ _ _ _ _ _ _ _ _ _ _ _) rfl _ _ rfl rfl) rfl ⟨rfl, ?_⟩;repeat (first | refine Yg ?_ _ _ _ (by omega) | with_reducible exact HS1.o)
theorem Rr (m:Mv) (C R:Int) (s:ByteArray) (hm:Yq m=true) (h0:¬ 0<m.ou) (hx1:-1024<=m.sx) (hx2:m.sx<=1024) (hy1:-1024<=m.sy) (hy2:m.sy<=1024) (hp1:-256<=m.px) (hp2:m.px<=256) (hq1:-256<=m.py) (hq2:m.py<=256)
  (SX SY P Q X Y N DP DQ:Int) (eSX:(m.sx*7).tdiv 8=SX) (eSY:(m.sy*7).tdiv 8=SY) (hsx1:-1024<=SX) (hsx2:SX<=1024) (hsy1:-1024<=SY) (hsy2:SY<=1024) (eP:YB (SX+m.px) (-1024) 1024=P) (eQ:YB (SY+m.py) (-1024) 1024=Q)
  (eDP:P.tdiv 2=DP) (eDQ:Q.tdiv 2=DQ) (hdp1:-1024<=DP) (hdp2:DP<=1024) (hdq1:-1024<=DQ) (hdq2:DQ<=1024) (hN:N=0\/N=1\/N=2\/N=3)
  (hS:∀ u:World,Ya 116 #[ar C R s,pt m.ax m.ay,pt P Q,.int .i64 1280] u (.tuple #[pt X Y,.int .i64 N])) (w:World) :
  Ya 64 #[mv m,ar C R s] w (.tuple #[mv { m with ax:=X,ay:=Y,sx:=if N % 2=1 then -DP else P,sy:=if 2<=N then -DQ else Q },.int .i64 0]):=by
 have HSl:=hid hS;have HN:=hid hN;have HP:=hid eP;have HQ:=hid eQ;have HDP:=hid eDP;have HDQ:=hid eDQ;clear hS hN eP eQ eDP eDQ;have A0:=aL w (.cells (mcs m) 56);have A1:=aL (Ye w m) (.cells #[.int .i64 C,.int .i64 R,.string s] 24);have A2:=aL (Yn (Ye w m) C R s) (.cells (mcs zM) 56);have p0:=((Yk w m).sT A1).sT A2;have o0:=(Y0 (Ye w m) C R s).sT A2;have q0:=Yk (Yn (Ye w m) C R s) zM;simp only [Yf] at o0 q0;have HS0:=hid ((A0.trans A1).trans A2);clear A0 A1 A2;obtain ⟨c0,c1,c2,c3,c4,c5,c6,c7,c8,c9,c10,c11,c12,cf⟩:=p0.cells;obtain ⟨d0,d1,d2,df⟩:=o0.cells;have H:=hid (fun w=>Y7 m w);rw [show Yi m=0 by unfold Yi; rw [hm]; rfl] at H;clear hm;go_enter Tryz.func64,Tryz.ntmps64;go_wp2_with fail;refine (H.o _).mono ?_;rintro e w1 ⟨rfl,h1⟩;have p1:=p0.sT h1;have o1:=o0.sT h1;have q1:=q0.sT h1;have HS1:=hid (HS0.o.trans h1);clear h1 HS0 p0 o0 q0 c0 c1 c2 c3 c4 c5 c6 c7 c8 c9 c10 c11 c12 cf d0 d1 d2 df H;obtain ⟨c0,c1,c2,c3,c4,c5,c6,c7,c8,c9,c10,c11,c12,cf⟩:=p1.cells;obtain ⟨d0,d1,d2,df⟩:=o1.cells;obtain ⟨k0,k1,k2,k3,k4,k5,k6,k7,k8,k9,k10,k11,k12,kf⟩:=q1.cells;go_wp2_with fail;refine (VQ _ _ _ _).mono ?_;rintro e w2 ⟨he,hw⟩;rw [he,hw,HP.o];clear he hw w2;go_wp2_with fail;refine (VQ _ _ _ _).mono ?_;rintro e w2 ⟨he,hw⟩;rw [he,hw,HQ.o];clear he hw w2;have p2:=p1.spd P Q;have q2:=(q1.other w.heap.size 2 (.int .i64 P) (by omega)).other w.heap.size 3 (.int .i64 Q) (by omega);have HS2:=hid (Yg (Yg HS1.o w.heap.size 2 (.int .i64 P) (Nat.le_refl _)) w.heap.size 3 (.int .i64 Q) (Nat.le_refl _));go_wp2_with fail;refine (HSl.o _).mono ?_;rintro e w3 ⟨rfl,h3⟩;have A3:=aL w3 (.cells #[.int .i64 X,.int .i64 Y] 54);have p3:=(p2.sT h3).sT A3;have q3:=(q2.sT h3).sT A3;have HS3:=hid ((HS2.o.trans h3).trans A3);have b3:=Yp w3 X Y;have HL:Hid (w.heap.size+1+1<w3.heap.size):=hid ((q2.sT h3).lt);clear h3 A3 HS2 p2 q2 HS1 p1 o1 q1 c0 c1 c2 c3 c4 c5 c6 c7 c8 c9 c10 c11 c12 cf d0 d1 d2 df k0 k1 k2 k3 k4 k5 k6 k7 k8 k9 k10 k11 k12 kf HSl;obtain ⟨c0,c1,c2,c3,c4,c5,c6,c7,c8,c9,c10,c11,c12,cf⟩:=p3.cells;obtain ⟨k0,k1,k2,k3,k4,k5,k6,k7,k8,k9,k10,k11,k12,kf⟩:=q3.cells;obtain ⟨b0,b1,bf⟩:=b3.cells;have eDP:=HDP.o;have eDQ:=HDQ.o;rcases HN.o with rfl | rfl | rfl | rfl;all_goals
  go_wp2_with fail;refine bodyPost_ret (Mb.rest (Mb.put (m:=zM) ?_ _ _ _ _ _ _ _ _ _ _ _ _ _) rfl _ _ rfl rfl) rfl ⟨?_, ?_⟩
  ·repeat (first | refine Mb.other ?_ _ _ _ (by omega) | with_reducible exact q3)
  ·rfl
  ·repeat (first | refine Yg ?_ _ _ _ (by omega) | with_reducible exact HS3.o)
theorem Kr {n d:Int} (hd:1<=d) (k:Int) (h1:-k*d<=n) (h2:n<=k*d):-k<=n.tdiv d/\n.tdiv d<=k:=by
 rcases Int.le_total 0 n with h | h
 ·rw [Int.tdiv_eq_ediv_of_nonneg h];have h3:n / d<=k:=by
   have:=Int.ediv_le_ediv (show 0<d by omega) h2;rwa [Int.mul_ediv_cancel _ (by omega)] at this
  have h4:0<=n / d:=Int.ediv_nonneg h (by omega);omega
 ·have e:n.tdiv d=-((-n).tdiv d):=by rw [Int.neg_tdiv]; omega
  rw [e,Int.tdiv_eq_ediv_of_nonneg (by omega)];have h3:-n / d<=k:=by
   have:=Int.ediv_le_ediv (show 0<d by omega) (show -n<=k*d by rw [Int.neg_mul] at h1; omega);rwa [Int.mul_ediv_cancel _ (by omega)] at this
  have h4:0 <= -n / d:=Int.ediv_nonneg (by omega) (by omega);omega
theorem Rs (a b c d:Nat):V3 a b c d=0\/V3 a b c d=1\/V3 a b c d=2\/V3 a b c d=3:=by
 unfold V3;split <;> split <;> omega
theorem Rt (m:Mv) (C R:Int) (s:ByteArray) (hz:s.size<=281474976710656) (hC:C<=9223372036854775807) (w:World):Ya 64 #[mv m,ar C R s] w (.tuple #[mv (X8 (Ym C R s) m),.int .i64 (Yi m)]):=by
 unfold X8 Yi;cases hm:Yq m with
 | false=>exact Rp m C R s hm w
 | true =>
  obtain ⟨g1,g2,g3,g4,g5,g6,g7,g8,g9,g10,g11⟩:=mayB_iff.1 hm;simp only [if_true];unfold KK;by_cases h0:m.ou=0
  ·rw [if_pos h0];have t1:=Kr (n:=m.sx*7) (d:=8) (by omega) 1024 (by omega) (by omega);have t2:=Kr (n:=m.sy*7) (d:=8) (by omega) 1024 (by omega) (by omega);have s1:=JG m.sx m.px;have s2:=JG m.sy m.py;have t3:=Kr (n:=spd m.sx m.px) (d:=2) (by omega) 1024 (by omega) (by omega);have t4:=Kr (n:=spd m.sy m.py) (d:=2) (by omega) 1024 (by omega) (by omega);exact Rr m C R s hm (by omega) g2.1 g2.2.1 g2.2.2.1 g2.2.2.2 g3.1 g3.2.1 g3.2.2.1 g3.2.2.2 _ _ (spd m.sx m.px) (spd m.sy m.py) _ _ _ _ _ rfl rfl t1.1 t1.2 t2.1 t2.2 rfl rfl rfl rfl t3.1 t3.2 t4.1 t4.2 (Rs _ _ _ _)
    (fun u=>Ng C R m.ax m.ay (spd m.sx m.px) (spd m.sy m.py) 1280 s hz hC _ _ _ _ 1280 _ _ _ _ _ _ rfl rfl rfl rfl (by decide) rfl rfl rfl rfl rfl rfl u) w
  ·rw [if_neg h0];exact Rq m C R s hm (by omega) w
theorem Ru (m:Mv) (h:Int) (hm:Yq m=false) (w:World):Ya 122 #[mv m,.int .i64 h] w (.tuple #[mv zM,.bool false,.int .i64 80]):=by
 have A0:=aL w (.cells (mcs m) 56);have A1:=aL (Ye w m) (.cells (mcs zM) 56);have p0:=(Yk w m).sT A1;have q0:=Yk (Ye w m) zM;simp only [Yf] at q0;have HS0:=hid (A0.trans A1);clear A0 A1;obtain ⟨c0,c1,c2,c3,c4,c5,c6,c7,c8,c9,c10,c11,c12,cf⟩:=p0.cells;have H:=hid (fun w=>Y7 m w);rw [show Yi m=80 by unfold Yi; rw [hm]; rfl] at H;clear hm;go_enter Tryz.func122,Tryz.ntmps122;go_wp2_with fail;refine (H.o _).mono ?_;rintro e w1 ⟨rfl,h1⟩;have p1:=p0.sT h1;have q1:=q0.sT h1;have HS1:=hid (HS0.o.trans h1);clear h1 HS0 p0 q0 c0 c1 c2 c3 c4 c5 c6 c7 c8 c9 c10 c11 c12 cf H;obtain ⟨c0,c1,c2,c3,c4,c5,c6,c7,c8,c9,c10,c11,c12,cf⟩:=p1.cells;obtain ⟨k0,k1,k2,k3,k4,k5,k6,k7,k8,k9,k10,k11,k12,kf⟩:=q1.cells;go_wp2_with fail;refine bodyPost_ret (Mb.rest3 (Mb.put q1 _ _ _ _ _ _ _ _ _ _ _ _ _) rfl _ _ _ rfl rfl rfl) rfl ⟨rfl, ?_⟩;repeat (first | refine Yg ?_ _ _ _ (by omega) | with_reducible exact HS1.o)
theorem Rv (m:Mv) (h:Int) (hm:Yq m=true) (hh:h<1) (w:World):Ya 122 #[mv m,.int .i64 h] w (.tuple #[mv zM,.bool false,.int .i64 1]):=by
 have A0:=aL w (.cells (mcs m) 56);have A1:=aL (Ye w m) (.cells (mcs zM) 56);have p0:=(Yk w m).sT A1;have q0:=Yk (Ye w m) zM;simp only [Yf] at q0;have HS0:=hid (A0.trans A1);clear A0 A1;obtain ⟨c0,c1,c2,c3,c4,c5,c6,c7,c8,c9,c10,c11,c12,cf⟩:=p0.cells;have H:=hid (fun w=>Y7 m w);rw [show Yi m=0 by unfold Yi; rw [hm]; rfl] at H;clear hm;go_enter Tryz.func122,Tryz.ntmps122;go_wp2_with fail;refine (H.o _).mono ?_;rintro e w1 ⟨rfl,h1⟩;have p1:=p0.sT h1;have q1:=q0.sT h1;have HS1:=hid (HS0.o.trans h1);clear h1 HS0 p0 q0 c0 c1 c2 c3 c4 c5 c6 c7 c8 c9 c10 c11 c12 cf H;obtain ⟨c0,c1,c2,c3,c4,c5,c6,c7,c8,c9,c10,c11,c12,cf⟩:=p1.cells;obtain ⟨k0,k1,k2,k3,k4,k5,k6,k7,k8,k9,k10,k11,k12,kf⟩:=q1.cells;go_wp2_with fail;refine bodyPost_ret (Mb.rest3 (Mb.put q1 _ _ _ _ _ _ _ _ _ _ _ _ _) rfl _ _ _ rfl rfl rfl) rfl ⟨rfl, ?_⟩;repeat (first | refine Yg ?_ _ _ _ (by omega) | with_reducible exact HS1.o)
theorem Rw (m:Mv) (h:Int) (hm:Yq m=true) (hg:¬ h<1) (hh:h > 100) (w:World):Ya 122 #[mv m,.int .i64 h] w (.tuple #[mv zM,.bool false,.int .i64 1]):=by
 have A0:=aL w (.cells (mcs m) 56);have A1:=aL (Ye w m) (.cells (mcs zM) 56);have p0:=(Yk w m).sT A1;have q0:=Yk (Ye w m) zM;simp only [Yf] at q0;have HS0:=hid (A0.trans A1);clear A0 A1;obtain ⟨c0,c1,c2,c3,c4,c5,c6,c7,c8,c9,c10,c11,c12,cf⟩:=p0.cells;have H:=hid (fun w=>Y7 m w);rw [show Yi m=0 by unfold Yi; rw [hm]; rfl] at H;clear hm;go_enter Tryz.func122,Tryz.ntmps122;go_wp2_with fail;refine (H.o _).mono ?_;rintro e w1 ⟨rfl,h1⟩;have p1:=p0.sT h1;have q1:=q0.sT h1;have HS1:=hid (HS0.o.trans h1);clear h1 HS0 p0 q0 c0 c1 c2 c3 c4 c5 c6 c7 c8 c9 c10 c11 c12 cf H;obtain ⟨c0,c1,c2,c3,c4,c5,c6,c7,c8,c9,c10,c11,c12,cf⟩:=p1.cells;obtain ⟨k0,k1,k2,k3,k4,k5,k6,k7,k8,k9,k10,k11,k12,kf⟩:=q1.cells;go_wp2_with fail;refine bodyPost_ret (Mb.rest3 (Mb.put q1 _ _ _ _ _ _ _ _ _ _ _ _ _) rfl _ _ _ rfl rfl rfl) rfl ⟨rfl, ?_⟩;repeat (first | refine Yg ?_ _ _ _ (by omega) | with_reducible exact HS1.o)
theorem Rx (m:Mv) (h:Int) (hm:Yq m=true) (hg:¬ h<1) (hh:decide (100<h)=false) (h0:0<m.ou) (w:World):Ya 122 #[mv m,.int .i64 h] w (.tuple #[mv m,.bool false,.int .i64 0]):=by
 have A0:=aL w (.cells (mcs m) 56);have A1:=aL (Ye w m) (.cells (mcs zM) 56);have p0:=(Yk w m).sT A1;have q0:=Yk (Ye w m) zM;simp only [Yf] at q0;have HS0:=hid (A0.trans A1);clear A0 A1;obtain ⟨c0,c1,c2,c3,c4,c5,c6,c7,c8,c9,c10,c11,c12,cf⟩:=p0.cells;have H:=hid (fun w=>Y7 m w);rw [show Yi m=0 by unfold Yi; rw [hm]; rfl] at H;clear hm;go_enter Tryz.func122,Tryz.ntmps122;go_wp2_with fail;refine (H.o _).mono ?_;rintro e w1 ⟨rfl,h1⟩;have p1:=p0.sT h1;have q1:=q0.sT h1;have HS1:=hid (HS0.o.trans h1);clear h1 HS0 p0 q0 c0 c1 c2 c3 c4 c5 c6 c7 c8 c9 c10 c11 c12 cf H;obtain ⟨c0,c1,c2,c3,c4,c5,c6,c7,c8,c9,c10,c11,c12,cf⟩:=p1.cells;obtain ⟨k0,k1,k2,k3,k4,k5,k6,k7,k8,k9,k10,k11,k12,kf⟩:=q1.cells;go_wp2_with fail;refine bodyPost_ret (Mb.rest3 (Mb.put q1 _ _ _ _ _ _ _ _ _ _ _ _ _) rfl _ _ _ rfl rfl rfl) rfl ⟨rfl, ?_⟩;repeat (first | refine Yg ?_ _ _ _ (by omega) | with_reducible exact HS1.o)
theorem Mb.eng {w:World} {g:Nat} {m:Mv} (h:Mb w g m) (e:Int):Mb (w.setCell ⟨g,8,none⟩ (.int .i64 e)) g { m with en:=e }:=by
 have h1:=heap_setCell_same w g 8 _ _ (.int .i64 e) h;exact h1.trans (by kernel_rfl)
theorem Mb.on {F:Nat->Prop} {w w':World} {g:Nat} {m:Mv} (h:Mb w g m) (hs:Fr F w w') (hF:¬ F g):Mb w' g m:=hs.kept h hF
theorem Ry (m:Mv) (h:Int) (hm:Yq m=true) (hg:¬ h<1) (hh:decide (100<h)=false) (hh2:h<=100) (h0:¬ 0<m.ou) (hl1:0<=m.hl) (hl2:m.hl<=100) (hsh:m.sh=false) (hd:¬ m.hl - h<=0) (w:World):Ya 122 #[mv m,.int .i64 h] w (.tuple #[mv { m with sh:=false,hl:=m.hl - h },.bool false,.int .i64 0]):=by
 have HSH:=hid hsh;clear hsh;have A0:=aL w (.cells (mcs m) 56);have A1:=aL (Ye w m) (.cells (mcs zM) 56);have p0:=(Yk w m).sT A1;have q0:=Yk (Ye w m) zM;simp only [Yf] at q0;have HS0:=hid (A0.trans A1);clear A0 A1;obtain ⟨c0,c1,c2,c3,c4,c5,c6,c7,c8,c9,c10,c11,c12,cf⟩:=p0.cells;have H:=hid (fun w=>Y7 m w);rw [show Yi m=0 by unfold Yi; rw [hm]; rfl] at H;clear hm;go_enter Tryz.func122,Tryz.ntmps122;go_wp2_with fail;refine (H.o _).mono ?_;rintro e w1 ⟨rfl,h1⟩;have p1:=p0.sT h1;have q1:=q0.sT h1;have HS1:=hid (HS0.o.trans h1);clear h1 HS0 p0 q0 c0 c1 c2 c3 c4 c5 c6 c7 c8 c9 c10 c11 c12 cf H;obtain ⟨c0,c1,c2,c3,c4,c5,c6,c7,c8,c9,c10,c11,c12,cf⟩:=p1.cells;obtain ⟨k0,k1,k2,k3,k4,k5,k6,k7,k8,k9,k10,k11,k12,kf⟩:=q1.cells;rw [HSH.o] at c9;go_wp2_with fail;go_loopw [1] (fun x wr=>x=.int .i64 h/\wr=w1) (fun _ _=>0);case atStart=>exact ⟨rfl,rfl⟩
 case round =>
  obtain ⟨rfl,hw⟩:=hrel;rw [hw];clear hw;go_wp2_with fail;refine bodyPost_ret (Mb.rest3 (Mb.put (m:=zM) ?_ _ _ _ _ _ _ _ _ _ _ _ _ _) rfl _ _ _ rfl rfl rfl) rfl ⟨?_, ?_⟩
  ·repeat (first | refine Mb.other ?_ _ _ _ (by omega) | with_reducible exact q1)
  ·rfl
  ·repeat (first | refine Yg ?_ _ _ _ (by omega) | with_reducible exact HS1.o)
theorem Rz (m:Mv) (h:Int) (hm:Yq m=true) (hg:¬ h<1) (hh:decide (100<h)=false) (hh2:h<=100) (h0:¬ 0<m.ou) (hl1:0<=m.hl) (hl2:m.hl<=100) (hsh:m.sh=false) (hd:m.hl - h<=0) (w:World):Ya 122 #[mv m,.int .i64 h] w (.tuple #[mv (JE m),.bool true,.int .i64 0]):=by
 have HSH:=hid hsh;clear hsh;have A0:=aL w (.cells (mcs m) 56);have A1:=aL (Ye w m) (.cells (mcs zM) 56);have p0:=(Yk w m).sT A1;have q0:=Yk (Ye w m) zM;simp only [Yf] at q0;have HS0:=hid (A0.trans A1);clear A0 A1;obtain ⟨c0,c1,c2,c3,c4,c5,c6,c7,c8,c9,c10,c11,c12,cf⟩:=p0.cells;have H:=hid (fun w=>Y7 m w);rw [show Yi m=0 by unfold Yi; rw [hm]; rfl] at H;clear hm;go_enter Tryz.func122,Tryz.ntmps122;go_wp2_with fail;refine (H.o _).mono ?_;rintro e w1 ⟨rfl,h1⟩;have p1:=p0.sT h1;have q1:=q0.sT h1;have HS1:=hid (HS0.o.trans h1);clear h1 HS0 p0 q0 c0 c1 c2 c3 c4 c5 c6 c7 c8 c9 c10 c11 c12 cf H;obtain ⟨c0,c1,c2,c3,c4,c5,c6,c7,c8,c9,c10,c11,c12,cf⟩:=p1.cells;obtain ⟨k0,k1,k2,k3,k4,k5,k6,k7,k8,k9,k10,k11,k12,kf⟩:=q1.cells;rw [HSH.o] at c9;go_wp2_with fail;go_loopw [1] (fun x wr=>x=.int .i64 h/\wr=w1) (fun _ _=>0);case atStart=>exact ⟨rfl,rfl⟩
 case round =>
  obtain ⟨rfl,hw⟩:=hrel;rw [hw];clear hw;go_wp2_with fail;refine bodyPost_ret (Mb.rest3 (Mb.put (m:=zM) ?_ _ _ _ _ _ _ _ _ _ _ _ _ _) rfl _ _ _ rfl rfl rfl) rfl ⟨?_, ?_⟩
  ·repeat (first | refine Mb.other ?_ _ _ _ (by omega) | with_reducible exact q1)
  ·rfl
  ·repeat (first | refine Yg ?_ _ _ _ (by omega) | with_reducible exact HS1.o)
theorem R1 (m:Mv) (h:Int) (hm:Yq m=true) (hg:¬ h<1) (hh:decide (100<h)=false) (hh2:h<=100) (h0:¬ 0<m.ou) (hl1:0<=m.hl) (hl2:m.hl<=100) (he1:0<=m.en) (he2:m.en<=100) (hsh:m.sh=true) (hd:¬ m.hl - (h - tak m h)<=0) (w:World):Ya 122 #[mv m,.int .i64 h] w (.tuple #[mv { m with en:=m.en - tak m h,sh:=decide (0<m.en - tak m h),hl:=m.hl - (h - tak m h) },.bool false,.int .i64 0]):=by
 have HSH:=hid hsh;clear hsh;have A0:=aL w (.cells (mcs m) 56);have A1:=aL (Ye w m) (.cells (mcs zM) 56);have p0:=(Yk w m).sT A1;have q0:=Yk (Ye w m) zM;simp only [Yf] at q0;have HS0:=hid (A0.trans A1);clear A0 A1;obtain ⟨c0,c1,c2,c3,c4,c5,c6,c7,c8,c9,c10,c11,c12,cf⟩:=p0.cells;have H:=hid (fun w=>Y7 m w);rw [show Yi m=0 by unfold Yi; rw [hm]; rfl] at H;clear hm;go_enter Tryz.func122,Tryz.ntmps122;go_wp2_with fail;refine (H.o _).mono ?_;rintro e w1 ⟨rfl,h1⟩;have p1:=p0.sT h1;have q1:=q0.sT h1;have HS1:=hid (HS0.o.trans h1);clear h1 HS0 p0 q0 c0 c1 c2 c3 c4 c5 c6 c7 c8 c9 c10 c11 c12 cf H;obtain ⟨c0,c1,c2,c3,c4,c5,c6,c7,c8,c9,c10,c11,c12,cf⟩:=p1.cells;obtain ⟨k0,k1,k2,k3,k4,k5,k6,k7,k8,k9,k10,k11,k12,kf⟩:=q1.cells;rw [HSH.o] at c9;have HLT:=hid q1.lt;go_wp2_with fail;go_loopw [1] (fun x wr=>∃ t:Nat,(t:Int)<=m.en/\(t:Int)<=h/\x=.int .i64 (h - (t:Int))/\Mb wr w.heap.size { m with en:=m.en - (t:Int) }/\Fr (fun b=>b=w.heap.size) w1 wr) (fun x _=>(intOf x).toNat);case atStart=>exact ⟨0,by omega,by omega,by simp,by simpa using p1,Fr.refl _ _⟩
 case round =>
  obtain ⟨t,ht1,ht2,rfl,pt,hf⟩:=hrel;have qt:=q1.on hf (by omega);have HST:Hid (Yc w wr):=hid (Fr.trans HS1.o hf (fun j h1 h2=>by omega));have HF:=hid hf;clear hf c0 c1 c2 c3 c4 c5 c6 c7 c8 c9 c10 c11 c12 cf k0 k1 k2 k3 k4 k5 k6 k7 k8 k9 k10 k11 k12 kf;obtain ⟨c0,c1,c2,c3,c4,c5,c6,c7,c8,c9,c10,c11,c12,cf⟩:=pt.cells;obtain ⟨k0,k1,k2,k3,k4,k5,k6,k7,k8,k9,k10,k11,k12,kf⟩:=qt.cells;rw [HSH.o] at c9;by_cases e1:(t:Int)<m.en
  ·by_cases e2:(t:Int)<h
   ·go_wp2_with fail;go_roundw;case rel =>
     refine ⟨t+1,by omega,by omega,by congr 1; omega, ?_,HF.o.setCell _ _ (.inl rfl)⟩;have:=pt.eng (m.en - (t:Int) - 1);rw [show m.en - (t:Int) - 1=m.en - ((t+1:Nat):Int) by omega] at this;rw [show m.en - (t:Int) - 1=m.en - ((t+1:Nat):Int) by omega];exact this
    case measure=>simp [intOf]; omega
   ·have e2d:decide ((t:Int)<h)=false:=by simpa using e2
    have et:tak m h=(t:Int):=by
     unfold tak;rw [if_pos HSH.o];omega
    have HT:=hid et;have HE:=hid e1;rw [et] at hd;clear e2 et;go_wp2_with fail;refine bodyPost_ret (Mb.rest3 (Mb.put (m:=zM) ?_ _ _ _ _ _ _ _ _ _ _ _ _ _) rfl _ _ _ rfl rfl rfl) rfl ⟨?_, ?_⟩
    ·repeat (first | refine Mb.other ?_ _ _ _ (by omega) | with_reducible exact qt)
    ·(rw [HT.o,decide_eq_true HE.o]; rfl)
    ·repeat (first | refine Yg ?_ _ _ _ (by omega) | with_reducible exact HST.o)
  ·have e1d:decide ((t:Int)<m.en)=false:=by simpa using e1
   have et:tak m h=(t:Int):=by
    unfold tak;rw [if_pos HSH.o];omega
   have HT:=hid et;have HE:=hid e1d;rw [et] at hd;clear e1 et;go_wp2_with fail;refine bodyPost_ret (Mb.rest3 (Mb.put (m:=zM) ?_ _ _ _ _ _ _ _ _ _ _ _ _ _) rfl _ _ _ rfl rfl rfl) rfl ⟨?_, ?_⟩
   ·repeat (first | refine Mb.other ?_ _ _ _ (by omega) | with_reducible exact qt)
   ·(rw [HT.o,HE.o]; rfl)
   ·repeat (first | refine Yg ?_ _ _ _ (by omega) | with_reducible exact HST.o)
theorem R2 (m:Mv) (h:Int) (hm:Yq m=true) (hg:¬ h<1) (hh:decide (100<h)=false) (hh2:h<=100) (h0:¬ 0<m.ou) (hl1:0<=m.hl) (hl2:m.hl<=100) (he1:0<=m.en) (he2:m.en<=100) (hsh:m.sh=true) (hd:m.hl - (h - tak m h)<=0) (w:World):Ya 122 #[mv m,.int .i64 h] w (.tuple #[mv (JE m),.bool true,.int .i64 0]):=by
 have HSH:=hid hsh;clear hsh;have A0:=aL w (.cells (mcs m) 56);have A1:=aL (Ye w m) (.cells (mcs zM) 56);have p0:=(Yk w m).sT A1;have q0:=Yk (Ye w m) zM;simp only [Yf] at q0;have HS0:=hid (A0.trans A1);clear A0 A1;obtain ⟨c0,c1,c2,c3,c4,c5,c6,c7,c8,c9,c10,c11,c12,cf⟩:=p0.cells;have H:=hid (fun w=>Y7 m w);rw [show Yi m=0 by unfold Yi; rw [hm]; rfl] at H;clear hm;go_enter Tryz.func122,Tryz.ntmps122;go_wp2_with fail;refine (H.o _).mono ?_;rintro e w1 ⟨rfl,h1⟩;have p1:=p0.sT h1;have q1:=q0.sT h1;have HS1:=hid (HS0.o.trans h1);clear h1 HS0 p0 q0 c0 c1 c2 c3 c4 c5 c6 c7 c8 c9 c10 c11 c12 cf H;obtain ⟨c0,c1,c2,c3,c4,c5,c6,c7,c8,c9,c10,c11,c12,cf⟩:=p1.cells;obtain ⟨k0,k1,k2,k3,k4,k5,k6,k7,k8,k9,k10,k11,k12,kf⟩:=q1.cells;rw [HSH.o] at c9;have HLT:=hid q1.lt;go_wp2_with fail;go_loopw [1] (fun x wr=>∃ t:Nat,(t:Int)<=m.en/\(t:Int)<=h/\x=.int .i64 (h - (t:Int))/\Mb wr w.heap.size { m with en:=m.en - (t:Int) }/\Fr (fun b=>b=w.heap.size) w1 wr) (fun x _=>(intOf x).toNat);case atStart=>exact ⟨0,by omega,by omega,by simp,by simpa using p1,Fr.refl _ _⟩
 case round =>
  obtain ⟨t,ht1,ht2,rfl,pt,hf⟩:=hrel;have qt:=q1.on hf (by omega);have HST:Hid (Yc w wr):=hid (Fr.trans HS1.o hf (fun j h1 h2=>by omega));have HF:=hid hf;clear hf c0 c1 c2 c3 c4 c5 c6 c7 c8 c9 c10 c11 c12 cf k0 k1 k2 k3 k4 k5 k6 k7 k8 k9 k10 k11 k12 kf;obtain ⟨c0,c1,c2,c3,c4,c5,c6,c7,c8,c9,c10,c11,c12,cf⟩:=pt.cells;obtain ⟨k0,k1,k2,k3,k4,k5,k6,k7,k8,k9,k10,k11,k12,kf⟩:=qt.cells;rw [HSH.o] at c9;by_cases e1:(t:Int)<m.en
  ·by_cases e2:(t:Int)<h
   ·go_wp2_with fail;go_roundw;case rel =>
     refine ⟨t+1,by omega,by omega,by congr 1; omega, ?_,HF.o.setCell _ _ (.inl rfl)⟩;have:=pt.eng (m.en - (t:Int) - 1);rw [show m.en - (t:Int) - 1=m.en - ((t+1:Nat):Int) by omega] at this;rw [show m.en - (t:Int) - 1=m.en - ((t+1:Nat):Int) by omega];exact this
    case measure=>simp [intOf]; omega
   ·have e2d:decide ((t:Int)<h)=false:=by simpa using e2
    have et:tak m h=(t:Int):=by
     unfold tak;rw [if_pos HSH.o];omega
    rw [et] at hd;clear e2 et;go_wp2_with fail;refine bodyPost_ret (Mb.rest3 (Mb.put (m:=zM) ?_ _ _ _ _ _ _ _ _ _ _ _ _ _) rfl _ _ _ rfl rfl rfl) rfl ⟨?_, ?_⟩
    ·repeat (first | refine Mb.other ?_ _ _ _ (by omega) | with_reducible exact qt)
    ·rfl
    ·repeat (first | refine Yg ?_ _ _ _ (by omega) | with_reducible exact HST.o)
  ·have e1d:decide ((t:Int)<m.en)=false:=by simpa using e1
   have et:tak m h=(t:Int):=by
    unfold tak;rw [if_pos HSH.o];omega
   rw [et] at hd;clear e1 et;go_wp2_with fail;refine bodyPost_ret (Mb.rest3 (Mb.put (m:=zM) ?_ _ _ _ _ _ _ _ _ _ _ _ _ _) rfl _ _ _ rfl rfl rfl) rfl ⟨?_, ?_⟩
   ·repeat (first | refine Mb.other ?_ _ _ _ (by omega) | with_reducible exact qt)
   ·rfl
   ·repeat (first | refine Yg ?_ _ _ _ (by omega) | with_reducible exact HST.o)
theorem R3 (m:Mv) (h:Int) (w:World):Ya 122 #[mv m,.int .i64 h] w (.tuple #[mv (V5 m h),.bool (Vm m h),.int .i64 (X9 m h)]):=by
 unfold V5 Vm X9;cases hm:Yq m with
 | false=>exact Ru m h hm w
 | true =>
  obtain ⟨g1,g2,g3,g4,g5,g6,g7,g8,g9,g10,g11⟩:=mayB_iff.1 hm;simp only [if_true];by_cases h1:h<1
  ·rw [show (if h<1\/100<h then (1:Int) else 0)=1 from if_pos (.inl h1),if_neg (by decide)];exact Rv m h hm h1 w
  ·by_cases h2:100<h
   ·rw [show (if h<1\/100<h then (1:Int) else 0)=1 from if_pos (.inr h2),if_neg (by decide)];exact Rw m h hm h1 h2 w
   ·rw [show (if h<1\/100<h then (1:Int) else 0)=0 from if_neg (by omega),if_pos rfl];have h2d:decide (100<h)=false:=by simpa using h2
    unfold KL GO;by_cases h0:m.ou=0
    ·have h0':(m.ou == 0)=true:=by simpa using h0
     rw [if_pos h0,h0'];cases hs:m.sh with
     | false =>
      have et:tak m h=0:=by unfold tak; rw [hs]; rfl
      simp only [et,Int.sub_zero];by_cases hd:m.hl - h<=0
      ·rw [if_pos hd];have:=Rz m h hm h1 h2d (by omega) (by omega) g5.1 g5.2 hs (by omega) w;simpa [hd] using this
      ·rw [if_neg hd];have:=Ry m h hm h1 h2d (by omega) (by omega) g5.1 g5.2 hs (by omega) w;simpa [hd] using this
     | true =>
      by_cases hd:m.hl - (h - tak m h)<=0
      ·rw [if_pos hd];have:=R2 m h hm h1 h2d (by omega) (by omega) g5.1 g5.2 g6.1 g6.2 hs hd w;simpa [hd] using this
      ·rw [if_neg hd];have:=R1 m h hm h1 h2d (by omega) (by omega) g5.1 g5.2 g6.1 g6.2 hs hd w;simpa [hd] using this
    ·have h0':(m.ou == 0)=false:=by simpa using h0
     rw [if_neg h0,h0'];exact Rx m h hm h1 h2d (by omega) w
theorem R4 (m:Mv) (x y:Int) (hm:Yq m=false)  (w:World):Ya 74 #[mv m,pt x y] w (.tuple #[mv zM,.bool false,.int .i64 80]):=by
 have A0:=aL w (.cells (mcs m) 56);have A1:=aL (Ye w m) (.cells #[.int .i64 x,.int .i64 y] 54);have A2:=aL (Yh (Ye w m) x y) (.cells (mcs zM) 56);have p0:=((Yk w m).sT A1).sT A2;have o0:=(Yp (Ye w m) x y).sT A2;have q0:=Yk (Yh (Ye w m) x y) zM;simp only [Yf] at o0 q0;have HS0:=hid ((A0.trans A1).trans A2);clear A0 A1 A2;obtain ⟨c0,c1,c2,c3,c4,c5,c6,c7,c8,c9,c10,c11,c12,cf⟩:=p0.cells;have H:=hid (fun w=>Y7 m w);rw [show Yi m=80 by unfold Yi; rw [hm]; rfl] at H;clear hm;go_enter Tryz.func74,Tryz.ntmps74;go_wp2_with fail;refine (H.o _).mono ?_;rintro e w1 ⟨rfl,h1⟩;have p1:=p0.sT h1;have o1:=o0.sT h1;have q1:=q0.sT h1;have HS1:=hid (HS0.o.trans h1);clear h1 HS0 p0 o0 q0 c0 c1 c2 c3 c4 c5 c6 c7 c8 c9 c10 c11 c12 cf H;obtain ⟨c0,c1,c2,c3,c4,c5,c6,c7,c8,c9,c10,c11,c12,cf⟩:=p1.cells;obtain ⟨k0,k1,k2,k3,k4,k5,k6,k7,k8,k9,k10,k11,k12,kf⟩:=q1.cells;go_wp2_with fail;refine bodyPost_ret (Mb.rest3 (Mb.put (m:=zM) ?_ _ _ _ _ _ _ _ _ _ _ _ _ _) rfl _ _ _ rfl rfl rfl) rfl ⟨?_, ?_⟩
 ·repeat (first | refine Mb.other ?_ _ _ _ (by omega) | with_reducible exact q1)
 ·rfl
 ·repeat (first | refine Yg ?_ _ _ _ (by omega) | with_reducible exact HS1.o)
theorem R5 (m:Mv) (x y:Int) (hm:Yq m=true) (h1:(m.ou == 1)=false) (h2:1<m.ou) (h3:m.ou<=30) (w:World):Ya 74 #[mv m,pt x y] w (.tuple #[mv { m with ou:=m.ou - 1 },.bool false,.int .i64 0]):=by
 have A0:=aL w (.cells (mcs m) 56);have A1:=aL (Ye w m) (.cells #[.int .i64 x,.int .i64 y] 54);have A2:=aL (Yh (Ye w m) x y) (.cells (mcs zM) 56);have p0:=((Yk w m).sT A1).sT A2;have o0:=(Yp (Ye w m) x y).sT A2;have q0:=Yk (Yh (Ye w m) x y) zM;simp only [Yf] at o0 q0;have HS0:=hid ((A0.trans A1).trans A2);clear A0 A1 A2;obtain ⟨c0,c1,c2,c3,c4,c5,c6,c7,c8,c9,c10,c11,c12,cf⟩:=p0.cells;have H:=hid (fun w=>Y7 m w);rw [show Yi m=0 by unfold Yi; rw [hm]; rfl] at H;clear hm;go_enter Tryz.func74,Tryz.ntmps74;go_wp2_with fail;refine (H.o _).mono ?_;rintro e w1 ⟨rfl,h1⟩;have p1:=p0.sT h1;have o1:=o0.sT h1;have q1:=q0.sT h1;have HS1:=hid (HS0.o.trans h1);clear h1 HS0 p0 o0 q0 c0 c1 c2 c3 c4 c5 c6 c7 c8 c9 c10 c11 c12 cf H;obtain ⟨c0,c1,c2,c3,c4,c5,c6,c7,c8,c9,c10,c11,c12,cf⟩:=p1.cells;obtain ⟨k0,k1,k2,k3,k4,k5,k6,k7,k8,k9,k10,k11,k12,kf⟩:=q1.cells;go_wp2_with fail;refine bodyPost_ret (Mb.rest3 (Mb.put (m:=zM) ?_ _ _ _ _ _ _ _ _ _ _ _ _ _) rfl _ _ _ rfl rfl rfl) rfl ⟨?_, ?_⟩
 ·repeat (first | refine Mb.other ?_ _ _ _ (by omega) | with_reducible exact q1)
 ·rfl
 ·repeat (first | refine Yg ?_ _ _ _ (by omega) | with_reducible exact HS1.o)
theorem R6 (m:Mv) (x y:Int) (hm:Yq m=true) (h1:(m.ou == 1)=true) (w:World):Ya 74 #[mv m,pt x y] w (.tuple #[mv { XO x y m.fc with sd:=m.sd },.bool true,.int .i64 0]):=by
 have A0:=aL w (.cells (mcs m) 56);have A1:=aL (Ye w m) (.cells #[.int .i64 x,.int .i64 y] 54);have A2:=aL (Yh (Ye w m) x y) (.cells (mcs zM) 56);have p0:=((Yk w m).sT A1).sT A2;have o0:=(Yp (Ye w m) x y).sT A2;have q0:=Yk (Yh (Ye w m) x y) zM;simp only [Yf] at o0 q0;have HS0:=hid ((A0.trans A1).trans A2);clear A0 A1 A2;obtain ⟨c0,c1,c2,c3,c4,c5,c6,c7,c8,c9,c10,c11,c12,cf⟩:=p0.cells;have H:=hid (fun w=>Y7 m w);rw [show Yi m=0 by unfold Yi; rw [hm]; rfl] at H;clear hm;go_enter Tryz.func74,Tryz.ntmps74;go_wp2_with fail;refine (H.o _).mono ?_;rintro e w1 ⟨rfl,h1⟩;have p1:=p0.sT h1;have o1:=o0.sT h1;have q1:=q0.sT h1;have HS1:=hid (HS0.o.trans h1);clear h1 HS0 p0 o0 q0 c0 c1 c2 c3 c4 c5 c6 c7 c8 c9 c10 c11 c12 cf H;obtain ⟨c0,c1,c2,c3,c4,c5,c6,c7,c8,c9,c10,c11,c12,cf⟩:=p1.cells;obtain ⟨d0,d1,df⟩:=o1.cells;obtain ⟨k0,k1,k2,k3,k4,k5,k6,k7,k8,k9,k10,k11,k12,kf⟩:=q1.cells;go_wp2_with fail;refine (GT x y m.fc _).mono ?_;rintro e w2 ⟨rfl,h2⟩;have p2:=p1.sT h2;have q2:=q1.sT h2;have HS2:=hid (HS1.o.trans h2);have hl:=q2.lt;have hl0:=p2.lt;clear h2 HS1 p1 o1 q1 c0 c1 c2 c3 c4 c5 c6 c7 c8 c9 c10 c11 c12 cf d0 d1 df k0 k1 k2 k3 k4 k5 k6 k7 k8 k9 k10 k11 k12 kf;obtain ⟨c0,c1,c2,c3,c4,c5,c6,c7,c8,c9,c10,c11,c12,cf⟩:=p2.cells;obtain ⟨k0,k1,k2,k3,k4,k5,k6,k7,k8,k9,k10,k11,k12,kf⟩:=q2.cells;go_wp2_with fail;refine bodyPost_ret (Mb.rest3 (Mb.sT (Mb.put q2 _ _ _ _ _ _ _ _ _ _ _ _ _) (aL _ _)) rfl _ _ _ rfl rfl rfl) rfl ⟨rfl, ?_⟩;refine Yc.trans ?_ (aL _ _);repeat (first | refine Yg ?_ _ _ _ (by omega) | with_reducible exact HS2.o)
theorem Mb.coo {w:World} {g:Nat} {m:Mv} (h:Mb w g m) (e:Int):Mb (w.setCell ⟨g,10,none⟩ (.int .i64 e)) g { m with co:=e }:=by
 have h1:=heap_setCell_same w g 10 _ _ (.int .i64 e) h;exact h1.trans (by kernel_rfl)
theorem Mb.shd {w:World} {g:Nat} {m:Mv} (h:Mb w g m) (e:Bool):Mb (w.setCell ⟨g,9,none⟩ (.bool e)) g { m with sh:=e }:=by
 have h1:=heap_setCell_same w g 9 _ _ (.bool e) h;exact h1.trans (by kernel_rfl)
theorem R7 (m:Mv) (x y:Int) (hm:Yq m=true) (h1:(m.ou == 1)=false) (h2:¬ 1<m.ou) (hc1:0<m.co) (hc2:m.co<=12) (he1:0<=m.en) (he2:m.en<=100) (hsh:m.sh=true) (he:m.en - 2<=0) (w:World):Ya 74 #[mv m,pt x y] w (.tuple #[mv { m with co:=m.co - 1,en:=0,sh:=false },.bool false,.int .i64 0]):=by
 have HSH:=hid hsh;clear hsh;have A0:=aL w (.cells (mcs m) 56);have A1:=aL (Ye w m) (.cells #[.int .i64 x,.int .i64 y] 54);have A2:=aL (Yh (Ye w m) x y) (.cells (mcs zM) 56);have p0:=((Yk w m).sT A1).sT A2;have o0:=(Yp (Ye w m) x y).sT A2;have q0:=Yk (Yh (Ye w m) x y) zM;simp only [Yf] at o0 q0;have HS0:=hid ((A0.trans A1).trans A2);clear A0 A1 A2;obtain ⟨c0,c1,c2,c3,c4,c5,c6,c7,c8,c9,c10,c11,c12,cf⟩:=p0.cells;have H:=hid (fun w=>Y7 m w);rw [show Yi m=0 by unfold Yi; rw [hm]; rfl] at H;clear hm;go_enter Tryz.func74,Tryz.ntmps74;go_wp2_with fail;refine (H.o _).mono ?_;rintro e w1 ⟨rfl,h1⟩;have p1:=p0.sT h1;have o1:=o0.sT h1;have q1:=q0.sT h1;have HS1:=hid (HS0.o.trans h1);clear h1 HS0 p0 o0 q0 c0 c1 c2 c3 c4 c5 c6 c7 c8 c9 c10 c11 c12 cf H;obtain ⟨c0,c1,c2,c3,c4,c5,c6,c7,c8,c9,c10,c11,c12,cf⟩:=p1.cells;obtain ⟨k0,k1,k2,k3,k4,k5,k6,k7,k8,k9,k10,k11,k12,kf⟩:=q1.cells;rw [HSH.o] at c9;go_upto_region 20 with fail;have pW:=(((p1.coo (m.co - 1)).eng (m.en - 2)).eng 0).shd false;have qW:=(((q1.other w.heap.size 10 (.int .i64 (m.co - 1)) (by omega)).other w.heap.size 8 (.int .i64 (m.en - 2)) (by omega)).other w.heap.size 8 (.int .i64 0) (by omega)).other w.heap.size 9 (.bool false) (by omega);have HW:=hid (Yg (Yg (Yg (Yg HS1.o w.heap.size 10 (.int .i64 (m.co - 1)) (Nat.le_refl _)) w.heap.size 8 (.int .i64 (m.en - 2)) (Nat.le_refl _)) w.heap.size 8 (.int .i64 0) (Nat.le_refl _)) w.heap.size 9 (.bool false) (Nat.le_refl _));obtain ⟨W,eW⟩:∃ W,(((w1.setCell ⟨w.heap.size,10,none⟩ (.int .i64 (m.co - 1))).setCell ⟨w.heap.size,8,none⟩ (.int .i64 (m.en - 2))).setCell ⟨w.heap.size,8,none⟩ (.int .i64 0)).setCell ⟨w.heap.size,9,none⟩ (.bool false)=W:=⟨_,rfl⟩;rw [eW] at pW qW HW ⊢;clear eW p1 q1 o1 HS1 c0 c1 c2 c3 c4 c5 c6 c7 c8 c9 c10 c11 c12 cf k0 k1 k2 k3 k4 k5 k6 k7 k8 k9 k10 k11 k12 kf;obtain ⟨c0,c1,c2,c3,c4,c5,c6,c7,c8,c9,c10,c11,c12,cf⟩:=pW.cells;obtain ⟨k0,k1,k2,k3,k4,k5,k6,k7,k8,k9,k10,k11,k12,kf⟩:=qW.cells;go_wp2_with fail;refine bodyPost_ret (Mb.rest3 (Mb.put (m:=zM) ?_ _ _ _ _ _ _ _ _ _ _ _ _ _) rfl _ _ _ rfl rfl rfl) rfl ⟨?_, ?_⟩
 ·repeat (first | refine Mb.other ?_ _ _ _ (by omega) | with_reducible exact qW)
 ·first | rfl | (rw [HSH.o]; rfl)
 ·repeat (first | refine Yg ?_ _ _ _ (by omega) | with_reducible exact HW.o)
def R8 (m:Mv) (b:Bool) (X:Mv):Prop :=
 (b=true/\X={ m with co:=m.co - 1,en:=m.en - 2,sh:=true }/\0<m.co/\m.co<=12/\0<=m.en/\m.en<=100/\¬ m.en - 2<=0) \/
 (b=false/\X={ m with co:=m.co - 1,en:=m.en+1,sh:=false }/\0<m.co/\m.co<=12/\0<=m.en/\m.en<100) \/
 (b=false/\X={ m with co:=m.co - 1,sh:=false }/\0<m.co/\m.co<=12/\¬ m.en<100)
theorem QR (m:Mv) (x y:Int) (b:Bool) (X:Mv) (hm:Yq m=true) (h1:(m.ou == 1)=false) (h2:¬ 1<m.ou) (hsh:m.sh=b) (hd:R8 m b X) (w:World):Ya 74 #[mv m,pt x y] w (.tuple #[mv X,.bool false,.int .i64 0]):=by
  have HSH:=hid hsh;clear hsh;have A0:=aL w (.cells (mcs m) 56);have A1:=aL (Ye w m) (.cells #[.int .i64 x,.int .i64 y] 54);have A2:=aL (Yh (Ye w m) x y) (.cells (mcs zM) 56);have p0:=((Yk w m).sT A1).sT A2;have o0:=(Yp (Ye w m) x y).sT A2;have q0:=Yk (Yh (Ye w m) x y) zM;simp only [Yf] at o0 q0;have HS0:=hid ((A0.trans A1).trans A2);clear A0 A1 A2;have H:=hid (fun w=>Y7 m w);rw [show Yi m=0 by unfold Yi; rw [hm]; rfl] at H;clear hm;rcases hd with ⟨rfl,rfl,u0,u1,u2,u3,u4⟩ | ⟨rfl,rfl,u0,u1,u2,u3⟩ | ⟨rfl,rfl,u0,u1,u2⟩ <;>
  (obtain ⟨c0,c1,c2,c3,c4,c5,c6,c7,c8,c9,c10,c11,c12,cf⟩:=p0.cells
   go_enter Tryz.func74,Tryz.ntmps74;go_wp2_with fail;refine (H.o _).mono ?_;rintro e w1 ⟨rfl,h1⟩;have p1:=p0.sT h1;have o1:=o0.sT h1;have q1:=q0.sT h1;have HS1:=hid (HS0.o.trans h1);clear h1 HS0 p0 o0 q0 c0 c1 c2 c3 c4 c5 c6 c7 c8 c9 c10 c11 c12 cf H;obtain ⟨c0,c1,c2,c3,c4,c5,c6,c7,c8,c9,c10,c11,c12,cf⟩:=p1.cells;obtain ⟨k0,k1,k2,k3,k4,k5,k6,k7,k8,k9,k10,k11,k12,kf⟩:=q1.cells;rw [HSH.o] at c9;go_wp2_with fail;refine bodyPost_ret (Mb.rest3 (Mb.put (m:=zM) ?_ _ _ _ _ _ _ _ _ _ _ _ _ _) rfl _ _ _ rfl rfl rfl) rfl ⟨?_, ?_⟩
   · repeat (first | refine Mb.other ?_ _ _ _ (by omega) | with_reducible exact q1)
   · first | rfl | (rw [HSH.o]; rfl)
   · repeat (first | refine Yg ?_ _ _ _ (by omega) | with_reducible exact HS1.o))
def R9 (m:Mv) (b:Bool) (X:Mv):Prop :=
 (b=true/\X={ m with co:=m.co,en:=0,sh:=false }/\¬ 0<m.co/\0<=m.en/\m.en<=100/\m.en - 2<=0) \/
 (b=true/\X={ m with co:=m.co,en:=m.en - 2,sh:=true }/\¬ 0<m.co/\0<=m.en/\m.en<=100/\¬ m.en - 2<=0) \/
 (b=false/\X={ m with co:=m.co,en:=m.en+1,sh:=false }/\¬ 0<m.co/\0<=m.en/\m.en<100) \/
 (b=false/\X={ m with co:=m.co,sh:=false }/\¬ 0<m.co/\¬ m.en<100)
theorem Ks (m:Mv) (x y:Int) (b:Bool) (X:Mv) (hm:Yq m=true) (h1:(m.ou == 1)=false) (h2:¬ 1<m.ou) (hsh:m.sh=b) (hd:R9 m b X) (w:World):Ya 74 #[mv m,pt x y] w (.tuple #[mv X,.bool false,.int .i64 0]):=by
  have HSH:=hid hsh;clear hsh;have A0:=aL w (.cells (mcs m) 56);have A1:=aL (Ye w m) (.cells #[.int .i64 x,.int .i64 y] 54);have A2:=aL (Yh (Ye w m) x y) (.cells (mcs zM) 56);have p0:=((Yk w m).sT A1).sT A2;have o0:=(Yp (Ye w m) x y).sT A2;have q0:=Yk (Yh (Ye w m) x y) zM;simp only [Yf] at o0 q0;have HS0:=hid ((A0.trans A1).trans A2);clear A0 A1 A2;have H:=hid (fun w=>Y7 m w);rw [show Yi m=0 by unfold Yi; rw [hm]; rfl] at H;clear hm;rcases hd with ⟨rfl,rfl,u0,u1,u2,u3⟩ | ⟨rfl,rfl,u0,u1,u2,u3⟩ | ⟨rfl,rfl,u0,u1,u2⟩ | ⟨rfl,rfl,u0,u1⟩ <;>
  (obtain ⟨c0,c1,c2,c3,c4,c5,c6,c7,c8,c9,c10,c11,c12,cf⟩:=p0.cells
   go_enter Tryz.func74,Tryz.ntmps74;go_wp2_with fail;refine (H.o _).mono ?_;rintro e w1 ⟨rfl,h1⟩;have p1:=p0.sT h1;have o1:=o0.sT h1;have q1:=q0.sT h1;have HS1:=hid (HS0.o.trans h1);clear h1 HS0 p0 o0 q0 c0 c1 c2 c3 c4 c5 c6 c7 c8 c9 c10 c11 c12 cf H;obtain ⟨c0,c1,c2,c3,c4,c5,c6,c7,c8,c9,c10,c11,c12,cf⟩:=p1.cells;obtain ⟨k0,k1,k2,k3,k4,k5,k6,k7,k8,k9,k10,k11,k12,kf⟩:=q1.cells;rw [HSH.o] at c9;go_wp2_with fail;refine bodyPost_ret (Mb.rest3 (Mb.put (m:=zM) ?_ _ _ _ _ _ _ _ _ _ _ _ _ _) rfl _ _ _ rfl rfl rfl) rfl ⟨?_, ?_⟩
   · repeat (first | refine Mb.other ?_ _ _ _ (by omega) | with_reducible exact q1)
   · first | rfl | (rw [HSH.o]; rfl)
   · repeat (first | refine Yg ?_ _ _ _ (by omega) | with_reducible exact HS1.o))
theorem RA (m:Mv) (x y:Int) (w:World):Ya 74 #[mv m,pt x y] w (.tuple #[mv (V6 m x y),.bool (UZ m),.int .i64 (Yi m)]):=by
 unfold V6 UZ Yi;cases hm:Yq m with
 | false=>exact R4 m x y hm w
 | true =>
  obtain ⟨g1,g2,g3,g4,g5,g6,g7,g8,g9,g10,g11⟩:=mayB_iff.1 hm;simp only [if_true,Bool.true_and];unfold KO;by_cases h1:m.ou=1
  ·have h1':(m.ou == 1)=true:=by simpa using h1
   rw [if_pos h1,h1'];exact R6 m x y hm h1' w
  ·have h1':(m.ou == 1)=false:=by simpa using h1
   rw [if_neg h1,h1'];by_cases h2:1<m.ou
   ·rw [if_pos h2];exact R5 m x y hm h1' h2 g8.2 w
   ·rw [if_neg h2];by_cases hc:0<m.co
    ·rw [if_pos hc];cases hs:m.sh with
     | true =>
      by_cases he:m.en - 2<=0
      ·have e2:decide (0<m.en - 2)=false:=by simp; omega
       simp only [if_true,if_pos he,e2,Bool.and_false];exact R7 m x y hm h1' h2 hc g7.2 g6.1 g6.2 hs he w
      ·have e2:decide (0<m.en - 2)=true:=by simp; omega
       simp only [if_true,if_neg he,e2,Bool.and_true];exact QR m x y _ _ hm h1' h2 hs (.inl ⟨rfl,rfl,hc,g7.2,g6.1,g6.2,he⟩) w
     | false =>
      by_cases he:m.en<100
      ·simp only [if_pos he,Bool.false_and];exact QR m x y _ _ hm h1' h2 hs (.inr (.inl ⟨rfl,rfl,hc,g7.2,g6.1,he⟩)) w
      ·simp only [if_neg he,Bool.false_and];exact QR m x y _ _ hm h1' h2 hs (.inr (.inr ⟨rfl,rfl,hc,g7.2,he⟩)) w
    ·rw [if_neg hc];cases hs:m.sh with
     | true =>
      by_cases he:m.en - 2<=0
      ·have e2:decide (0<m.en - 2)=false:=by simp; omega
       simp only [if_true,if_pos he,e2,Bool.and_false];exact Ks m x y _ _ hm h1' h2 hs (.inl ⟨rfl,rfl,hc,g6.1,g6.2,he⟩) w
      ·have e2:decide (0<m.en - 2)=true:=by simp; omega
       simp only [if_true,if_neg he,e2,Bool.and_true];exact Ks m x y _ _ hm h1' h2 hs (.inr (.inl ⟨rfl,rfl,hc,g6.1,g6.2,he⟩)) w
     | false =>
      by_cases he:m.en<100
      ·simp only [if_pos he,Bool.false_and];exact Ks m x y _ _ hm h1' h2 hs (.inr (.inr (.inl ⟨rfl,rfl,hc,g6.1,he⟩))) w
      ·simp only [if_neg he,Bool.false_and];exact Ks m x y _ _ hm h1' h2 hs (.inr (.inr (.inr (⟨rfl,rfl,hc,he⟩)))) w
end Go.Proofs.YthcjckgmdokmdaaGreatDoor
