import Derived.Test.YthcjckgmdokmdaaGreatDoorXQ27
import Derived.Test.YthcjckgmdokmdaaGreatDoorXQ19
import Derived.Test.YthcjckgmdokmdaaGreatDoorXQ11
import Derived.Test.YthcjckgmdokmdaaGreatDoorXQ10
set_option maxHeartbeats 4000000
namespace Go.Proofs.YthcjckgmdokmdaaGreatDoor
open Go.RowKit
open Pu Gp Ap Vp Np Za Ka Ja
set_option maxRecDepth 100000
theorem Ld:YB 1280 0 2147483647=1280:=by decide
theorem Le:YB 768 0 2147483647=768:=by decide
theorem Mb.others {w:World} {g k:Nat} {m:Mv} (h:Mb w g m) (hk:g≠k) (ax:Int) (ay:Int) (sx:Int) (sy:Int) (px:Int) (py:Int) (fc:Int) (hl:Int) (en:Int) (sh:Bool) (co:Int) (ou:Int) (sd:Int):Mb (((((((((((((w.setCell ⟨k,0,none⟩ (.int .i64 ax)).setCell ⟨k,1,none⟩ (.int .i64 ay)).setCell ⟨k,2,none⟩ (.int .i64 sx)).setCell ⟨k,3,none⟩ (.int .i64 sy)).setCell ⟨k,4,none⟩ (.int .i64 px)).setCell ⟨k,5,none⟩ (.int .i64 py)).setCell ⟨k,6,none⟩ (.int .i64 fc)).setCell ⟨k,7,none⟩ (.int .i64 hl)).setCell ⟨k,8,none⟩ (.int .i64 en)).setCell ⟨k,9,none⟩ (.bool sh)).setCell ⟨k,10,none⟩ (.int .i64 co)).setCell ⟨k,11,none⟩ (.int .i64 ou)).setCell ⟨k,12,none⟩ (.int .i64 sd)) g m:=by
 have h1:=h.other k 0 (.int .i64 ax) hk;have h2:=h1.other k 1 (.int .i64 ay) hk;have h3:=h2.other k 2 (.int .i64 sx) hk;have h4:=h3.other k 3 (.int .i64 sy) hk;have h5:=h4.other k 4 (.int .i64 px) hk;have h6:=h5.other k 5 (.int .i64 py) hk;have h7:=h6.other k 6 (.int .i64 fc) hk;have h8:=h7.other k 7 (.int .i64 hl) hk;have h9:=h8.other k 8 (.int .i64 en) hk;have h10:=h9.other k 9 (.bool sh) hk;have h11:=h10.other k 10 (.int .i64 co) hk;have h12:=h11.other k 11 (.int .i64 ou) hk;have h13:=h12.other k 12 (.int .i64 sd) hk;exact h13
theorem Mb.sp {w:World} {g:Nat} {m:Mv} (h:Mb w g m) (x y:Int):Mb ((w.setCell ⟨g,2,none⟩ (.int .i64 x)).setCell ⟨g,3,none⟩ (.int .i64 y)) g { m with sx:=x,sy:=y }:=by
 have h1:=heap_setCell_same w g 2 _ _ (.int .i64 x) h;have h2:=heap_setCell_same _ g 3 _ _ (.int .i64 y) h1;exact h2.trans (by kernel_rfl)
theorem Kj {fn:Func} {p q r:Tmp} {w:World} {g k:Nat} {a b:Mv} (ha:Mb w g a) (hb:Mb w k b) (h:fn.results=#[.cell p 56,.cell q 56,.tmp r]) (tmps:Array Value) (t:Value) (hp:tmps.getD p undef=.pointer (some ⟨g,0,none⟩)) (hq:tmps.getD q undef=.pointer (some ⟨k,0,none⟩)) (hr:tmps.getD r undef=t) :
  (results fn tmps).run Tryz.prog w=.ok (.tuple #[mv a,mv b,t]) w:=by
 have hp':tmps[p]?.getD undef=.pointer (some ⟨g,0,none⟩):=by simpa using hp
 have hq':tmps[q]?.getD undef=.pointer (some ⟨k,0,none⟩):=by simpa using hq
 have hr':tmps[r]?.getD undef=t:=by simpa using hr
 simp [results,h,hp',hq',hr',asAddr,ha.load,hb.load]
end Go.Proofs.YthcjckgmdokmdaaGreatDoor
namespace Go.Proofs.YthcjckgmdokmdaaGreatDoor
open Go.RowKit
open Ea
set_option maxRecDepth 100000
theorem VM (n:Int) (w:World):Yb 126 #[.int .i64 n] w (.int .i64 (bdC n)):=by
 by_cases h1:n > 2147483647
 ·have HE:Hid (bdC n=2147483647):=hid (by unfold bdC; rw [if_pos h1]);go_enter Tryz.func126,Tryz.ntmps126;go_wp2_with fail;go_ret;exact ⟨by rw [HE.o]; rfl,rfl⟩
 ·by_cases h2:n < -2147483647
  ·have HE:Hid (bdC n=-2147483647):=hid (by unfold bdC; rw [if_neg h1,if_pos h2]);go_enter Tryz.func126,Tryz.ntmps126;go_wp2_with fail;go_ret;exact ⟨by rw [HE.o]; rfl,rfl⟩
  ·have HE:Hid (bdC n=n):=hid (by unfold bdC; rw [if_neg h1,if_neg h2]);go_enter Tryz.func126,Tryz.ntmps126;go_wp2_with fail;go_ret;exact ⟨by rw [HE.o]; rfl,rfl⟩
theorem ZV (x:Scr) (w:World):Ya 104 #[cv x] w (.int .i64 (Y8 x)):=by
 have p:=ZK w x;have HS:=hid (aL w (.cells (ccs x) 61));obtain ⟨c0,c1,c2,c3,cf⟩:=p.cells;clear p;by_cases z0:x.p < -2147483647
 ·have HE:Hid (Y8 x=120):=hid (Xf (fun h=>by have:=h.1; have:=h.2.1; have:=h.2.2.1; have:=h.2.2.2; omega));go_enter Tryz.func104,Tryz.ntmps104;go_wp2_with fail;go_ret;exact ⟨by rw [HE.o]; rfl,HS.o⟩
 by_cases z1:x.p > 2147483647
 ·have HE:Hid (Y8 x=120):=hid (Xf (fun h=>by have:=h.1; have:=h.2.1; have:=h.2.2.1; have:=h.2.2.2; omega));go_enter Tryz.func104,Tryz.ntmps104;go_wp2_with fail;go_ret;exact ⟨by rw [HE.o]; rfl,HS.o⟩
 have y1:decide (2147483647<x.p)=false:=by simpa using z1
 by_cases z2:x.h<0
 ·have HE:Hid (Y8 x=120):=hid (Xf (fun h=>by have:=h.1; have:=h.2.1; have:=h.2.2.1; have:=h.2.2.2; omega));go_enter Tryz.func104,Tryz.ntmps104;go_wp2_with fail;go_ret;exact ⟨by rw [HE.o]; rfl,HS.o⟩
 by_cases z3:x.h > 2147483647
 ·have HE:Hid (Y8 x=120):=hid (Xf (fun h=>by have:=h.1; have:=h.2.1; have:=h.2.2.1; have:=h.2.2.2; omega));go_enter Tryz.func104,Tryz.ntmps104;go_wp2_with fail;go_ret;exact ⟨by rw [HE.o]; rfl,HS.o⟩
 have y3:decide (2147483647<x.h)=false:=by simpa using z3
 by_cases z4:x.o<0
 ·have HE:Hid (Y8 x=120):=hid (Xf (fun h=>by have:=h.1; have:=h.2.1; have:=h.2.2.1; have:=h.2.2.2; omega));go_enter Tryz.func104,Tryz.ntmps104;go_wp2_with fail;go_ret;exact ⟨by rw [HE.o]; rfl,HS.o⟩
 by_cases z5:x.o > 2147483647
 ·have HE:Hid (Y8 x=120):=hid (Xf (fun h=>by have:=h.1; have:=h.2.1; have:=h.2.2.1; have:=h.2.2.2; omega));go_enter Tryz.func104,Tryz.ntmps104;go_wp2_with fail;go_ret;exact ⟨by rw [HE.o]; rfl,HS.o⟩
 have y5:decide (2147483647<x.o)=false:=by simpa using z5
 by_cases z6:x.k<0
 ·have HE:Hid (Y8 x=120):=hid (Xf (fun h=>by have:=h.1; have:=h.2.1; have:=h.2.2.1; have:=h.2.2.2; omega));go_enter Tryz.func104,Tryz.ntmps104;go_wp2_with fail;go_ret;exact ⟨by rw [HE.o]; rfl,HS.o⟩
 by_cases z7:x.k > 2147483647
 ·have HE:Hid (Y8 x=120):=hid (Xf (fun h=>by have:=h.1; have:=h.2.1; have:=h.2.2.1; have:=h.2.2.2; omega));go_enter Tryz.func104,Tryz.ntmps104;go_wp2_with fail;go_ret;exact ⟨by rw [HE.o]; rfl,HS.o⟩
 have y7:decide (2147483647<x.k)=false:=by simpa using z7
 have HE:Hid (Y8 x=0):=hid (Xo (by unfold Yt; omega));clear z1 z3 z5 z7;go_enter Tryz.func104,Tryz.ntmps104;go_wp2_with fail;go_ret;exact ⟨by rw [HE.o]; rfl,HS.o⟩
theorem Lf (x:Scr) (n:Int) (hm:¬ Yt x) (w:World):Ya 72 #[cv x,.int .i64 n] w (.tuple #[cv zC,.int .i64 120]):=by
 have A0:=aL w (.cells (ccs x) 61);have A1:=aL (YY w x) (.cells (ccs zC) 61);have p0:=(ZK w x).sT A1;have q0:=ZK (YY w x) zC;simp only [Yf] at q0;have HS0:=hid (A0.trans A1);clear A0 A1;obtain ⟨c0,c1,c2,c3,cf⟩:=p0.cells;have H:=hid (fun w=>ZV x w);rw [Xf hm] at H;clear hm;go_enter Tryz.func72,Tryz.ntmps72;go_wp2_with fail;refine (H.o _).mono ?_;rintro e w1 ⟨rfl,h1⟩;have p1:=p0.sT h1;have q1:=q0.sT h1;have HS1:=hid (HS0.o.trans h1);clear h1 HS0 p0 q0 c0 c1 c2 c3 cf H;obtain ⟨c0,c1,c2,c3,cf⟩:=p1.cells;obtain ⟨d0,d1,d2,d3,df⟩:=q1.cells;go_wp2_with fail;refine bodyPost_ret (Cb.rest (Cb.put q1 _ _ _ _) rfl _ _ rfl rfl) rfl ⟨rfl, ?_⟩;repeat (first | refine YV ?_ _ _ _ (by omega) | with_reducible exact HS1.o)
theorem Lg (x:Scr) (n:Int) (hm:Yt x) (hn:¬ (0<=n/\n<=100)) (w:World):Ya 72 #[cv x,.int .i64 n] w (.tuple #[cv zC,.int .i64 1]):=by
 have A0:=aL w (.cells (ccs x) 61);have A1:=aL (YY w x) (.cells (ccs zC) 61);have p0:=(ZK w x).sT A1;have q0:=ZK (YY w x) zC;simp only [Yf] at q0;have HS0:=hid (A0.trans A1);clear A0 A1;obtain ⟨c0,c1,c2,c3,cf⟩:=p0.cells;have H:=hid (fun w=>ZV x w);rw [Xo hm] at H;have HN:=hid hn;clear hm hn;go_enter Tryz.func72,Tryz.ntmps72;go_wp2_with fail;refine (H.o _).mono ?_;rintro e w1 ⟨rfl,h1⟩;have p1:=p0.sT h1;have q1:=q0.sT h1;have HS1:=hid (HS0.o.trans h1);clear h1 HS0 p0 q0 c0 c1 c2 c3 cf H;obtain ⟨c0,c1,c2,c3,cf⟩:=p1.cells;obtain ⟨d0,d1,d2,d3,df⟩:=q1.cells;by_cases g0:n<0
 ·go_wp2_with fail;refine bodyPost_ret (Cb.rest (Cb.put q1 _ _ _ _) rfl _ _ rfl rfl) rfl ⟨rfl, ?_⟩;repeat (first | refine YV ?_ _ _ _ (by omega) | with_reducible exact HS1.o)
 ·have g1:n > 100:=by have:=HN.o; omega
  go_wp2_with fail;refine bodyPost_ret (Cb.rest (Cb.put q1 _ _ _ _) rfl _ _ rfl rfl) rfl ⟨rfl, ?_⟩;repeat (first | refine YV ?_ _ _ _ (by omega) | with_reducible exact HS1.o)
theorem Lh (x:Scr) (n:Int) (hm:Yt x) (g0:¬ n<0) (g1:decide (100<n)=false) (w:World):Ya 72 #[cv x,.int .i64 n] w (.tuple #[cv { x with p:=bdC (x.p+n) },.int .i64 0]):=by
 have hx:=hm.1;have hn1:n<=100:=by simpa using g1
 have A0:=aL w (.cells (ccs x) 61);have A1:=aL (YY w x) (.cells (ccs zC) 61);have p0:=(ZK w x).sT A1;have q0:=ZK (YY w x) zC;simp only [Yf] at q0;have HS0:=hid (A0.trans A1);clear A0 A1;obtain ⟨c0,c1,c2,c3,cf⟩:=p0.cells;have H:=hid (fun w=>ZV x w);rw [Xo hm] at H;have HB:=hid (fun w=>VM (x.p+n) w);obtain ⟨v,ev⟩:∃ v,bdC (x.p+n)=v:=⟨_,rfl⟩;rw [ev] at HB ⊢;clear hm ev;go_enter Tryz.func72,Tryz.ntmps72;go_wp2_with fail;refine (H.o _).mono ?_;rintro e w1 ⟨rfl,h1⟩;have p1:=p0.sT h1;have q1:=q0.sT h1;have HS1:=hid (HS0.o.trans h1);clear h1 HS0 p0 q0 c0 c1 c2 c3 cf H;obtain ⟨c0,c1,c2,c3,cf⟩:=p1.cells;obtain ⟨d0,d1,d2,d3,df⟩:=q1.cells;go_wp2_with fail;refine (HB.o _).mono ?_;rintro e w2 ⟨he,hw⟩;rw [he,hw];clear he hw w2 HB;have p3:=p1.sp v;have q3:=q1.other w.heap.size 0 (.int .i64 v) (by omega);have HS3:=hid (YV HS1.o w.heap.size 0 (.int .i64 v) (Nat.le_refl _));obtain ⟨W3,eW3⟩:∃ W3,w1.setCell ⟨w.heap.size,0,none⟩ (.int .i64 v)=W3:=⟨_,rfl⟩;rw [eW3] at p3 q3 HS3;go_upto_region 7 with fail;clear eW3 p1 q1 HS1 c0 c1 c2 c3 cf d0 d1 d2 d3 df;obtain ⟨c0,c1,c2,c3,cf⟩:=p3.cells;obtain ⟨d0,d1,d2,d3,df⟩:=q3.cells;go_wp2_with fail;refine bodyPost_ret (Cb.rest (Cb.put q3 _ _ _ _) rfl _ _ rfl rfl) rfl ⟨rfl, ?_⟩;repeat (first | refine YV ?_ _ _ _ (by omega) | with_reducible exact HS3.o)
theorem Li (x:Scr) (n:Int) (w:World):Ya 72 #[cv x,.int .i64 n] w (.tuple #[cv (Xi x n),.int .i64 (XT x n)]):=by
 by_cases hm:Yt x
 ·by_cases hn:0<=n/\n<=100
  ·have e:Xi x n={ x with p:=bdC (x.p+n) }:=by unfold Xi; rw [if_pos (Qd hm hn)]
   rw [e,Qd hm hn];exact Lh x n hm (by omega) (by simp; omega) w
  ·have e:Xi x n=zC:=by unfold Xi; rw [D2 hm hn]; rfl
   rw [e,D2 hm hn];exact Lg x n hm hn w
 ·have e:Xi x n=zC:=by unfold Xi; rw [D3 hm]; rfl
  rw [e,D3 hm];exact Lf x n hm w
theorem Lj (a b:Scr) (n:Int) (out:Bool) (hm:¬ (Yt a/\Yt b)) (w:World):Ya 124 #[cv a,cv b,.int .i64 n,.bool out] w (.tuple #[cv zC,cv zC,.int .i64 120]):=by
 by_cases ha:Yt a
 ·have hb:¬ Yt b:=fun h=>hm ⟨ha,h⟩;have F0:=F4.new w a b;obtain ⟨c0,c1,c2,c3,cf⟩:=F0.1.cells;obtain ⟨d0,d1,d2,d3,df⟩:=F0.2.1.cells;have HA:=hid (fun w=>ZV a w);have HB:=hid (fun w=>ZV b w);rw [Xo ha] at HA;rw [Xf hb] at HB;clear hm ha hb;go_enter Tryz.func124,Tryz.ntmps124;go_wp2_with fail;refine (HA.o _).mono ?_;rintro e w1 ⟨rfl,h1⟩;have F1:=F0.on h1;clear h1 F0 c0 c1 c2 c3 cf d0 d1 d2 d3 df HA;obtain ⟨c0,c1,c2,c3,cf⟩:=F1.1.cells;obtain ⟨d0,d1,d2,d3,df⟩:=F1.2.1.cells;go_wp2_with fail;refine (HB.o _).mono ?_;rintro e w2 ⟨rfl,h2⟩;have F2:=F1.on h2;have HF2:=hid F2;have HS2:Hid (Yc w w2):=hid F2.2.2.2.2;clear h2 F1 c0 c1 c2 c3 cf d0 d1 d2 d3 df HB;obtain ⟨c0,c1,c2,c3,cf⟩:=F2.1.cells;obtain ⟨d0,d1,d2,d3,df⟩:=F2.2.1.cells;obtain ⟨k0,k1,k2,k3,kf⟩:=F2.2.2.1.cells;obtain ⟨l0,l1,l2,l3,lf⟩:=F2.2.2.2.1.cells;clear F2;go_wp2_with fail;refine bodyPost_ret (Cb.res2 ((HF2.o.2.2.1.put _ _ _ _).others (k:=w.heap.size+1+1+1) (by omega) _ _ _ _) ((HF2.o.2.2.2.1.others (k:=w.heap.size+1+1) (by omega) _ _ _ _).put _ _ _ _) rfl _ _ rfl rfl rfl) rfl ⟨rfl, ?_⟩;repeat (first | refine YV ?_ _ _ _ (by omega) | with_reducible exact HS2.o)
 ·have HEx:∃ E,Y8 b=E:=⟨_,rfl⟩;obtain ⟨E,eE⟩:=HEx;have F0:=F4.new w a b;obtain ⟨c0,c1,c2,c3,cf⟩:=F0.1.cells;obtain ⟨d0,d1,d2,d3,df⟩:=F0.2.1.cells;have HA:=hid (fun w=>ZV a w);have HB:=hid (fun w=>ZV b w);rw [Xf ha] at HA;rw [eE] at HB;clear hm ha eE;go_enter Tryz.func124,Tryz.ntmps124;go_wp2_with fail;refine (HA.o _).mono ?_;rintro e w1 ⟨rfl,h1⟩;have F1:=F0.on h1;clear h1 F0 c0 c1 c2 c3 cf d0 d1 d2 d3 df HA;obtain ⟨c0,c1,c2,c3,cf⟩:=F1.1.cells;obtain ⟨d0,d1,d2,d3,df⟩:=F1.2.1.cells;go_wp2_with fail;refine (HB.o _).mono ?_;rintro e w2 ⟨rfl,h2⟩;have F2:=F1.on h2;have HF2:=hid F2;have HS2:Hid (Yc w w2):=hid F2.2.2.2.2;clear h2 F1 c0 c1 c2 c3 cf d0 d1 d2 d3 df HB;obtain ⟨c0,c1,c2,c3,cf⟩:=F2.1.cells;obtain ⟨d0,d1,d2,d3,df⟩:=F2.2.1.cells;obtain ⟨k0,k1,k2,k3,kf⟩:=F2.2.2.1.cells;obtain ⟨l0,l1,l2,l3,lf⟩:=F2.2.2.2.1.cells;clear F2;go_wp2_with fail;refine bodyPost_ret (Cb.res2 ((HF2.o.2.2.1.put _ _ _ _).others (k:=w.heap.size+1+1+1) (by omega) _ _ _ _) ((HF2.o.2.2.2.1.others (k:=w.heap.size+1+1) (by omega) _ _ _ _).put _ _ _ _) rfl _ _ rfl rfl rfl) rfl ⟨rfl, ?_⟩;repeat (first | refine YV ?_ _ _ _ (by omega) | with_reducible exact HS2.o)
theorem Lk (a b:Scr) (n:Int) (out:Bool) (ha:Yt a) (hb:Yt b) (hn:¬ (1<=n/\n<=3)) (w:World):Ya 124 #[cv a,cv b,.int .i64 n,.bool out] w (.tuple #[cv zC,cv zC,.int .i64 1]):=by
 have HN:=hid hn;have F0:=F4.new w a b;obtain ⟨c0,c1,c2,c3,cf⟩:=F0.1.cells;obtain ⟨d0,d1,d2,d3,df⟩:=F0.2.1.cells;have HA:=hid (fun w=>ZV a w);have HB:=hid (fun w=>ZV b w);rw [Xo ha] at HA;rw [Xo hb] at HB;clear hn ha hb;go_enter Tryz.func124,Tryz.ntmps124;go_wp2_with fail;refine (HA.o _).mono ?_;rintro e w1 ⟨rfl,h1⟩;have F1:=F0.on h1;clear h1 F0 c0 c1 c2 c3 cf d0 d1 d2 d3 df HA;obtain ⟨c0,c1,c2,c3,cf⟩:=F1.1.cells;obtain ⟨d0,d1,d2,d3,df⟩:=F1.2.1.cells;go_wp2_with fail;refine (HB.o _).mono ?_;rintro e w2 ⟨rfl,h2⟩;have F2:=F1.on h2;have HF2:=hid F2;have HS2:Hid (Yc w w2):=hid F2.2.2.2.2;clear h2 F1 c0 c1 c2 c3 cf d0 d1 d2 d3 df HB;obtain ⟨c0,c1,c2,c3,cf⟩:=F2.1.cells;obtain ⟨d0,d1,d2,d3,df⟩:=F2.2.1.cells;obtain ⟨k0,k1,k2,k3,kf⟩:=F2.2.2.1.cells;obtain ⟨l0,l1,l2,l3,lf⟩:=F2.2.2.2.1.cells;clear F2;by_cases g0:n<1
 ·go_wp2_with fail;refine bodyPost_ret (Cb.res2 ((HF2.o.2.2.1.put _ _ _ _).others (k:=w.heap.size+1+1+1) (by omega) _ _ _ _) ((HF2.o.2.2.2.1.others (k:=w.heap.size+1+1) (by omega) _ _ _ _).put _ _ _ _) rfl _ _ rfl rfl rfl) rfl ⟨rfl, ?_⟩;repeat (first | refine YV ?_ _ _ _ (by omega) | with_reducible exact HS2.o)
 ·have g1:n > 3:=by have:=HN.o; omega
  go_wp2_with fail;refine bodyPost_ret (Cb.res2 ((HF2.o.2.2.1.put _ _ _ _).others (k:=w.heap.size+1+1+1) (by omega) _ _ _ _) ((HF2.o.2.2.2.1.others (k:=w.heap.size+1+1) (by omega) _ _ _ _).put _ _ _ _) rfl _ _ rfl rfl rfl) rfl ⟨rfl, ?_⟩;repeat (first | refine YV ?_ _ _ _ (by omega) | with_reducible exact HS2.o)
theorem Ll (a b:Scr) (n:Int) (ha:Yt a) (hb:Yt b) (g0:¬ n<1) (g1:decide (3<n)=false) (U V:Int) (hU:bdC (a.h+1)=U) (hV:bdC (a.p+n)=V) (w:World):Ya 124 #[cv a,cv b,.int .i64 n,.bool false] w (.tuple #[cv ⟨V,U,a.o,a.k⟩,cv b,.int .i64 0]):=by
 have HBh:=fun w=>VM (a.h+1) w;have HBp:=fun w=>VM (a.p+n) w;rw [hU] at HBh;rw [hV] at HBp;have hh:=ha.2.1;have hp:=ha.1;have hn3:n<=3:=by simpa using g1
 have F0:=F4.new w a b;obtain ⟨c0,c1,c2,c3,cf⟩:=F0.1.cells;obtain ⟨d0,d1,d2,d3,df⟩:=F0.2.1.cells;have HA:=hid (fun w=>ZV a w);have HB:=hid (fun w=>ZV b w);rw [Xo ha] at HA;rw [Xo hb] at HB;clear ha hb hU hV;go_enter Tryz.func124,Tryz.ntmps124;go_wp2_with fail;refine (HA.o _).mono ?_;rintro e w1 ⟨rfl,h1⟩;have F1:=F0.on h1;clear h1 F0 c0 c1 c2 c3 cf d0 d1 d2 d3 df HA;obtain ⟨c0,c1,c2,c3,cf⟩:=F1.1.cells;obtain ⟨d0,d1,d2,d3,df⟩:=F1.2.1.cells;go_wp2_with fail;refine (HB.o _).mono ?_;rintro e w2 ⟨rfl,h2⟩;have F2:=F1.on h2;have HF2:=hid F2;have HS2:Hid (Yc w w2):=hid F2.2.2.2.2;clear h2 F1 c0 c1 c2 c3 cf d0 d1 d2 d3 df HB;obtain ⟨c0,c1,c2,c3,cf⟩:=F2.1.cells;obtain ⟨d0,d1,d2,d3,df⟩:=F2.2.1.cells;obtain ⟨k0,k1,k2,k3,kf⟩:=F2.2.2.1.cells;obtain ⟨l0,l1,l2,l3,lf⟩:=F2.2.2.2.1.cells;clear F2;obtain ⟨W2,eW2⟩:∃ W,W=w2:=⟨_,rfl⟩;rw [<- eW2] at HF2 HS2 c0 c1 c2 c3 cf d0 d1 d2 d3 df ⊢;clear eW2 k0 k1 k2 k3 kf l0 l1 l2 l3 lf;go_wp2_with fail;refine (HBh _).mono ?_;rintro e w' ⟨he,hw⟩;rw [he,hw];clear he hw w';have F3:=HF2.o.setA 1 (.int .i64 U) (HF2.o.1.sh U);obtain ⟨W3,eW3⟩:∃ W,W2.setCell ⟨w.heap.size,1,none⟩ (.int .i64 U)=W:=⟨_,rfl⟩;rw [eW3] at F3;have HF3:=hid F3;clear F3;go_upto_region 19 with fail;clear eW3 HF2 c0 c1 c2 c3 cf d0 d1 d2 d3 df;obtain ⟨c0,c1,c2,c3,cf⟩:=HF3.o.1.cells;obtain ⟨d0,d1,d2,d3,df⟩:=HF3.o.2.1.cells;go_wp2_with fail;refine (HBp _).mono ?_;rintro e w' ⟨he,hw⟩;rw [he,hw];clear he hw w';have F4:=HF3.o.setA 0 (.int .i64 V) (HF3.o.1.sp V);obtain ⟨W4,eW4⟩:∃ W,W3.setCell ⟨w.heap.size,0,none⟩ (.int .i64 V)=W:=⟨_,rfl⟩;rw [eW4] at F4;have HF4:=hid F4;clear F4;go_upto_region 20 with fail;clear eW4 HF3 c0 c1 c2 c3 cf d0 d1 d2 d3 df;obtain ⟨c0,c1,c2,c3,cf⟩:=HF4.o.1.cells;obtain ⟨d0,d1,d2,d3,df⟩:=HF4.o.2.1.cells;have F8:=HF4.o.on ((Fr.refl _ W4).drew);obtain ⟨W8,eW8⟩:∃ W,W4.drew=W:=⟨_,rfl⟩;rw [eW8] at F8;clear HF4 c0 c1 c2 c3 cf d0 d1 d2 d3 df;obtain ⟨c0,c1,c2,c3,cf⟩:=F8.1.cells;obtain ⟨d0,d1,d2,d3,df⟩:=F8.2.1.cells;obtain ⟨k0,k1,k2,k3,kf⟩:=F8.2.2.1.cells;have r9:=F8.2.2.1.put ((⟨V,U,a.o,a.k⟩:Scr)).p ((⟨V,U,a.o,a.k⟩:Scr)).h ((⟨V,U,a.o,a.k⟩:Scr)).o ((⟨V,U,a.o,a.k⟩:Scr)).k;have s9:=F8.2.2.2.1.others (k:=w.heap.size+1+1) (by omega) ((⟨V,U,a.o,a.k⟩:Scr)).p ((⟨V,U,a.o,a.k⟩:Scr)).h ((⟨V,U,a.o,a.k⟩:Scr)).o ((⟨V,U,a.o,a.k⟩:Scr)).k;have q9:=F8.2.1.others (k:=w.heap.size+1+1) (by omega) ((⟨V,U,a.o,a.k⟩:Scr)).p ((⟨V,U,a.o,a.k⟩:Scr)).h ((⟨V,U,a.o,a.k⟩:Scr)).o ((⟨V,U,a.o,a.k⟩:Scr)).k;have HS9:=hid (YV (YV (YV (YV F8.2.2.2.2 (w.heap.size+1+1) 0 (.int .i64 ((⟨V,U,a.o,a.k⟩:Scr)).p) (by omega)) (w.heap.size+1+1) 1 (.int .i64 ((⟨V,U,a.o,a.k⟩:Scr)).h) (by omega)) (w.heap.size+1+1) 2 (.int .i64 ((⟨V,U,a.o,a.k⟩:Scr)).o) (by omega)) (w.heap.size+1+1) 3 (.int .i64 ((⟨V,U,a.o,a.k⟩:Scr)).k) (by omega));obtain ⟨W9,eW9⟩:∃ W,(((W8.setCell ⟨w.heap.size+1+1,0,none⟩ (.int .i64 ((⟨V,U,a.o,a.k⟩:Scr)).p)).setCell ⟨w.heap.size+1+1,1,none⟩ (.int .i64 ((⟨V,U,a.o,a.k⟩:Scr)).h)).setCell ⟨w.heap.size+1+1,2,none⟩ (.int .i64 ((⟨V,U,a.o,a.k⟩:Scr)).o)).setCell ⟨w.heap.size+1+1,3,none⟩ (.int .i64 ((⟨V,U,a.o,a.k⟩:Scr)).k)=W:=⟨_,rfl⟩;rw [eW9] at r9 s9 q9 HS9;obtain ⟨e0,e1,e2,e3,ef⟩:=q9.cells;obtain ⟨g0,g1,g2,g3,gf⟩:=s9.cells;clear F8;go_region
 all_goals
  go_wp2_with fail
  (try simp only [Exit.inBlock,Exit.then])
  refine bodyPost_ret (Cb.res2 (r9.others (k:=w.heap.size+1+1+1) (by omega) _ _ _ _) (s9.put _ _ _ _) rfl _ _ rfl rfl rfl) rfl ⟨rfl, ?_⟩;repeat (first | refine YV ?_ _ _ _ (by omega) | with_reducible exact HS9.o)
theorem Lm (a b:Scr) (n:Int) (ha:Yt a) (hb:Yt b) (g0:¬ n<1) (g1:decide (3<n)=false) (K O P U V:Int) (hK:bdC (a.k+1)=K) (hO:bdC (b.o+1)=O) (hP:bdC (b.p - 2)=P) (hU:bdC (a.h+1)=U) (hV:bdC (a.p+(n+10+(if a.k<5 then a.k else 5)))=V) (w:World):Ya 124 #[cv a,cv b,.int .i64 n,.bool true] w (.tuple #[cv ⟨V,U,a.o,K⟩,cv ⟨P,b.h,O,0⟩,.int .i64 0]):=by
 have HBk:=fun w=>VM (a.k+1) w;have HBo:=fun w=>VM (b.o+1) w;have HBq:=fun w=>VM (b.p - 2) w;have HBh:=fun w=>VM (a.h+1) w;have HBp:=fun w=>VM (a.p+(n+10+(if a.k<5 then a.k else 5))) w;rw [hK] at HBk;rw [hO] at HBo;rw [hP] at HBq;rw [hU] at HBh;rw [hV] at HBp;have hh:=ha.2.1;have hp:=ha.1;have hk:=ha.2.2.2;have ho:=hb.2.2.1;have hq:=hb.1;have hn3:n<=3:=by simpa using g1
 have F0:=F4.new w a b;obtain ⟨c0,c1,c2,c3,cf⟩:=F0.1.cells;obtain ⟨d0,d1,d2,d3,df⟩:=F0.2.1.cells;have HA:=hid (fun w=>ZV a w);have HB:=hid (fun w=>ZV b w);rw [Xo ha] at HA;rw [Xo hb] at HB;clear ha hb hK hO hP hU hV;go_enter Tryz.func124,Tryz.ntmps124;go_wp2_with fail;refine (HA.o _).mono ?_;rintro e w1 ⟨rfl,h1⟩;have F1:=F0.on h1;clear h1 F0 c0 c1 c2 c3 cf d0 d1 d2 d3 df HA;obtain ⟨c0,c1,c2,c3,cf⟩:=F1.1.cells;obtain ⟨d0,d1,d2,d3,df⟩:=F1.2.1.cells;go_wp2_with fail;refine (HB.o _).mono ?_;rintro e w2 ⟨rfl,h2⟩;have F2:=F1.on h2;have HF2:=hid F2;have HS2:Hid (Yc w w2):=hid F2.2.2.2.2;clear h2 F1 c0 c1 c2 c3 cf d0 d1 d2 d3 df HB;obtain ⟨c0,c1,c2,c3,cf⟩:=F2.1.cells;obtain ⟨d0,d1,d2,d3,df⟩:=F2.2.1.cells;obtain ⟨k0,k1,k2,k3,kf⟩:=F2.2.2.1.cells;obtain ⟨l0,l1,l2,l3,lf⟩:=F2.2.2.2.1.cells;clear F2;obtain ⟨W2,eW2⟩:∃ W,W=w2:=⟨_,rfl⟩;rw [<- eW2] at HF2 HS2 c0 c1 c2 c3 cf d0 d1 d2 d3 df ⊢;clear eW2 k0 k1 k2 k3 kf l0 l1 l2 l3 lf;go_wp2_with fail;go_loopw [13,14] (fun v u wr=>∃ j:Nat,j<=5/\(j:Int)<=a.k/\v=.int .i64 (n+10+(j:Int))/\u=.int .i64 (j:Int)/\wr=W2) (fun _ u _=>5 - (intOf u).toNat);case atStart=>exact ⟨0,by omega,by omega,by simp,rfl,rfl⟩
 case round =>
  obtain ⟨j,hj5,hjk,rfl,rfl,rfl⟩:=hrel;by_cases z:(j:Int)<5
  ·by_cases y:(j:Int)<a.k
   ·go_wp2_with fail;go_roundw;case rel=>exact ⟨j+1,by omega,by omega,by simp; omega,by go_num,by trivial⟩
    case measure=>simp [intOf]; omega
   ·have hm:(if a.k<5 then a.k else 5)=(j:Int):=by rw [if_pos (by omega)]; omega
    rw [hm] at HBp;have y':decide ((j:Int)<a.k)=false:=by simpa using y
    have hj:(j:Int)<=5:=by omega
    have hj0:0<=(j:Int):=by omega
    obtain ⟨m,em⟩:∃ m,(j:Int)=m:=⟨_,rfl⟩;rw [em] at HBp hj hj0 z y' ⊢;clear hm y hjk hj5 em;go_wp2_with fail;refine (HBk _).mono ?_;rintro e w' ⟨he,hw⟩;rw [he,hw];clear he hw w';have F3:=HF2.o.setA 3 (.int .i64 K) (HF2.o.1.sk K);obtain ⟨W3,eW3⟩:∃ W,wr.setCell ⟨w.heap.size,3,none⟩ (.int .i64 K)=W:=⟨_,rfl⟩;rw [eW3] at F3;have HF3:=hid F3;clear F3;go_upto_region 15 with fail;clear eW3 HF2 c0 c1 c2 c3 cf d0 d1 d2 d3 df;obtain ⟨c0,c1,c2,c3,cf⟩:=HF3.o.1.cells;obtain ⟨d0,d1,d2,d3,df⟩:=HF3.o.2.1.cells;go_wp2_with fail;refine (HBo _).mono ?_;rintro e w' ⟨he,hw⟩;rw [he,hw];clear he hw w';have F4:=HF3.o.setB 2 (.int .i64 O) (HF3.o.2.1.so O);obtain ⟨W4,eW4⟩:∃ W,W3.setCell ⟨w.heap.size+1,2,none⟩ (.int .i64 O)=W:=⟨_,rfl⟩;rw [eW4] at F4;have HF4:=hid F4;clear F4;go_upto_region 16 with fail;clear eW4 HF3 c0 c1 c2 c3 cf d0 d1 d2 d3 df;obtain ⟨c0,c1,c2,c3,cf⟩:=HF4.o.1.cells;obtain ⟨d0,d1,d2,d3,df⟩:=HF4.o.2.1.cells;have F5:=HF4.o.setB 3 (.int .i64 0) (HF4.o.2.1.sk 0);obtain ⟨W5,eW5⟩:∃ W,W4.setCell ⟨w.heap.size+1,3,none⟩ (.int .i64 0)=W:=⟨_,rfl⟩;rw [eW5] at F5;have HF5:=hid F5;clear F5;go_upto_region 17 with fail;clear eW5 HF4 c0 c1 c2 c3 cf d0 d1 d2 d3 df;obtain ⟨c0,c1,c2,c3,cf⟩:=HF5.o.1.cells;obtain ⟨d0,d1,d2,d3,df⟩:=HF5.o.2.1.cells;go_wp2_with fail;refine (HBq _).mono ?_;rintro e w' ⟨he,hw⟩;rw [he,hw];clear he hw w';have F6:=HF5.o.setB 0 (.int .i64 P) (HF5.o.2.1.sp P);obtain ⟨W6,eW6⟩:∃ W,W5.setCell ⟨w.heap.size+1,0,none⟩ (.int .i64 P)=W:=⟨_,rfl⟩;rw [eW6] at F6;have HF6:=hid F6;clear F6;go_upto_region 18 with fail;clear eW6 HF5 c0 c1 c2 c3 cf d0 d1 d2 d3 df;obtain ⟨c0,c1,c2,c3,cf⟩:=HF6.o.1.cells;obtain ⟨d0,d1,d2,d3,df⟩:=HF6.o.2.1.cells;go_wp2_with fail;refine (HBh _).mono ?_;rintro e w' ⟨he,hw⟩;rw [he,hw];clear he hw w';have F7:=HF6.o.setA 1 (.int .i64 U) (HF6.o.1.sh U);obtain ⟨W7,eW7⟩:∃ W,W6.setCell ⟨w.heap.size,1,none⟩ (.int .i64 U)=W:=⟨_,rfl⟩;rw [eW7] at F7;have HF7:=hid F7;clear F7;go_upto_region 19 with fail;clear eW7 HF6 c0 c1 c2 c3 cf d0 d1 d2 d3 df;obtain ⟨c0,c1,c2,c3,cf⟩:=HF7.o.1.cells;obtain ⟨d0,d1,d2,d3,df⟩:=HF7.o.2.1.cells;go_wp2_with fail;refine (HBp _).mono ?_;rintro e w' ⟨he,hw⟩;rw [he,hw];clear he hw w';have F8:=HF7.o.setA 0 (.int .i64 V) (HF7.o.1.sp V);obtain ⟨W8,eW8⟩:∃ W,W7.setCell ⟨w.heap.size,0,none⟩ (.int .i64 V)=W:=⟨_,rfl⟩;rw [eW8] at F8;have HF8:=hid F8;clear F8;go_upto_region 20 with fail;clear eW8 HF7 c0 c1 c2 c3 cf d0 d1 d2 d3 df;obtain ⟨c0,c1,c2,c3,cf⟩:=HF8.o.1.cells;obtain ⟨d0,d1,d2,d3,df⟩:=HF8.o.2.1.cells;have FD:=HF8.o.on ((Fr.refl _ W8).drew);obtain ⟨WD,eWD⟩:∃ W,W8.drew=W:=⟨_,rfl⟩;rw [eWD] at FD;clear HF8 c0 c1 c2 c3 cf d0 d1 d2 d3 df;obtain ⟨c0,c1,c2,c3,cf⟩:=FD.1.cells;obtain ⟨d0,d1,d2,d3,df⟩:=FD.2.1.cells;obtain ⟨k0,k1,k2,k3,kf⟩:=FD.2.2.1.cells;have r9:=FD.2.2.1.put ((⟨V,U,a.o,K⟩:Scr)).p ((⟨V,U,a.o,K⟩:Scr)).h ((⟨V,U,a.o,K⟩:Scr)).o ((⟨V,U,a.o,K⟩:Scr)).k;have s9:=FD.2.2.2.1.others (k:=w.heap.size+1+1) (by omega) ((⟨V,U,a.o,K⟩:Scr)).p ((⟨V,U,a.o,K⟩:Scr)).h ((⟨V,U,a.o,K⟩:Scr)).o ((⟨V,U,a.o,K⟩:Scr)).k;have q9:=FD.2.1.others (k:=w.heap.size+1+1) (by omega) ((⟨V,U,a.o,K⟩:Scr)).p ((⟨V,U,a.o,K⟩:Scr)).h ((⟨V,U,a.o,K⟩:Scr)).o ((⟨V,U,a.o,K⟩:Scr)).k;have HS9:=hid (YV (YV (YV (YV FD.2.2.2.2 (w.heap.size+1+1) 0 (.int .i64 ((⟨V,U,a.o,K⟩:Scr)).p) (by omega)) (w.heap.size+1+1) 1 (.int .i64 ((⟨V,U,a.o,K⟩:Scr)).h) (by omega)) (w.heap.size+1+1) 2 (.int .i64 ((⟨V,U,a.o,K⟩:Scr)).o) (by omega)) (w.heap.size+1+1) 3 (.int .i64 ((⟨V,U,a.o,K⟩:Scr)).k) (by omega));obtain ⟨W9,eW9⟩:∃ W,(((WD.setCell ⟨w.heap.size+1+1,0,none⟩ (.int .i64 ((⟨V,U,a.o,K⟩:Scr)).p)).setCell ⟨w.heap.size+1+1,1,none⟩ (.int .i64 ((⟨V,U,a.o,K⟩:Scr)).h)).setCell ⟨w.heap.size+1+1,2,none⟩ (.int .i64 ((⟨V,U,a.o,K⟩:Scr)).o)).setCell ⟨w.heap.size+1+1,3,none⟩ (.int .i64 ((⟨V,U,a.o,K⟩:Scr)).k)=W:=⟨_,rfl⟩;rw [eW9] at r9 s9 q9 HS9;obtain ⟨e0,e1,e2,e3,ef⟩:=q9.cells;obtain ⟨g0,g1,g2,g3,gf⟩:=s9.cells;clear FD;go_region
    all_goals
     go_wp2_with fail
     (try simp only [Exit.inBlock,Exit.then])
     refine bodyPost_ret (Cb.res2 (r9.others (k:=w.heap.size+1+1+1) (by omega) _ _ _ _) (s9.put _ _ _ _) rfl _ _ rfl rfl rfl) rfl ⟨rfl, ?_⟩;repeat (first | refine YV ?_ _ _ _ (by omega) | with_reducible exact HS9.o)
  ·have hm:(if a.k<5 then a.k else 5)=(j:Int):=by
    split
    ·omega
    ·omega
   rw [hm] at HBp;have hj:(j:Int)<=5:=by omega
   have hj0:0<=(j:Int):=by omega
   obtain ⟨m,em⟩:∃ m,(j:Int)=m:=⟨_,rfl⟩;rw [em] at HBp hj hj0 z ⊢;clear hm hjk hj5 em;go_wp2_with fail;refine (HBk _).mono ?_;rintro e w' ⟨he,hw⟩;rw [he,hw];clear he hw w';have F3:=HF2.o.setA 3 (.int .i64 K) (HF2.o.1.sk K);obtain ⟨W3,eW3⟩:∃ W,wr.setCell ⟨w.heap.size,3,none⟩ (.int .i64 K)=W:=⟨_,rfl⟩;rw [eW3] at F3;have HF3:=hid F3;clear F3;go_upto_region 15 with fail;clear eW3 HF2 c0 c1 c2 c3 cf d0 d1 d2 d3 df;obtain ⟨c0,c1,c2,c3,cf⟩:=HF3.o.1.cells;obtain ⟨d0,d1,d2,d3,df⟩:=HF3.o.2.1.cells;go_wp2_with fail;refine (HBo _).mono ?_;rintro e w' ⟨he,hw⟩;rw [he,hw];clear he hw w';have F4:=HF3.o.setB 2 (.int .i64 O) (HF3.o.2.1.so O);obtain ⟨W4,eW4⟩:∃ W,W3.setCell ⟨w.heap.size+1,2,none⟩ (.int .i64 O)=W:=⟨_,rfl⟩;rw [eW4] at F4;have HF4:=hid F4;clear F4;go_upto_region 16 with fail;clear eW4 HF3 c0 c1 c2 c3 cf d0 d1 d2 d3 df;obtain ⟨c0,c1,c2,c3,cf⟩:=HF4.o.1.cells;obtain ⟨d0,d1,d2,d3,df⟩:=HF4.o.2.1.cells;have F5:=HF4.o.setB 3 (.int .i64 0) (HF4.o.2.1.sk 0);obtain ⟨W5,eW5⟩:∃ W,W4.setCell ⟨w.heap.size+1,3,none⟩ (.int .i64 0)=W:=⟨_,rfl⟩;rw [eW5] at F5;have HF5:=hid F5;clear F5;go_upto_region 17 with fail;clear eW5 HF4 c0 c1 c2 c3 cf d0 d1 d2 d3 df;obtain ⟨c0,c1,c2,c3,cf⟩:=HF5.o.1.cells;obtain ⟨d0,d1,d2,d3,df⟩:=HF5.o.2.1.cells;go_wp2_with fail;refine (HBq _).mono ?_;rintro e w' ⟨he,hw⟩;rw [he,hw];clear he hw w';have F6:=HF5.o.setB 0 (.int .i64 P) (HF5.o.2.1.sp P);obtain ⟨W6,eW6⟩:∃ W,W5.setCell ⟨w.heap.size+1,0,none⟩ (.int .i64 P)=W:=⟨_,rfl⟩;rw [eW6] at F6;have HF6:=hid F6;clear F6;go_upto_region 18 with fail;clear eW6 HF5 c0 c1 c2 c3 cf d0 d1 d2 d3 df;obtain ⟨c0,c1,c2,c3,cf⟩:=HF6.o.1.cells;obtain ⟨d0,d1,d2,d3,df⟩:=HF6.o.2.1.cells;go_wp2_with fail;refine (HBh _).mono ?_;rintro e w' ⟨he,hw⟩;rw [he,hw];clear he hw w';have F7:=HF6.o.setA 1 (.int .i64 U) (HF6.o.1.sh U);obtain ⟨W7,eW7⟩:∃ W,W6.setCell ⟨w.heap.size,1,none⟩ (.int .i64 U)=W:=⟨_,rfl⟩;rw [eW7] at F7;have HF7:=hid F7;clear F7;go_upto_region 19 with fail;clear eW7 HF6 c0 c1 c2 c3 cf d0 d1 d2 d3 df;obtain ⟨c0,c1,c2,c3,cf⟩:=HF7.o.1.cells;obtain ⟨d0,d1,d2,d3,df⟩:=HF7.o.2.1.cells;go_wp2_with fail;refine (HBp _).mono ?_;rintro e w' ⟨he,hw⟩;rw [he,hw];clear he hw w';have F8:=HF7.o.setA 0 (.int .i64 V) (HF7.o.1.sp V);obtain ⟨W8,eW8⟩:∃ W,W7.setCell ⟨w.heap.size,0,none⟩ (.int .i64 V)=W:=⟨_,rfl⟩;rw [eW8] at F8;have HF8:=hid F8;clear F8;go_upto_region 20 with fail;clear eW8 HF7 c0 c1 c2 c3 cf d0 d1 d2 d3 df;obtain ⟨c0,c1,c2,c3,cf⟩:=HF8.o.1.cells;obtain ⟨d0,d1,d2,d3,df⟩:=HF8.o.2.1.cells;have FD:=HF8.o.on ((Fr.refl _ W8).drew);obtain ⟨WD,eWD⟩:∃ W,W8.drew=W:=⟨_,rfl⟩;rw [eWD] at FD;clear HF8 c0 c1 c2 c3 cf d0 d1 d2 d3 df;obtain ⟨c0,c1,c2,c3,cf⟩:=FD.1.cells;obtain ⟨d0,d1,d2,d3,df⟩:=FD.2.1.cells;obtain ⟨k0,k1,k2,k3,kf⟩:=FD.2.2.1.cells;have r9:=FD.2.2.1.put ((⟨V,U,a.o,K⟩:Scr)).p ((⟨V,U,a.o,K⟩:Scr)).h ((⟨V,U,a.o,K⟩:Scr)).o ((⟨V,U,a.o,K⟩:Scr)).k;have s9:=FD.2.2.2.1.others (k:=w.heap.size+1+1) (by omega) ((⟨V,U,a.o,K⟩:Scr)).p ((⟨V,U,a.o,K⟩:Scr)).h ((⟨V,U,a.o,K⟩:Scr)).o ((⟨V,U,a.o,K⟩:Scr)).k;have q9:=FD.2.1.others (k:=w.heap.size+1+1) (by omega) ((⟨V,U,a.o,K⟩:Scr)).p ((⟨V,U,a.o,K⟩:Scr)).h ((⟨V,U,a.o,K⟩:Scr)).o ((⟨V,U,a.o,K⟩:Scr)).k;have HS9:=hid (YV (YV (YV (YV FD.2.2.2.2 (w.heap.size+1+1) 0 (.int .i64 ((⟨V,U,a.o,K⟩:Scr)).p) (by omega)) (w.heap.size+1+1) 1 (.int .i64 ((⟨V,U,a.o,K⟩:Scr)).h) (by omega)) (w.heap.size+1+1) 2 (.int .i64 ((⟨V,U,a.o,K⟩:Scr)).o) (by omega)) (w.heap.size+1+1) 3 (.int .i64 ((⟨V,U,a.o,K⟩:Scr)).k) (by omega));obtain ⟨W9,eW9⟩:∃ W,(((WD.setCell ⟨w.heap.size+1+1,0,none⟩ (.int .i64 ((⟨V,U,a.o,K⟩:Scr)).p)).setCell ⟨w.heap.size+1+1,1,none⟩ (.int .i64 ((⟨V,U,a.o,K⟩:Scr)).h)).setCell ⟨w.heap.size+1+1,2,none⟩ (.int .i64 ((⟨V,U,a.o,K⟩:Scr)).o)).setCell ⟨w.heap.size+1+1,3,none⟩ (.int .i64 ((⟨V,U,a.o,K⟩:Scr)).k)=W:=⟨_,rfl⟩;rw [eW9] at r9 s9 q9 HS9;obtain ⟨e0,e1,e2,e3,ef⟩:=q9.cells;obtain ⟨g0,g1,g2,g3,gf⟩:=s9.cells;clear FD;go_region
   all_goals
    go_wp2_with fail
    (try simp only [Exit.inBlock,Exit.then])
    refine bodyPost_ret (Cb.res2 (r9.others (k:=w.heap.size+1+1+1) (by omega) _ _ _ _) (s9.put _ _ _ _) rfl _ _ rfl rfl rfl) rfl ⟨rfl, ?_⟩;repeat (first | refine YV ?_ _ _ _ (by omega) | with_reducible exact HS9.o)
theorem Ln (a b:Scr) (n:Int) (out:Bool) (w:World):Ya 124 #[cv a,cv b,.int .i64 n,.bool out] w (.tuple #[cv (Xg a b n out),cv (Xh a b n out),.int .i64 (XE a b n)]):=by
 by_cases hm:Yt a/\Yt b
 ·by_cases hn:1<=n/\n<=3
  ·have e0:=D1 hm.1 hm.2 hn;have e1:Xg a b n out=Qc a n out:=by unfold Xg; rw [if_pos e0]
   have e2:Xh a b n out=JL b out:=by unfold Xh; rw [if_pos e0]
   rw [e0,e1,e2];cases out with
   | false=>exact Ll a b n hm.1 hm.2 (by omega) (by simp; omega) _ _ rfl rfl w
   | true=>exact Lm a b n hm.1 hm.2 (by omega) (by simp; omega) _ _ _ _ _ rfl rfl rfl rfl rfl w
  ·have e0:=Tg hm.1 hm.2 hn;have e1:Xg a b n out=zC:=by unfold Xg; rw [e0]; rfl
   have e2:Xh a b n out=zC:=by unfold Xh; rw [e0]; rfl
   rw [e0,e1,e2];exact Lk a b n out hm.1 hm.2 hn w
 ·have e0:=Th (w:=n) hm;have e1:Xg a b n out=zC:=by unfold Xg; rw [e0]; rfl
  have e2:Xh a b n out=zC:=by unfold Xh; rw [e0]; rfl
  rw [e0,e1,e2];exact Lj a b n out hm w
end Go.Proofs.YthcjckgmdokmdaaGreatDoor
namespace Go.Proofs.YthcjckgmdokmdaaGreatDoor
open Go.RowKit
open Pu Gp Ap Vp Np Za Ka Ja Ea Ha Hi
set_option maxRecDepth 100000
def Um (W:Wd) (i:Nat):Prop:=Yq (mm W.ms i)=true/\Y8 (sc W.cs i)=0
theorem chkC_zero {s:Scr}:Y8 s=0 ↔ Yt s:=⟨fun h=>Classical.byContradiction fun hc=>(by rw [Xf hc] at h; cases h),Xo⟩
theorem Lo {P:Nat} {W:Wd}:Seats P W ↔ (W.ms.length=P/\W.cs.length=P)/\∀ i,i<P->Um W i:=by
 unfold Seats Um;constructor
 ·rintro ⟨h1,h2,h3,h4⟩;exact ⟨⟨h1,h3⟩,fun i hi=>⟨mayB_iff.2 (h2 i hi),chkC_zero.2 (h4 i hi)⟩⟩
 ·rintro ⟨⟨h1,h3⟩,h⟩;exact ⟨h1,fun i hi=>mayB_iff.1 (h i hi).1,h3,fun i hi=>chkC_zero.1 (h i hi).2⟩
def Lp (P:Nat) (W:Wd) (v:Value):Prop:=∃ b:Bool,v=.bool b/\(b=true ↔ Seats P W)
theorem Lr (F:Cf) (P:Nat) (hp:F.p=(P:Int)) (hP6:P<=6) (W:Wd) (v:Value) (w:World) (hv:RdW w v W) :
  Calls Tryz.prog 48 #[cfv F,v] w fun e w'=>∃ r,e=.returned r/\Lp P W r/\Yc w w':=by
 obtain ⟨a,b,c,d,rfl,⟨ma,mc,rfl,hmc,_,hm⟩,⟨ca,cc,rfl,hcc,_,hc⟩,⟨sa,sc',rfl,_,_,_⟩,⟨ka,kc,rfl,_,_,_⟩⟩:=hv;have A0:=aL w (.cells (cfc F) 27);have A1:=aL (Ui w F) (.cells (Yd W.fr W.nx (.slice ma W.ms.length mc) (.slice ca W.cs.length cc) (.slice sa W.hs.length sc') (.slice ka W.ks.length kc)) 33);have HP0:=hid ((Zs w F).sT A1);have q0:=YE (Ui w F) W.fr W.nx (.slice ma W.ms.length mc) (.slice ca W.cs.length cc) (.slice sa W.hs.length sc') (.slice ka W.ks.length kc);simp only [Yf] at q0;have HQ0:=hid q0;have HA:=hid (A0.trans A1);have HM:=hid (hm.sT (A0.trans A1));have HC:=hid (hc.sT (A0.trans A1));have hm47:=hm.2.1;have hc47:=hc.2.1;have HIf:=hid (Lo (P:=P) (W:=W));obtain ⟨N,eN⟩:∃ N,W.ms.length=N:=⟨_,rfl⟩;obtain ⟨M,eM⟩:∃ N,W.cs.length=N:=⟨_,rfl⟩;have HEN:=hid eN;have HEM:=hid eM;rw [eN] at HP0 HQ0 HA HM HC HIf hm47 ⊢;rw [eM] at HP0 HQ0 HA HM HC HIf hc47 ⊢;have HP1:=HP0;have HM1:=HM;have HC1:=HC;have HA1:=HA;obtain ⟨c0,c1,c2,c3,c4,c5,cf⟩:=HP0.o.cells;obtain ⟨d0,d1,d2,d3,d4,d5,df⟩:=HQ0.o.cells;rw [hp] at c0;clear A0 A1 hm hc q0 eN eM hmc hcc;have HNP:Hid (N≠P->¬ Seats P W):=hid (fun h hs=>h (HIf.o.1 hs).1.1);have HMP:Hid (M≠P->¬ Seats P W):=hid (fun h hs=>h (HIf.o.1 hs).1.2);by_cases hN:N=P
 ·subst hN;by_cases hMe:M=N
  ·subst hMe;have b0:((M:Int) != (M:Int))=false:=by simp
   go_enter Tryz.func48,Tryz.ntmps48;go_wp2_with fail;clear c0 c1 c2 c3 c4 c5 cf d0 d1 d2 d3 d4 d5 df b0;go_loopw [5] (fun u wr=>∃ i:Nat,i<=M/\u=.int .i64 (i:Int)/\Hid (∀ j,j<i->Um W j)/\Yc ((Ui w F).alloc (.cells (Yd W.fr W.nx (.slice ma M mc) (.slice ca M cc) (.slice sa W.hs.length sc') (.slice ka W.ks.length kc)) 33)) wr) (fun u _=>M - (intOf u).toNat);case atStart=>exact ⟨0,by omega,rfl,hid (fun j hj=>by omega),Fr.refl _ _⟩
   case round =>
    obtain ⟨i,hi,rfl,HJ,hs⟩:=hrel;have HS:=hid hs;obtain ⟨c0,c1,c2,c3,c4,c5,cf⟩:=(HP1.o.sT hs).cells;obtain ⟨d0,d1,d2,d3,d4,d5,df⟩:=(HQ0.o.sT hs).cells;rw [hp] at c0;by_cases hin:i<M
    ·have hlt:(i:Int)<(M:Int):=by omega
     have hlN:(i:Int)<(M:Int):=by omega
     have hlM:(i:Int)<(M:Int):=by omega
     have hm1:=HM1.o.sT hs;have hc1:=HC1.o.sT hs;obtain ⟨B1,o1,rfl⟩:=hm1.at (by omega);obtain ⟨B2,o2,rfl⟩:=hc1.at (by omega);obtain ⟨m0,m1,m2,m3,m4,m5,m6,m7,m8,m9,m10,m11,m12⟩:=rdM hm1 (i:=i) (by omega);have HC2:=hid (fun u (hu:Yc wr u)=>rdC (hc1.sT hu) (i:=i) (by omega));have HQ2:=hid (fun u (hu:Yc wr u)=>((HQ0.o.sT HS.o).sT hu).cells);have HNo:=hid (show ¬ Um W i->¬ Seats M W from fun h hc=>h ((HIf.o.1 hc).2 i hin));have HYes:=hid (show Um W i->∀ j,j<i+1->Um W j from fun h j hj=>by
      by_cases e:j=i
      ·subst e; exact h
      ·exact HJ.o j (by omega))
     have HDf:Hid (Um W i ↔ Yq (mm W.ms i)=true/\Y8 (sc W.cs i)=0):=hid Iff.rfl;have HMy:=hid (fun u=>KU (mm W.ms i) u);have HCy:=hid (fun u=>ZV (sc W.cs i) u);obtain ⟨x,ex⟩:∃ x,mm W.ms i=x:=⟨_,rfl⟩;obtain ⟨y,ey⟩:∃ x,sc W.cs i=x:=⟨_,rfl⟩;rw [ex] at m0 m1 m2 m3 m4 m5 m6 m7 m8 m9 m10 m11 m12 HMy HDf;rw [ey] at HC2 HCy HDf;obtain ⟨b1,eb1⟩:∃ b,Yq x=b:=⟨_,rfl⟩;obtain ⟨E,eE⟩:∃ b,Y8 y=b:=⟨_,rfl⟩;rw [eb1] at HMy HDf;rw [eE] at HCy HDf;clear ex ey eb1 eE hm1 hc1 hs;go_wp2_with fail;refine (HMy.o _).mono ?_;rintro e w2 ⟨rfl,h2⟩;clear c0 c1 c2 c3 c4 c5 cf d0 d1 d2 d3 d4 d5 df m0 m1 m2 m3 m4 m5 m6 m7 m8 m9 m10 m11 m12;obtain ⟨d0,d1,d2,d3,d4,d5,df⟩:=HQ2.o w2 h2;obtain ⟨y0,y1,y2,y3⟩:=HC2.o w2 h2;have HS2:=hid (HS.o.trans h2);clear h2 HMy;go_wp2_with fail;refine (HCy.o _).mono ?_;rintro e w3 ⟨rfl,h3⟩;have HS3:=hid (HS2.o.trans h3);have HSw3:=hid (HA1.o.trans HS3.o);clear h3 HS2 HCy d0 d1 d2 d3 d4 d5 df y0 y1 y2 y3 HC2 HQ2 HS;cases b1 with
     | false =>
      have HN:=hid (HNo.o (fun h=>by have:=(HDf.o.1 h).1; cases this));clear HNo HYes HDf;go_wp2_with fail
      (first | rw [Exit.noGoto_ret] | skip)
      go_ret;exact ⟨_,rfl,⟨false,rfl,⟨fun h=>(by cases h),fun h=>absurd h HN.o⟩⟩,HSw3.o⟩
     | true =>
      cases b2:E != 0 with
      | true =>
       have HN:=hid (HNo.o (fun h=>by have:=(HDf.o.1 h).2; simp [this] at b2));clear HNo HYes HDf;go_wp2_with fail
       (first | rw [Exit.noGoto_ret] | skip)
       go_ret;exact ⟨_,rfl,⟨false,rfl,⟨fun h=>(by cases h),fun h=>absurd h HN.o⟩⟩,HSw3.o⟩
      | false =>
       have HY1:=hid (HYes.o (HDf.o.2 ⟨rfl,by simpa using b2⟩));clear HNo HYes HDf;go_wp2_with fail;go_roundw;case rel=>exact ⟨i+1,by omega,by go_num,HY1,HS3.o⟩
       case measure=>first | (simp [intOf]; done) | (simp [intOf]; omega)
    ·have hge:¬ (i:Int)<(M:Int):=by omega
     have HE:Hid (Seats M W):=hid (HIf.o.2 ⟨by first | exact ⟨rfl,rfl⟩ | simp,fun j hj=>HJ.o j (by omega)⟩);have HSw:=hid (HA1.o.trans HS.o);clear hin hs;go_wp2_with fail;go_ret;exact ⟨_,rfl,⟨true,rfl,⟨fun _=>HE.o,fun _=>rfl⟩⟩,HSw.o⟩
  ·have b1:((M:Int) != (N:Int))=true:=by simp; omega
   have HNn:=hid (HMP.o hMe);go_enter Tryz.func48,Tryz.ntmps48;go_wp2_with fail;go_ret;exact ⟨_,rfl,⟨false,rfl,⟨fun h=>(by cases h),fun h=>absurd h HNn.o⟩⟩,HA1.o⟩
 ·have b0:((N:Int) != (P:Int))=true:=by simp; omega
  have HNn:=hid (HNP.o hN);go_enter Tryz.func48,Tryz.ntmps48;go_wp2_with fail;go_ret;exact ⟨_,rfl,⟨false,rfl,⟨fun h=>(by cases h),fun h=>absurd h HNn.o⟩⟩,HA1.o⟩
end Go.Proofs.YthcjckgmdokmdaaGreatDoor
namespace Go.Proofs.YthcjckgmdokmdaaGreatDoor
open Go.RowKit
open Pu Gp Ap Vp Np Za Ka Ja
set_option maxRecDepth 100000
theorem Vz (L:List Mv) (ao:Option Addr) (n cap:Nat) (w:World) (hr:RdG KM w ao n L):Ya 117 #[.slice ao n cap] w (.bool (YR L)):=by
 have HL:=hid hr.1;have HR:=hid hr;by_cases h6:6<n
 ·have HE:Hid (YR L=false):=hid (by
   cases e:YR L with
   | false=>rfl
   | true=>have:=(togB_iff.1 e).1; rw [HL.o] at this; omega)
  have h6':(n:Int) > 6:=by omega
  clear hr;go_enter Tryz.func117,Tryz.ntmps117;go_wp2_with fail;go_ret;exact ⟨by rw [HE.o]; rfl,Fr.refl _ _⟩
 ·have h6':decide ((6:Int)<(n:Int))=false:=by simp; omega
  have hn6:n<=6:=by omega
  clear hr h6;go_enter Tryz.func117,Tryz.ntmps117;go_wp2_with fail;clear h6';go_loopw [3] (fun u wr=>∃ k:Nat,k<=n/\u=.int .i64 (k:Int)/\Hid (∀ i,i<k->Yq (mm L i)=true)/\Yc w wr) (fun u _=>n - (intOf u).toNat);case atStart=>exact ⟨0,by omega,rfl,hid (fun i hi=>by omega),Fr.refl _ _⟩
  case round =>
   obtain ⟨k,hk,rfl,HF,hs⟩:=hrel;have HS:=hid hs;clear hs;by_cases hkn:k<n
   ·have hlt:(k:Int)<(n:Int):=by omega
    obtain ⟨B,o,rfl⟩:=(HR.o.sT HS.o).at (by omega);obtain ⟨c0,c1,c2,c3,c4,c5,c6,c7,c8,c9,c10,c11,c12⟩:=rdM (HR.o.sT HS.o) hkn;have HM:=hid (fun w=>KU (mm L k) w);have HNo:=hid (fun h=>Td (L:=L) (i:=k) (by rw [HL.o]; exact hkn) h);have HYes:=hid (show Yq (mm L k)=true->∀ i,i<k+1->Yq (mm L i)=true from fun h i hi=>by
     by_cases e:i=k
     ·subst e; exact h
     ·exact HF.o i (by omega))
    obtain ⟨x,ex⟩:∃ x,mm L k=x:=⟨_,rfl⟩;rw [ex] at c0 c1 c2 c3 c4 c5 c6 c7 c8 c9 c10 c11 c12 HM HNo HYes;obtain ⟨b,eb⟩:∃ b,Yq x=b:=⟨_,rfl⟩;rw [eb] at HM HNo HYes;clear ex eb;go_wp2_with fail;refine (HM.o _).mono ?_;rintro e w2 ⟨rfl,h2⟩;have HS2:=hid (HS.o.trans h2);clear h2 HS c0 c1 c2 c3 c4 c5 c6 c7 c8 c9 c10 c11 c12 HM;cases b with
    | true =>
     have HY:=hid (HYes.o rfl);clear HYes HNo;go_wp2_with fail;go_roundw;case rel=>exact ⟨k+1,by omega,by go_num,HY,HS2.o⟩
     case measure=>simp [intOf]; omega
    | false =>
     have HN:=hid (HNo.o rfl);clear HYes HNo;go_wp2_with fail
     (first | rw [Exit.noGoto_ret] | skip)
     go_ret;exact ⟨by rw [HN.o]; rfl,HS2.o⟩
   ·have hge:¬ (k:Int)<(n:Int):=by omega
    have HE:Hid (YR L=true):=hid (togB_iff.2 ⟨by rw [HL.o]; exact hn6,fun i hi=>HF.o i (by have:=HL.o; omega)⟩);clear hkn hk;go_wp2_with fail;go_ret;exact ⟨by rw [HE.o]; rfl,HS.o⟩
theorem Kl (m:Mv) (w:World):Ya 119 #[mv m] w (bx (Ys m.ax 1280) (Ys m.ay 1280) (Yj m.ax 1280) (Yj m.ay 1280)):=by
 have A0:=aL w (.cells (mcs m) 56);have A1:=aL (Ye w m) (.cells #[.int .i64 0,.int .i64 0,.int .i64 0,.int .i64 0] 194);have p0:=(Yk w m).sT A1;have q0:=Y4 (Ye w m) 0 0 0 0;simp only [Yf] at q0;have HS0:=hid (A0.trans A1);have HA:=hid (fun w=>K4 m.ax m.ay 1280 w);rw [Ld] at HA;obtain ⟨x,ex⟩:∃ x,Ys m.ax 1280=x:=⟨_,rfl⟩;obtain ⟨y,ey⟩:∃ x,Ys m.ay 1280=x:=⟨_,rfl⟩;obtain ⟨z,ez⟩:∃ x,Yj m.ax 1280=x:=⟨_,rfl⟩;obtain ⟨u,eu⟩:∃ x,Yj m.ay 1280=x:=⟨_,rfl⟩;rw [ex,ey,ez,eu] at HA ⊢;clear A0 A1 ex ey ez eu;obtain ⟨c0,c1,c2,c3,c4,c5,c6,c7,c8,c9,c10,c11,c12,cf⟩:=p0.cells;go_enter Tryz.func119,Tryz.ntmps119;go_wp2_with fail;refine (HA.o _).mono ?_;rintro e w1 ⟨rfl,h1⟩;have q1:=q0.sT h1;have HS1:=hid (HS0.o.trans h1);clear h1 HS0 p0 q0 c0 c1 c2 c3 c4 c5 c6 c7 c8 c9 c10 c11 c12 cf HA;obtain ⟨k0,k1,k2,k3,kf⟩:=q1.cells;go_wp2_with fail;refine bodyPost_ret ((q1.set x y z u).res rfl _ rfl) rfl ⟨rfl, ?_⟩;repeat (first | refine Yg ?_ _ _ _ (by omega) | with_reducible exact HS1.o)
theorem Ls (L:List Mv) (ao:Option Addr) (n cap:Nat) (w:World) (hr:RdG KM w ao n L) (ht:YR L=true):Calls Tryz.prog 65 #[.slice ao n cap] w fun e w'=>∃ v,e=.returned (.tuple #[v,.int .i64 0])/\OwG KT 147 w' w.heap.size v (YX L L.length)/\Yc w w':=by
 have HL:=hid hr.1;have HR:=hid hr;have hn6:n<=6:=by have:=(togB_iff.1 ht).1; have:=hr.1; omega
 have H:=hid (Vz L ao n cap w hr);rw [ht] at H;clear hr ht;go_enter Tryz.func65,Tryz.ntmps65;go_wp2_with fail;refine H.o.mono ?_;rintro e w1 ⟨rfl,h1⟩;have HS1:=hid h1;have HZ:=hid h1.size;clear h1 H;go_wp2_with fail;go_loopw [5,6] (fun v u wr=>∃ i:Nat,i<=n/\u=.int .i64 (i:Int)/\OwG KT 147 wr w1.heap.size v (YX L i)/\Yc w1 wr) (fun _ u _=>n - (intOf u).toNat);case atStart=>exact ⟨0,by omega,rfl,OwG.nil _ _,Fr.refl _ _⟩
 case round =>
  obtain ⟨i,hi,rfl,ho,hs⟩:=hrel;have HS2:=hid hs;have HO2:=hid ho;clear hs;obtain ⟨ao2,cap2,rfl,_⟩:=ho.slice;clear ho;obtain ⟨m2,em2⟩:∃ m,(YX L i).length=m:=⟨_,rfl⟩;rw [em2] at HO2 ⊢;clear em2;by_cases hin:i<n
  ·have hlt:(i:Int)<(n:Int):=by omega
   go_wp2_with fail;go_loopw [5,7] (fun v u wr=>∃ k:Nat,i<k/\k<=n/\u=.int .i64 (k:Int)/\OwG KT 147 wr w1.heap.size v (YX L i ++ Ja.rowB L i k)/\Yc w1 wr) (fun _ u _=>n - (intOf u).toNat);case atStart=>exact ⟨i+1,by omega,by omega,by go_num,by rw [Dr L i (i+1) (Nat.le_refl _),List.append_nil]; exact HO2.o,HS2.o⟩
   case round =>
    clear HO2 HS2;obtain ⟨k,hik,hk,rfl,ho,hs⟩:=hrel;have HS2:=hid hs;have HO2:=hid ho;have hzz:=hs.size;clear hs;obtain ⟨ao3,cap3,rfl,_⟩:=ho.slice;clear ho;have HLn:=hid (show (YX L i ++ Ja.rowB L i k).length<=100000 by
     have h1:=KZ L i;have h2:=KY L i k;have h3:=HL.o;have h4:i*L.length<=6*6:=Nat.mul_le_mul (by omega) (by omega);rw [List.length_append];omega)
    obtain ⟨m3,em3⟩:∃ m,(YX L i ++ Ja.rowB L i k).length=m:=⟨_,rfl⟩;rw [em3] at HO2 ⊢;clear em3;by_cases hkn:k<n
    ·have hlt2:(k:Int)<(n:Int):=by omega
     have HRr:=hid ((HR.o.sT HS1.o).sT HS2.o);obtain ⟨B,o,rfl⟩:=HRr.o.at (by omega);obtain ⟨c0,c1,c2,c3,c4,c5,c6,c7,c8,c9,c10,c11,c12⟩:=rdM HRr.o hin;obtain ⟨d0,d1,d2,d3,d4,d5,d6,d7,d8,d9,d10,d11,d12⟩:=rdM HRr.o hkn;have HC:=hid (fun u (hu:Yc wr u)=>(rdM (HRr.o.sT hu) hin).2.2.2.2.2.2.2.2.2.2.2.1);have HD:=hid (fun u (hu:Yc wr u)=>(rdM (HRr.o.sT hu) hkn).2.2.2.2.2.2.2.2.2.2.2.1);have HB1:=hid (fun w=>Kl (mm L i) w);have HB2:=hid (fun w=>Kl (mm L k) w);have HT2:Hid (two L i k=(((mm L i).ou == 0) && ((mm L k).ou == 0) && ov (mm L i) (mm L k).ax (mm L k).ay 1280)):=hid rfl;have HRow:=hid (Te L hik);obtain ⟨x,ex⟩:∃ x,mm L i=x:=⟨_,rfl⟩;obtain ⟨y,ey⟩:∃ x,mm L k=x:=⟨_,rfl⟩;rw [ex] at c0 c1 c2 c3 c4 c5 c6 c7 c8 c9 c10 c11 c12 HC HB1 HT2;rw [ey] at d0 d1 d2 d3 d4 d5 d6 d7 d8 d9 d10 d11 d12 HD HB2 HT2;clear ex ey;have HV:=hid (fun w=>WN (Ys x.ax 1280) (Ys x.ay 1280) (Yj x.ax 1280) (Yj x.ay 1280) (Ys y.ax 1280) (Ys y.ay 1280) (Yj y.ax 1280) (Yj y.ay 1280) w);obtain ⟨b3,eb3⟩:∃ b,ov x y.ax y.ay 1280=b:=⟨_,rfl⟩;unfold ov at eb3;rw [show ov x y.ax y.ay 1280=b3 from eb3] at HT2;rw [eb3] at HV;clear eb3;obtain ⟨x1,e1⟩:∃ z,Ys x.ax 1280=z:=⟨_,rfl⟩;obtain ⟨x2,e2⟩:∃ z,Ys x.ay 1280=z:=⟨_,rfl⟩;obtain ⟨x3,e3⟩:∃ z,Yj x.ax 1280=z:=⟨_,rfl⟩;obtain ⟨x4,e4⟩:∃ z,Yj x.ay 1280=z:=⟨_,rfl⟩;rw [e1,e2,e3,e4] at HB1 HV;clear e1 e2 e3 e4;obtain ⟨y1,e1⟩:∃ z,Ys y.ax 1280=z:=⟨_,rfl⟩;obtain ⟨y2,e2⟩:∃ z,Ys y.ay 1280=z:=⟨_,rfl⟩;obtain ⟨y3,e3⟩:∃ z,Yj y.ax 1280=z:=⟨_,rfl⟩;obtain ⟨y4,e4⟩:∃ z,Yj y.ay 1280=z:=⟨_,rfl⟩;rw [e1,e2,e3,e4] at HB2 HV;clear e1 e2 e3 e4;have k0:=kC c0;have k1:=kC c1;have k2:=kC c2;have k3:=kC c3;have k4:=kC c4;have k5:=kC c5;have k6:=kC c6;have k7:=kC c7;have k8:=kC c8;have k9:=kC c9;have k10:=kC c10;have k11:=kC c11;have k12:=kC c12;have l0:=kC d0;have l1:=kC d1;have l2:=kC d2;have l3:=kC d3;have l4:=kC d4;have l5:=kC d5;have l6:=kC d6;have l7:=kC d7;have l8:=kC d8;have l9:=kC d9;have l10:=kC d10;have l11:=kC d11;have l12:=kC d12;have hne:=Aft.here wr;clear c0 c1 c2 c3 c4 c5 c6 c7 c8 c9 c10 c11 c12 d0 d1 d2 d3 d4 d5 d6 d7 d8 d9 d10 d11 d12;go_wp2_with fail;refine Yo (by kernel_rfl) (by kernel_rfl) ?_;repeat (go_big_quiet_step ((first | (go_at_call 119; with_reducible exact Calls.cl (HB1.o _)) | (go_at_call 119; with_reducible exact Calls.cl (HB2.o _)) | (go_at_call 118; with_reducible exact Calls.cl (HV.o _)))))
     refine wpQuiet_nil ?_;intro w3 h3;have c:=HC.o _ h3;have d:=HD.o _ h3;have HS3:=hid (HS2.o.trans h3);have HO3:=hid (HO2.o.sT h3);have hz3:w1.heap.size<=w3.heap.size:=HS3.o.size;clear h3 hne k0 k1 k2 k3 k4 k5 k6 k7 k8 k9 k10 k11 k12 l0 l1 l2 l3 l4 l5 l6 l7 l8 l9 l10 l11 l12 HS2 HO2 HB1 HB2 HV HC HD HRr;obtain ⟨p,ep⟩:∃ p,x.ou=p:=⟨_,rfl⟩;obtain ⟨q,eq⟩:∃ p,y.ou=p:=⟨_,rfl⟩;rw [ep] at c HT2;rw [eq] at d HT2;clear ep eq;have HK0:Hid (two L i k=false->Ja.rowB L i (k+1)=Ja.rowB L i k):=hid (fun h=>by rw [HRow.o,h]; simp);have HK1:Hid (two L i k=true->YX L i ++ Ja.rowB L i (k+1)=(YX L i ++ Ja.rowB L i k) ++ [((i:Int),(k:Int))]):=hid (fun h=>by rw [HRow.o,h,List.append_assoc]; rfl);cases hp:p == 0 with
     | false =>
      have HK:=hid (HK0.o (by rw [HT2.o,hp]; rfl));clear HK0 HK1 HT2 HRow;go_wp2_with fail;go_roundw;case rel=>exact ⟨k+1,by omega,by omega,by go_num,by rw [HK.o]; exact HO3.o,HS3.o⟩
      case measure=>simp [intOf]; omega
     | true =>
      cases hq:q == 0 with
      | false =>
       have HK:=hid (HK0.o (by rw [HT2.o,hp,hq]; rfl));clear HK0 HK1 HT2 HRow;go_wp2_with fail;go_roundw;case rel=>exact ⟨k+1,by omega,by omega,by go_num,by rw [HK.o]; exact HO3.o,HS3.o⟩
       case measure=>simp [intOf]; omega
      | true =>
       cases b3 with
       | false =>
        have HK:=hid (HK0.o (by rw [HT2.o,hp,hq]; rfl));clear HK0 HK1 HT2 HRow;go_wp2_with fail;go_roundw;case rel=>exact ⟨k+1,by omega,by omega,by go_num,by rw [HK.o]; exact HO3.o,HS3.o⟩
        case measure=>simp [intOf]; omega
       | true =>
        have HK:=hid (HK1.o (by rw [HT2.o,hp,hq]; rfl));clear HK0 HK1 HT2 HRow;have A4:=aL w3 (.cells #[.int .i64 (i:Int),.int .i64 (k:Int)] 147);have HS4:=hid (HS3.o.trans A4);have HO4:=hid (HO3.o.sT A4);have HX4:Hid ((w3.alloc (.cells #[.int .i64 (i:Int),.int .i64 (k:Int)] 147)).heap[w3.heap.size]?=some (.cells #[.int .i64 (i:Int),.int .i64 (k:Int)] 147 (0,0))):=hid (heap_alloc_new w3 _);have HB4:=hid (show w1.heap.size<=(w3.alloc (.cells #[.int .i64 (i:Int),.int .i64 (k:Int)] 147)).heap.size by rw [Yf]; omega);clear A4;go_wp2_with (at_builtin; refine Ql _ rfl _ _ rfl w1.heap.size w3.heap.size _ (YX L i ++ Ja.rowB L i k) (i:Int) (k:Int) rfl rfl HO4.o HX4.o HLn.o HB4.o ?_; intro v' w' ho' hf');go_roundw;case rel=>exact ⟨k+1,by omega,by omega,by go_num,by rw [HK.o]; exact ho',Zy HS4.o HO4.o hf' (Nat.le_refl _)⟩
        case measure=>simp [intOf]; omega
    ·have hge2:¬ (k:Int)<(n:Int):=by omega
     have HE:Hid (YX L i ++ Ja.rowB L i k=YX L (i+1)):=hid (by rw [YX]; congr; have:=HL.o; omega);clear hkn;go_wp2_with fail;go_roundw;case rel=>exact ⟨i+1,by omega,by go_num,by rw [<- HE.o]; exact HO2.o,HS2.o⟩
     case measure=>simp [intOf]; omega
  ·have hge:¬ (i:Int)<(n:Int):=by omega
   have HE:Hid (YX L L.length=YX L i):=hid (by congr; have:=HL.o; omega);clear hin;go_wp2_with fail;go_ret2
   exact ⟨_,rfl,by rw [HE.o]; exact HO2.o.less HZ.o,HS1.o.trans HS2.o⟩
theorem Lt (L:List Mv) (ao:Option Addr) (n cap:Nat) (w:World) (hr:RdG KM w ao n L):Calls Tryz.prog 65 #[.slice ao n cap] w fun e w'=>∃ v,e=.returned (.tuple #[v,.int .i64 (Vr (YR L))])/\OwG KT 147 w' w.heap.size v (bod L)/\Yc w w':=by
 cases ht:YR L with
 | true =>
  have e:bod L=YX L L.length:=by unfold bod; rw [ht]; rfl
  rw [e];exact Ls L ao n cap w hr ht
 | false =>
  have HE:Hid (bod L=[]):=hid (by unfold bod; rw [ht]; rfl);have H:=hid (Vz L ao n cap w hr);rw [ht] at H;clear ht hr;go_enter Tryz.func65,Tryz.ntmps65;go_wp2_with fail;refine H.o.mono ?_;rintro e w1 ⟨rfl,h1⟩;have HS1:=hid h1;clear h1 H;go_wp2_with fail;go_ret2
  exact ⟨_,rfl,by rw [HE.o]; exact OwG.nil _ _,HS1.o⟩
theorem QL (S:List Sh) (ao:Option Addr) (n cap:Nat) (w:World) (hr:RdG KS w ao n S):Ya 49 #[.slice ao n cap] w (.bool (flo S)):=by
 have HL:=hid hr.1;have HR:=hid hr;by_cases h6:48<n
 ·have HE:Hid (flo S=false):=hid (Dv (fun h=>by have:=h.1; rw [HL.o] at this; omega));have h6':(n:Int) > 48:=by omega
  clear hr;go_enter Tryz.func49,Tryz.ntmps49;go_wp2_with fail;go_ret;exact ⟨by rw [HE.o]; rfl,Fr.refl _ _⟩
 ·have h6':decide ((48:Int)<(n:Int))=false:=by simp; omega
  have hn6:n<=48:=by omega
  clear hr h6;go_enter Tryz.func49,Tryz.ntmps49;go_wp2_with fail;clear h6';go_loopw [3] (fun u wr=>∃ k:Nat,k<=n/\u=.int .i64 (k:Int)/\Hid (∀ i,i<k->Zd (ss S i)=true/\(0<i->(ss S (i - 1)).no<(ss S i).no))/\Yc w wr) (fun u _=>n - (intOf u).toNat);case atStart=>exact ⟨0,by omega,rfl,hid (fun i hi=>by omega),Fr.refl _ _⟩
  case round =>
   obtain ⟨k,hk,rfl,HF,hs⟩:=hrel;have HS:=hid hs;clear hs;by_cases hkn:k<n
   ·have hlt:(k:Int)<(n:Int):=by omega
    obtain ⟨B,o,rfl⟩:=(HR.o.sT HS.o).at (by omega);obtain ⟨s0,s1,s2,s3,s4,s5,s6,s7⟩:=rdS (HR.o.sT HS.o) hkn;have HM:=hid (fun w=>Jc (ss S k) w);have HC1:=hid (fun u (hu:Yc wr u)=>(rdS ((HR.o.sT HS.o).sT hu) hkn).1);have HC2:=hid (fun u (hu:Yc wr u) (h0:0<k)=>(rdS ((HR.o.sT HS.o).sT hu) (i:=k - 1) (by omega)).1);have HNo:=hid (show ¬ (Zd (ss S k)=true/\(0<k->(ss S (k - 1)).no<(ss S k).no))->flo S=false from fun h=>Dv (fun hf=>h (hf.2 k (by rw [HL.o]; exact hkn))));have HYes:=hid (show (Zd (ss S k)=true/\(0<k->(ss S (k - 1)).no<(ss S k).no))->∀ i,i<k+1->Zd (ss S i)=true/\(0<i->(ss S (i - 1)).no<(ss S i).no) from fun h i hi=>by
     by_cases e:i=k
     ·subst e; exact h
     ·exact HF.o i (by omega))
    obtain ⟨x,ex⟩:∃ x,ss S k=x:=⟨_,rfl⟩;obtain ⟨y,ey⟩:∃ y,(ss S (k - 1)).no=y:=⟨_,rfl⟩;rw [ex] at s0 s1 s2 s3 s4 s5 s6 s7 HM HC1 HNo HYes;rw [ey] at HC2 HNo HYes;obtain ⟨b,eb⟩:∃ b,Zd x=b:=⟨_,rfl⟩;have HCk:Hid (Yx x=if b then 0 else 90):=hid (by unfold Yx; rw [eb]);rw [eb] at HNo HYes;rw [HCk.o] at HM;clear ex eb ey HCk;go_wp2_with fail;refine (HM.o _).mono ?_;rintro e w2 ⟨rfl,h2⟩;have c1:=HC1.o _ h2;have HC:=hid (HC2.o _ h2);have HS2:=hid (HS.o.trans h2);clear h2 HS s0 s1 s2 s3 s4 s5 s6 s7 HM HC1 HC2;obtain ⟨z,ez⟩:∃ z,x.no=z:=⟨_,rfl⟩;rw [ez] at c1 HNo HYes;clear ez;have k1:=kC c1;have hne:=Aft.here w2;have hk48:k<48:=by omega
    clear c1;cases b with
    | false =>
     have HN:=hid (HNo.o (fun h=>by cases h.1));clear HYes HNo HC;go_wp2_with fail;refine Yo (by kernel_rfl) (by kernel_rfl) ?_;repeat (go_big_quiet_step (fail))
     refine wpQuiet_nil ?_;intro w3 h3;have HS3:=hid (HS2.o.trans h3);clear h3 HS2 hne k1;go_wp2_with fail
     (first | rw [Exit.noGoto_ret] | skip)
     go_ret;exact ⟨by rw [HN.o]; rfl,HS3.o⟩
    | true =>
     by_cases hg:0<k
     ·have hg':(0:Int)<(k:Int):=by omega
      have hg1:decide ((0:Int)<(k:Int))=true:=by simpa using hg'
      have hg2:decide (0<k)=true:=by simpa using hg
      have k2:=kC (HC.o hg);by_cases hzy:z<=y
      ·have hz2:decide (z<=y)=true:=by simpa using hzy
       have HN:=hid (HNo.o (fun h=>by have:=h.2 hg; omega));clear HYes HNo HC;go_wp2_with fail;refine Yo (by kernel_rfl) (by kernel_rfl) ?_;repeat (go_big_quiet_step (fail))
       refine wpQuiet_nil ?_;intro w3 h3;have HS3:=hid (HS2.o.trans h3);clear h3 HS2 hne k1 k2;go_wp2_with fail
       (first | rw [Exit.noGoto_ret] | skip)
       go_ret;exact ⟨by rw [HN.o]; rfl,HS3.o⟩
      ·have hz2:decide (z<=y)=false:=by simpa using hzy
       have HY:=hid (HYes.o ⟨rfl,fun _=>by omega⟩);clear HYes HNo HC;go_wp2_with fail;refine Yo (by kernel_rfl) (by kernel_rfl) ?_;repeat (go_big_quiet_step (fail))
       refine wpQuiet_nil ?_;intro w3 h3;have HS3:=hid (HS2.o.trans h3);clear h3 HS2 hne k1 k2;go_wp2_with fail;go_roundw;case rel=>exact ⟨k+1,by omega,by go_num,HY,HS3.o⟩
       case measure=>first | (simp [intOf]; done) | (simp [intOf]; omega)
     ·have hg':¬ (0:Int)<(k:Int):=by omega
      have hg1:decide ((0:Int)<(k:Int))=false:=by simpa using hg'
      have hg2:decide (0<k)=false:=by simpa using hg
      have HY:=hid (HYes.o ⟨rfl,fun h=>absurd h hg⟩);clear HYes HNo HC;go_wp2_with fail;refine Yo (by kernel_rfl) (by kernel_rfl) ?_;repeat (go_big_quiet_step (fail))
      refine wpQuiet_nil ?_;intro w3 h3;have HS3:=hid (HS2.o.trans h3);clear h3 HS2 hne k1;go_wp2_with fail;go_roundw;case rel=>exact ⟨k+1,by omega,by go_num,HY,HS3.o⟩
      case measure=>first | (simp [intOf]; done) | (simp [intOf]; omega)
   ·have hge:¬ (k:Int)<(n:Int):=by omega
    have HE:Hid (flo S=true):=hid (flo_iff.2 ⟨by rw [HL.o]; exact hn6,fun i hi=>HF.o i (by have:=HL.o; omega)⟩);clear hkn hk;go_wp2_with fail;go_ret;exact ⟨by rw [HE.o]; rfl,HS.o⟩
theorem Lu (L:List Mv) (S:List Sh) (ao:Option Addr) (n cap:Nat) (so:Option Addr) (r scap:Nat) (w:World) (hr:RdG KM w ao n L) (hs:RdG KS w so r S) (ht:YR L=true) (hf:flo S=true):Calls Tryz.prog 68 #[.slice ao n cap,.slice so r scap] w fun e w'=>∃ v,e=.returned (.tuple #[v,.int .i64 0])/\OwG KT 147 w' w.heap.size v (rowS (fun i k=>hS L (ss S i) k) n r)/\Yc w w':=by
 have HL:=hid hr.1;have HR:=hid hr;have HRS:=hid hs;have hn6:n<=6:=by have:=(togB_iff.1 ht).1; have:=hr.1; omega
 have hr48:r<=48:=by have:=(flo_iff.1 hf).1; have:=hs.1; omega
 have H:=hid (Vz L ao n cap w hr);have H2:=hid (fun u hu=>QL S so r scap u hu);rw [ht] at H;rw [hf] at H2;clear hr ht hs hf;obtain ⟨P,eP⟩:∃ P,(fun i k=>hS L (ss S i) k)=P:=⟨_,rfl⟩;have HP:=hid (show ∀ i k,P i k=hS L (ss S i) k from fun i k=>by rw [<- eP]);rw [eP];clear eP;go_enter Tryz.func68,Tryz.ntmps68;go_wp2_with fail;refine H.o.mono ?_;rintro e w0 ⟨rfl,h0⟩;have HS0:=hid h0;clear h0 H;go_wp2_with fail;refine (H2.o _ (HRS.o.sT HS0.o)).mono ?_;rintro e w1 ⟨rfl,h1⟩;have HS1:=hid (HS0.o.trans h1);have HZ:=hid HS1.o.size;clear h1 H2 HS0;go_wp2_with fail;go_loopw [8,9] (fun v u wr=>∃ i:Nat,i<=r/\u=.int .i64 (i:Int)/\OwG KT 147 wr w1.heap.size v (rowS P n i)/\Yc w1 wr) (fun _ u _=>r - (intOf u).toNat);case atStart=>exact ⟨0,by omega,rfl,OwG.nil _ _,Fr.refl _ _⟩
 case round =>
  obtain ⟨i,hi,rfl,ho,hs⟩:=hrel;have HS2:=hid hs;have HO2:=hid ho;clear hs;obtain ⟨ao2,cap2,rfl,_⟩:=ho.slice;clear ho;have HLn:=hid (show (rowS P n i).length<=100000 by have:=Jf P n i; omega);obtain ⟨m2,em2⟩:∃ m,(rowS P n i).length=m:=⟨_,rfl⟩;rw [em2] at HO2 ⊢;clear em2;by_cases hin:i<r
  ·have hlt:(i:Int)<(r:Int):=by omega
   have HRow:Hid (rowS P n (i+1)=rowS P n i ++ (if 0<=lo (P i) 0 n then [((i:Int),lo (P i) 0 n)] else [])):=hid rfl;go_wp2_with fail;go_loopw [10,11] (fun v u wr=>∃ j:Nat,j<=n/\v=.int .i64 (lo (P i) j (n - j))/\u=.int .i64 ((j:Int) - 1)/\OwG KT 147 wr w1.heap.size (.slice ao2 m2 cap2) (rowS P n i)/\Yc w1 wr) (fun _ u _=>(intOf u+1).toNat);case atStart=>exact ⟨n,Nat.le_refl _,by rw [Nat.sub_self]; rfl,by go_num,HO2.o,HS2.o⟩
   case round =>
    clear HO2 HS2;obtain ⟨j,hj,rfl,rfl,ho,hs⟩:=hrel;have HS2:=hid hs;have HO2:=hid ho;clear hs ho;by_cases hj0:0<j
    ·obtain ⟨k,rfl⟩:∃ k,j=k+1:=⟨j - 1,by omega⟩;rw [show ((k+1:Nat):Int) - 1=(k:Int) by omega];have hkn:k<n:=by omega
     have hlt2:(k:Int)<(n:Int):=by omega
     have HLo:=hid (Dx (P i) hkn);obtain ⟨at0,eat⟩:∃ z,lo (P i) (k+1) (n - (k+1))=z:=⟨_,rfl⟩;rw [eat] at HLo ⊢;clear eat;have HRr:=hid ((HR.o.sT HS1.o).sT HS2.o);have HRs:=hid ((HRS.o.sT HS1.o).sT HS2.o);obtain ⟨B,o,rfl⟩:=HRr.o.at (by omega);obtain ⟨B2,o2,rfl⟩:=HRs.o.at (by omega);obtain ⟨c0,c1,c2,c3,c4,c5,c6,c7,c8,c9,c10,c11,c12⟩:=rdM HRr.o hkn;obtain ⟨s0,s1,s2,s3,s4,s5,s6,s7⟩:=rdS HRs.o hin;have HC:=hid (fun u (hu:Yc wr u)=>(rdM (HRr.o.sT hu) hkn).2.2.2.2.2.2.2.2.2.2.2.1);have HD:=hid (fun u (hu:Yc wr u)=>(rdS (HRs.o.sT hu) hin).2.1);have HB1:=hid (fun w=>Kl (mm L k) w);have HT2:Hid (P i k=(((mm L k).ou == 0) && !((k:Int) == (ss S i).ow) && inn (mm L k) (ss S i).ax (ss S i).ay)):=hid (HP.o i k);obtain ⟨x,ex⟩:∃ x,mm L k=x:=⟨_,rfl⟩;obtain ⟨y,ey⟩:∃ x,ss S i=x:=⟨_,rfl⟩;rw [ex] at c0 c1 c2 c3 c4 c5 c6 c7 c8 c9 c10 c11 c12 HC HB1 HT2;rw [ey] at s0 s1 s2 s3 s4 s5 s6 s7 HD HT2;clear ex ey;have HV:=hid (fun w=>O7 (Ys x.ax 1280) (Ys x.ay 1280) (Yj x.ax 1280) (Yj x.ay 1280) y.ax y.ay w);obtain ⟨b3,eb3⟩:∃ b,inn x y.ax y.ay=b:=⟨_,rfl⟩;unfold inn at eb3;rw [show inn x y.ax y.ay=b3 from eb3] at HT2;rw [eb3] at HV;clear eb3;obtain ⟨x1,e1⟩:∃ z,Ys x.ax 1280=z:=⟨_,rfl⟩;obtain ⟨x2,e2⟩:∃ z,Ys x.ay 1280=z:=⟨_,rfl⟩;obtain ⟨x3,e3⟩:∃ z,Yj x.ax 1280=z:=⟨_,rfl⟩;obtain ⟨x4,e4⟩:∃ z,Yj x.ay 1280=z:=⟨_,rfl⟩;rw [e1,e2,e3,e4] at HB1 HV;clear e1 e2 e3 e4;have k0:=kC c0;have k1:=kC c1;have k2:=kC c2;have k3:=kC c3;have k4:=kC c4;have k5:=kC c5;have k6:=kC c6;have k7:=kC c7;have k8:=kC c8;have k9:=kC c9;have k10:=kC c10;have k11:=kC c11;have k12:=kC c12;have l3:=kC s3;have l4:=kC s4;have hne:=Aft.here wr;clear c0 c1 c2 c3 c4 c5 c6 c7 c8 c9 c10 c11 c12 s0 s1 s2 s3 s4 s5 s6 s7;go_wp2_with fail;refine Yo (by kernel_rfl) (by kernel_rfl) ?_;repeat (go_big_quiet_step ((first | (go_at_call 119; with_reducible exact Calls.cl (HB1.o _)) | (go_at_call 121; with_reducible exact Calls.cl (HV.o _)))))
     refine wpQuiet_nil ?_;intro w3 h3;have c:=HC.o _ h3;have d:=HD.o _ h3;have HS3:=hid (HS2.o.trans h3);have HO3:=hid (HO2.o.sT h3);clear h3 hne k0 k1 k2 k3 k4 k5 k6 k7 k8 k9 k10 k11 k12 l3 l4 HS2 HO2 HB1 HV HC HD HRr HRs;obtain ⟨p,ep⟩:∃ p,x.ou=p:=⟨_,rfl⟩;obtain ⟨q,eq⟩:∃ p,y.ow=p:=⟨_,rfl⟩;rw [ep] at c HT2;rw [eq] at d HT2;clear ep eq;have HK0:Hid (P i k=false->lo (P i) k (n - k)=at0):=hid (fun h=>by rw [HLo.o,h]; rfl);have HK1:Hid (P i k=true->lo (P i) k (n - k)=(k:Int)):=hid (fun h=>by rw [HLo.o,h]; rfl);cases hp:p == 0 with
     | false =>
      have HK:=hid (HK0.o (by rw [HT2.o,hp]; rfl));clear HK0 HK1 HT2 HLo;go_wp2_with fail;go_roundw;case rel=>exact ⟨k,by omega,by rw [HK.o],by go_num,HO3.o,HS3.o⟩
      case measure=>first | (simp [intOf]; done) | (simp [intOf]; omega)
     | true =>
      cases hq:(k:Int) == q with
      | true =>
       have HK:=hid (HK0.o (by rw [HT2.o,hp,hq]; rfl));have hq2:((k:Int) != q)=false:=by simpa using hq
       clear HK0 HK1 HT2 HLo;go_wp2_with fail;go_roundw;case rel=>exact ⟨k,by omega,by rw [HK.o],by go_num,HO3.o,HS3.o⟩
       case measure=>first | (simp [intOf]; done) | (simp [intOf]; omega)
      | false =>
       have hq2:((k:Int) != q)=true:=by simpa using hq
       cases b3 with
       | false =>
        have HK:=hid (HK0.o (by rw [HT2.o,hp,hq]; rfl));clear HK0 HK1 HT2 HLo;go_wp2_with fail;go_roundw;case rel=>exact ⟨k,by omega,by rw [HK.o],by go_num,HO3.o,HS3.o⟩
        case measure=>first | (simp [intOf]; done) | (simp [intOf]; omega)
       | true =>
        have HK:=hid (HK1.o (by rw [HT2.o,hp,hq]; rfl));clear HK0 HK1 HT2 HLo;go_wp2_with fail;go_roundw;case rel=>exact ⟨k,by omega,by rw [HK.o],by go_num,HO3.o,HS3.o⟩
        case measure=>first | (simp [intOf]; done) | (simp [intOf]; omega)
    ·obtain rfl:j=0:=by omega
     rw [show ((0:Nat):Int) - 1=-1 by omega,Nat.sub_zero];obtain ⟨z,ez⟩:∃ z,lo (P i) 0 n=z:=⟨_,rfl⟩;rw [ez] at HRow ⊢;clear ez hj0;have hz3:w1.heap.size<=wr.heap.size:=HS2.o.size;by_cases hz0:0<=z
     ·have hz1:z ≥ 0:=hz0;have HK:Hid (rowS P n (i+1)=rowS P n i ++ [((i:Int),z)]):=hid (by rw [HRow.o,if_pos hz0]);have A4:=aL wr (.cells #[.int .i64 (i:Int),.int .i64 z] 147);have HS4:=hid (HS2.o.trans A4);have HO4:=hid (HO2.o.sT A4);have HX4:Hid ((wr.alloc (.cells #[.int .i64 (i:Int),.int .i64 z] 147)).heap[wr.heap.size]?=some (.cells #[.int .i64 (i:Int),.int .i64 z] 147 (0,0))):=hid (heap_alloc_new wr _);have HB4:=hid (show w1.heap.size<=(wr.alloc (.cells #[.int .i64 (i:Int),.int .i64 z] 147)).heap.size by rw [Yf]; omega);clear A4 HRow;go_wp2_with (at_builtin; refine Ql _ rfl _ _ rfl w1.heap.size wr.heap.size _ (rowS P n i) (i:Int) z rfl rfl HO4.o HX4.o HLn.o HB4.o ?_; intro v' w' ho' hf');go_roundw;case rel=>exact ⟨i+1,by omega,by go_num,by rw [HK.o]; exact ho',Zy HS4.o HO4.o hf' (Nat.le_refl _)⟩
      case measure=>first | (simp [intOf]; done) | (simp [intOf]; omega)
     ·have hz1:¬ z ≥ 0:=hz0;have HK:Hid (rowS P n (i+1)=rowS P n i):=hid (by rw [HRow.o,if_neg hz0,List.append_nil]);clear HRow;go_wp2_with fail;go_roundw;case rel=>exact ⟨i+1,by omega,by go_num,by rw [HK.o]; exact HO2.o,HS2.o⟩
      case measure=>first | (simp [intOf]; done) | (simp [intOf]; omega)
  ·have hge:¬ (i:Int)<(r:Int):=by omega
   have HE:Hid (rowS P n r=rowS P n i):=hid (by congr; omega);clear hin;go_wp2_with fail;go_ret2
   exact ⟨_,rfl,by rw [HE.o]; exact HO2.o.less HZ.o,HS1.o.trans HS2.o⟩
theorem Lv (L:List Mv) (S:List Sh) (ao:Option Addr) (n cap:Nat) (so:Option Addr) (r scap:Nat) (w:World) (hr:RdG KM w ao n L) (hs:RdG KS w so r S):Calls Tryz.prog 68 #[.slice ao n cap,.slice so r scap] w fun e w'=>∃ v,e=.returned (.tuple #[v,.int .i64 (Vr (U3 L S))])/\OwG KT 147 w' w.heap.size v (sho L S)/\Yc w w':=by
 cases he:U3 L S with
 | true =>
  have h:=he;unfold U3 at h;rw [Bool.and_eq_true] at h;have e:sho L S=rowS (fun i k=>hS L (ss S i) k) n r:=by unfold sho; rw [he,hr.1,hs.1]; rfl
  rw [e];exact Lu L S ao n cap so r scap w hr hs h.1 h.2
 | false =>
  have HE:Hid (sho L S=[]):=hid (by unfold sho; rw [he]; rfl);have H:=hid (Vz L ao n cap w hr);have H2:=hid (fun u hu=>QL S so r scap u hu);have HRS:=hid hs;have HB:Hid ((YR L && flo S)=false):=hid he;obtain ⟨a,ea⟩:∃ b,YR L=b:=⟨_,rfl⟩;obtain ⟨b,eb⟩:∃ b,flo S=b:=⟨_,rfl⟩;rw [ea] at H HB;rw [eb] at H2 HB;clear he hr hs ea eb;go_enter Tryz.func68,Tryz.ntmps68;go_wp2_with fail;refine H.o.mono ?_;rintro e w1 ⟨rfl,h1⟩;have HS1:=hid h1;clear h1 H;go_wp2_with fail;refine (H2.o _ (HRS.o.sT HS1.o)).mono ?_;rintro e w2 ⟨rfl,h2⟩;have HS2:=hid (HS1.o.trans h2);clear h2 H2 HS1;cases a with
  | false =>
   go_wp2_with fail;go_ret2
   exact ⟨_,rfl,by rw [HE.o]; exact OwG.nil _ _,HS2.o⟩
  | true =>
   cases b with
   | true=>exact absurd HB.o (by decide)
   | false =>
    go_wp2_with fail;go_ret2
    exact ⟨_,rfl,by rw [HE.o]; exact OwG.nil _ _,HS2.o⟩
theorem QM (a b:Mv):YR [a,b]=ZR a b:=by
 unfold YR ZR;simp
theorem QN (w:World) (a b:Mv):RdG KM (w.alloc (.cells #[.int .i64 a.ax,.int .i64 a.ay,.int .i64 a.sx,.int .i64 a.sy,.int .i64 a.px,.int .i64 a.py,.int .i64 a.fc,.int .i64 a.hl,.int .i64 a.en,.bool a.sh,.int .i64 a.co,.int .i64 a.ou,.int .i64 a.sd,.int .i64 b.ax,.int .i64 b.ay,.int .i64 b.sx,.int .i64 b.sy,.int .i64 b.px,.int .i64 b.py,.int .i64 b.fc,.int .i64 b.hl,.int .i64 b.en,.bool b.sh,.int .i64 b.co,.int .i64 b.ou,.int .i64 b.sd] 56)) (some ⟨w.heap.size,0,none⟩) 2 [a,b]:=by
 have h:OwG KM 56 (w.alloc (.cells #[.int .i64 a.ax,.int .i64 a.ay,.int .i64 a.sx,.int .i64 a.sy,.int .i64 a.px,.int .i64 a.py,.int .i64 a.fc,.int .i64 a.hl,.int .i64 a.en,.bool a.sh,.int .i64 a.co,.int .i64 a.ou,.int .i64 a.sd,.int .i64 b.ax,.int .i64 b.ay,.int .i64 b.sx,.int .i64 b.sy,.int .i64 b.px,.int .i64 b.py,.int .i64 b.fc,.int .i64 b.hl,.int .i64 b.en,.bool b.sh,.int .i64 b.co,.int .i64 b.ou,.int .i64 b.sd] 56)) w.heap.size (.slice (some ⟨w.heap.size,0,none⟩) 2 2) ([a,b] ++ []) :=
  World.ownsRow_lit (base:=w.heap.size) (e:=56) (size:=13) w #[.int .i64 a.ax,.int .i64 a.ay,.int .i64 a.sx,.int .i64 a.sy,.int .i64 a.px,.int .i64 a.py,.int .i64 a.fc,.int .i64 a.hl,.int .i64 a.en,.bool a.sh,.int .i64 a.co,.int .i64 a.ou,.int .i64 a.sd,.int .i64 b.ax,.int .i64 b.ay,.int .i64 b.sx,.int .i64 b.sy,.int .i64 b.px,.int .i64 b.py,.int .i64 b.fc,.int .i64 b.hl,.int .i64 b.en,.bool b.sh,.int .i64 b.co,.int .i64 b.ou,.int .i64 b.sd] 2 (Nat.le_refl _) (by unfold maxLen; omega) rfl
 exact h.rd (show 2<=281474976710656 by decide)
theorem Lw (a b:Mv) (he:ZR a b=false) (w:World):Ya 66 #[mv a,mv b] w (.tuple #[mv zM,mv zM,.int .i64 110]):=by
 have A0:=aL w (.cells (mcs a) 56);have A1:=aL (Ye w a) (.cells (mcs b) 56);have A2:=aL (Ye (Ye w a) b) (.cells (mcs zM) 56);have A3:=aL (Ye (Ye (Ye w a) b) zM) (.cells (mcs zM) 56);have A4:=aL (Ye (Ye (Ye (Ye w a) b) zM) zM) (.cells #[.int .i64 a.ax,.int .i64 a.ay,.int .i64 a.sx,.int .i64 a.sy,.int .i64 a.px,.int .i64 a.py,.int .i64 a.fc,.int .i64 a.hl,.int .i64 a.en,.bool a.sh,.int .i64 a.co,.int .i64 a.ou,.int .i64 a.sd,.int .i64 b.ax,.int .i64 b.ay,.int .i64 b.sx,.int .i64 b.sy,.int .i64 b.px,.int .i64 b.py,.int .i64 b.fc,.int .i64 b.hl,.int .i64 b.en,.bool b.sh,.int .i64 b.co,.int .i64 b.ou,.int .i64 b.sd] 56);have p0:=((Yk w a).sT A1).sT A2 |>.sT A3;have q0:=((Yk (Ye w a) b).sT A2).sT A3;have r0:=((Yk (Ye (Ye w a) b) zM).sT A3).sT A4;have s0:=(Yk (Ye (Ye (Ye w a) b) zM) zM).sT A4;have H:=hid (Vz [a,b] _ 2 2 _ (QN (Ye (Ye (Ye (Ye w a) b) zM) zM) a b));have pp0:=p0.sT A4;have qq0:=q0.sT A4;simp only [Yf] at q0 r0 s0 qq0 H;rw [QM,he] at H;have HS0:=hid ((((A0.trans A1).trans A2).trans A3).trans A4);clear A0 A1 A2 A3 A4 he;obtain ⟨c0,c1,c2,c3,c4,c5,c6,c7,c8,c9,c10,c11,c12,cf⟩:=p0.cells;obtain ⟨d0,d1,d2,d3,d4,d5,d6,d7,d8,d9,d10,d11,d12,df⟩:=q0.cells;go_enter Tryz.func66,Tryz.ntmps66;go_wp2_with fail;refine H.o.mono ?_;rintro e w1 ⟨rfl,h1⟩;have p1:=pp0.sT h1;have q1:=qq0.sT h1;have r1:=r0.sT h1;have s1:=s0.sT h1;have HS1:=hid (HS0.o.trans h1);clear h1 HS0 p0 q0 r0 s0 pp0 qq0 H c0 c1 c2 c3 c4 c5 c6 c7 c8 c9 c10 c11 c12 cf d0 d1 d2 d3 d4 d5 d6 d7 d8 d9 d10 d11 d12 df;obtain ⟨c0,c1,c2,c3,c4,c5,c6,c7,c8,c9,c10,c11,c12,cf⟩:=p1.cells;obtain ⟨d0,d1,d2,d3,d4,d5,d6,d7,d8,d9,d10,d11,d12,df⟩:=q1.cells;obtain ⟨k0,k1,k2,k3,k4,k5,k6,k7,k8,k9,k10,k11,k12,kf⟩:=r1.cells;obtain ⟨l0,l1,l2,l3,l4,l5,l6,l7,l8,l9,l10,l11,l12,lf⟩:=s1.cells;go_wp2_with fail;refine bodyPost_ret (Kj ((r1.put _ _ _ _ _ _ _ _ _ _ _ _ _ ).others (k:=w.heap.size+1+1+1) (by omega) _ _ _ _ _ _ _ _ _ _ _ _ _ ) ((s1.others (k:=w.heap.size+1+1) (by omega) _ _ _ _ _ _ _ _ _ _ _ _ _ ).put _ _ _ _ _ _ _ _ _ _ _ _ _ ) rfl _ _ rfl rfl rfl) rfl ⟨rfl, ?_⟩;repeat (first | refine Yg ?_ _ _ _ (by omega) | with_reducible exact HS1.o)
theorem Lx (a b:Mv) (he:ZR a b=true) (ho:¬ (a.ou=0/\b.ou=0)) (w:World):Ya 66 #[mv a,mv b] w (.tuple #[mv a,mv b,.int .i64 0]):=by
 have HO:=hid ho;clear ho;have A0:=aL w (.cells (mcs a) 56);have A1:=aL (Ye w a) (.cells (mcs b) 56);have A2:=aL (Ye (Ye w a) b) (.cells (mcs zM) 56);have A3:=aL (Ye (Ye (Ye w a) b) zM) (.cells (mcs zM) 56);have A4:=aL (Ye (Ye (Ye (Ye w a) b) zM) zM) (.cells #[.int .i64 a.ax,.int .i64 a.ay,.int .i64 a.sx,.int .i64 a.sy,.int .i64 a.px,.int .i64 a.py,.int .i64 a.fc,.int .i64 a.hl,.int .i64 a.en,.bool a.sh,.int .i64 a.co,.int .i64 a.ou,.int .i64 a.sd,.int .i64 b.ax,.int .i64 b.ay,.int .i64 b.sx,.int .i64 b.sy,.int .i64 b.px,.int .i64 b.py,.int .i64 b.fc,.int .i64 b.hl,.int .i64 b.en,.bool b.sh,.int .i64 b.co,.int .i64 b.ou,.int .i64 b.sd] 56);have p0:=((Yk w a).sT A1).sT A2 |>.sT A3;have q0:=((Yk (Ye w a) b).sT A2).sT A3;have r0:=((Yk (Ye (Ye w a) b) zM).sT A3).sT A4;have s0:=(Yk (Ye (Ye (Ye w a) b) zM) zM).sT A4;have H:=hid (Vz [a,b] _ 2 2 _ (QN (Ye (Ye (Ye (Ye w a) b) zM) zM) a b));have pp0:=p0.sT A4;have qq0:=q0.sT A4;simp only [Yf] at q0 r0 s0 qq0 H;rw [QM,he] at H;have HS0:=hid ((((A0.trans A1).trans A2).trans A3).trans A4);clear A0 A1 A2 A3 A4 he;obtain ⟨c0,c1,c2,c3,c4,c5,c6,c7,c8,c9,c10,c11,c12,cf⟩:=p0.cells;obtain ⟨d0,d1,d2,d3,d4,d5,d6,d7,d8,d9,d10,d11,d12,df⟩:=q0.cells;go_enter Tryz.func66,Tryz.ntmps66;go_wp2_with fail;refine H.o.mono ?_;rintro e w1 ⟨rfl,h1⟩;have p1:=pp0.sT h1;have q1:=qq0.sT h1;have r1:=r0.sT h1;have s1:=s0.sT h1;have HS1:=hid (HS0.o.trans h1);clear h1 HS0 p0 q0 r0 s0 pp0 qq0 H c0 c1 c2 c3 c4 c5 c6 c7 c8 c9 c10 c11 c12 cf d0 d1 d2 d3 d4 d5 d6 d7 d8 d9 d10 d11 d12 df;obtain ⟨c0,c1,c2,c3,c4,c5,c6,c7,c8,c9,c10,c11,c12,cf⟩:=p1.cells;obtain ⟨d0,d1,d2,d3,d4,d5,d6,d7,d8,d9,d10,d11,d12,df⟩:=q1.cells;obtain ⟨k0,k1,k2,k3,k4,k5,k6,k7,k8,k9,k10,k11,k12,kf⟩:=r1.cells;obtain ⟨l0,l1,l2,l3,l4,l5,l6,l7,l8,l9,l10,l11,l12,lf⟩:=s1.cells;obtain ⟨W1,eW1⟩:∃ W,w1=W:=⟨_,rfl⟩;by_cases ha:a.ou=0
 ·have hb:(b.ou == 0)=false:=by have:=HO.o; simp; omega
  have ha':(a.ou == 0)=true:=by simpa using ha
  clear ha eW1;go_upto_region 8 with fail;have hdr:Yc w1 w1.drew:=(Fr.refl _ w1).drew;have p7:=p1.sT hdr;have q7:=q1.sT hdr;have r7:=r1.sT hdr;have s7:=s1.sT hdr;have HS7:=hid (HS1.o.trans hdr);obtain ⟨W7,eW7⟩:∃ W,w1.drew=W:=⟨_,rfl⟩;rw [eW7] at p7 q7 r7 s7 HS7;clear hdr c0 c1 c2 c3 c4 c5 c6 c7 c8 c9 c10 c11 c12 cf d0 d1 d2 d3 d4 d5 d6 d7 d8 d9 d10 d11 d12 df k0 k1 k2 k3 k4 k5 k6 k7 k8 k9 k10 k11 k12 kf
  (try clear l0 l1 l2 l3 l4 l5 l6 l7 l8 l9 l10 l11 l12 lf)
  obtain ⟨c0,c1,c2,c3,c4,c5,c6,c7,c8,c9,c10,c11,c12,cf⟩:=p7.cells;obtain ⟨d0,d1,d2,d3,d4,d5,d6,d7,d8,d9,d10,d11,d12,df⟩:=q7.cells;obtain ⟨k0,k1,k2,k3,k4,k5,k6,k7,k8,k9,k10,k11,k12,kf⟩:=r7.cells;have r8:=r7.put (a.ax) (a.ay) (a.sx) (a.sy) (a.px) (a.py) (a.fc) (a.hl) (a.en) (a.sh) (a.co) (a.ou) (a.sd);have s8:=s7.others (k:=w.heap.size+1+1) (by omega) (a.ax) (a.ay) (a.sx) (a.sy) (a.px) (a.py) (a.fc) (a.hl) (a.en) (a.sh) (a.co) (a.ou) (a.sd);have q8:=q7.others (k:=w.heap.size+1+1) (by omega) (a.ax) (a.ay) (a.sx) (a.sy) (a.px) (a.py) (a.fc) (a.hl) (a.en) (a.sh) (a.co) (a.ou) (a.sd);have HS8:=hid (Yg (Yg (Yg (Yg (Yg (Yg (Yg (Yg (Yg (Yg (Yg (Yg (Yg (HS7.o) (w.heap.size+1+1) 0 (.int .i64 a.ax) (by omega)) (w.heap.size+1+1) 1 (.int .i64 a.ay) (by omega)) (w.heap.size+1+1) 2 (.int .i64 a.sx) (by omega)) (w.heap.size+1+1) 3 (.int .i64 a.sy) (by omega)) (w.heap.size+1+1) 4 (.int .i64 a.px) (by omega)) (w.heap.size+1+1) 5 (.int .i64 a.py) (by omega)) (w.heap.size+1+1) 6 (.int .i64 a.fc) (by omega)) (w.heap.size+1+1) 7 (.int .i64 a.hl) (by omega)) (w.heap.size+1+1) 8 (.int .i64 a.en) (by omega)) (w.heap.size+1+1) 9 (.bool a.sh) (by omega)) (w.heap.size+1+1) 10 (.int .i64 a.co) (by omega)) (w.heap.size+1+1) 11 (.int .i64 a.ou) (by omega)) (w.heap.size+1+1) 12 (.int .i64 a.sd) (by omega));obtain ⟨W8,eW8⟩:∃ W,(((((((((((((W7.setCell ⟨w.heap.size+1+1,0,none⟩ (.int .i64 a.ax)).setCell ⟨w.heap.size+1+1,1,none⟩ (.int .i64 a.ay)).setCell ⟨w.heap.size+1+1,2,none⟩ (.int .i64 a.sx)).setCell ⟨w.heap.size+1+1,3,none⟩ (.int .i64 a.sy)).setCell ⟨w.heap.size+1+1,4,none⟩ (.int .i64 a.px)).setCell ⟨w.heap.size+1+1,5,none⟩ (.int .i64 a.py)).setCell ⟨w.heap.size+1+1,6,none⟩ (.int .i64 a.fc)).setCell ⟨w.heap.size+1+1,7,none⟩ (.int .i64 a.hl)).setCell ⟨w.heap.size+1+1,8,none⟩ (.int .i64 a.en)).setCell ⟨w.heap.size+1+1,9,none⟩ (.bool a.sh)).setCell ⟨w.heap.size+1+1,10,none⟩ (.int .i64 a.co)).setCell ⟨w.heap.size+1+1,11,none⟩ (.int .i64 a.ou)).setCell ⟨w.heap.size+1+1,12,none⟩ (.int .i64 a.sd))=W:=⟨_,rfl⟩;rw [eW8] at r8 s8 q8 HS8;obtain ⟨e0,e1,e2,e3,e4,e5,e6,e7,e8,e9,e10,e11,e12,ef⟩:=q8.cells;obtain ⟨g0,g1,g2,g3,g4,g5,g6,g7,g8,g9,g10,g11,g12,gf⟩:=s8.cells;go_region
  all_goals
   go_wp2_with fail
   (try simp only [Exit.inBlock,Exit.then])
   refine bodyPost_ret (Kj (r8.others (k:=w.heap.size+1+1+1) (by omega) _ _ _ _ _ _ _ _ _ _ _ _ _ ) (s8.put _ _ _ _ _ _ _ _ _ _ _ _ _ ) rfl _ _ rfl rfl rfl) rfl ⟨rfl, ?_⟩;repeat (first | refine Yg ?_ _ _ _ (by omega) | with_reducible exact HS8.o)
 ·have ha':(a.ou == 0)=false:=by simpa using ha
  clear ha eW1;go_upto_region 8 with fail;have hdr:Yc w1 w1.drew:=(Fr.refl _ w1).drew;have p7:=p1.sT hdr;have q7:=q1.sT hdr;have r7:=r1.sT hdr;have s7:=s1.sT hdr;have HS7:=hid (HS1.o.trans hdr);obtain ⟨W7,eW7⟩:∃ W,w1.drew=W:=⟨_,rfl⟩;rw [eW7] at p7 q7 r7 s7 HS7;clear hdr c0 c1 c2 c3 c4 c5 c6 c7 c8 c9 c10 c11 c12 cf d0 d1 d2 d3 d4 d5 d6 d7 d8 d9 d10 d11 d12 df k0 k1 k2 k3 k4 k5 k6 k7 k8 k9 k10 k11 k12 kf
  (try clear l0 l1 l2 l3 l4 l5 l6 l7 l8 l9 l10 l11 l12 lf)
  obtain ⟨c0,c1,c2,c3,c4,c5,c6,c7,c8,c9,c10,c11,c12,cf⟩:=p7.cells;obtain ⟨d0,d1,d2,d3,d4,d5,d6,d7,d8,d9,d10,d11,d12,df⟩:=q7.cells;obtain ⟨k0,k1,k2,k3,k4,k5,k6,k7,k8,k9,k10,k11,k12,kf⟩:=r7.cells;have r8:=r7.put (a.ax) (a.ay) (a.sx) (a.sy) (a.px) (a.py) (a.fc) (a.hl) (a.en) (a.sh) (a.co) (a.ou) (a.sd);have s8:=s7.others (k:=w.heap.size+1+1) (by omega) (a.ax) (a.ay) (a.sx) (a.sy) (a.px) (a.py) (a.fc) (a.hl) (a.en) (a.sh) (a.co) (a.ou) (a.sd);have q8:=q7.others (k:=w.heap.size+1+1) (by omega) (a.ax) (a.ay) (a.sx) (a.sy) (a.px) (a.py) (a.fc) (a.hl) (a.en) (a.sh) (a.co) (a.ou) (a.sd);have HS8:=hid (Yg (Yg (Yg (Yg (Yg (Yg (Yg (Yg (Yg (Yg (Yg (Yg (Yg (HS7.o) (w.heap.size+1+1) 0 (.int .i64 a.ax) (by omega)) (w.heap.size+1+1) 1 (.int .i64 a.ay) (by omega)) (w.heap.size+1+1) 2 (.int .i64 a.sx) (by omega)) (w.heap.size+1+1) 3 (.int .i64 a.sy) (by omega)) (w.heap.size+1+1) 4 (.int .i64 a.px) (by omega)) (w.heap.size+1+1) 5 (.int .i64 a.py) (by omega)) (w.heap.size+1+1) 6 (.int .i64 a.fc) (by omega)) (w.heap.size+1+1) 7 (.int .i64 a.hl) (by omega)) (w.heap.size+1+1) 8 (.int .i64 a.en) (by omega)) (w.heap.size+1+1) 9 (.bool a.sh) (by omega)) (w.heap.size+1+1) 10 (.int .i64 a.co) (by omega)) (w.heap.size+1+1) 11 (.int .i64 a.ou) (by omega)) (w.heap.size+1+1) 12 (.int .i64 a.sd) (by omega));obtain ⟨W8,eW8⟩:∃ W,(((((((((((((W7.setCell ⟨w.heap.size+1+1,0,none⟩ (.int .i64 a.ax)).setCell ⟨w.heap.size+1+1,1,none⟩ (.int .i64 a.ay)).setCell ⟨w.heap.size+1+1,2,none⟩ (.int .i64 a.sx)).setCell ⟨w.heap.size+1+1,3,none⟩ (.int .i64 a.sy)).setCell ⟨w.heap.size+1+1,4,none⟩ (.int .i64 a.px)).setCell ⟨w.heap.size+1+1,5,none⟩ (.int .i64 a.py)).setCell ⟨w.heap.size+1+1,6,none⟩ (.int .i64 a.fc)).setCell ⟨w.heap.size+1+1,7,none⟩ (.int .i64 a.hl)).setCell ⟨w.heap.size+1+1,8,none⟩ (.int .i64 a.en)).setCell ⟨w.heap.size+1+1,9,none⟩ (.bool a.sh)).setCell ⟨w.heap.size+1+1,10,none⟩ (.int .i64 a.co)).setCell ⟨w.heap.size+1+1,11,none⟩ (.int .i64 a.ou)).setCell ⟨w.heap.size+1+1,12,none⟩ (.int .i64 a.sd))=W:=⟨_,rfl⟩;rw [eW8] at r8 s8 q8 HS8;obtain ⟨e0,e1,e2,e3,e4,e5,e6,e7,e8,e9,e10,e11,e12,ef⟩:=q8.cells;obtain ⟨g0,g1,g2,g3,g4,g5,g6,g7,g8,g9,g10,g11,g12,gf⟩:=s8.cells;go_region
  all_goals
   go_wp2_with fail
   (try simp only [Exit.inBlock,Exit.then])
   refine bodyPost_ret (Kj (r8.others (k:=w.heap.size+1+1+1) (by omega) _ _ _ _ _ _ _ _ _ _ _ _ _ ) (s8.put _ _ _ _ _ _ _ _ _ _ _ _ _ ) rfl _ _ rfl rfl rfl) rfl ⟨rfl, ?_⟩;repeat (first | refine Yg ?_ _ _ _ (by omega) | with_reducible exact HS8.o)
theorem Ly (a b:Mv) (he:ZR a b=true) (ha':(a.ou == 0)=true) (hb':(b.ou == 0)=true) (w:World):Ya 66 #[mv a,mv b] w (.tuple #[mv { a with sx:=b.sx,sy:=b.sy },mv { b with sx:=a.sx,sy:=a.sy },.int .i64 0]):=by
 have A0:=aL w (.cells (mcs a) 56);have A1:=aL (Ye w a) (.cells (mcs b) 56);have A2:=aL (Ye (Ye w a) b) (.cells (mcs zM) 56);have A3:=aL (Ye (Ye (Ye w a) b) zM) (.cells (mcs zM) 56);have A4:=aL (Ye (Ye (Ye (Ye w a) b) zM) zM) (.cells #[.int .i64 a.ax,.int .i64 a.ay,.int .i64 a.sx,.int .i64 a.sy,.int .i64 a.px,.int .i64 a.py,.int .i64 a.fc,.int .i64 a.hl,.int .i64 a.en,.bool a.sh,.int .i64 a.co,.int .i64 a.ou,.int .i64 a.sd,.int .i64 b.ax,.int .i64 b.ay,.int .i64 b.sx,.int .i64 b.sy,.int .i64 b.px,.int .i64 b.py,.int .i64 b.fc,.int .i64 b.hl,.int .i64 b.en,.bool b.sh,.int .i64 b.co,.int .i64 b.ou,.int .i64 b.sd] 56);have p0:=((Yk w a).sT A1).sT A2 |>.sT A3;have q0:=((Yk (Ye w a) b).sT A2).sT A3;have r0:=((Yk (Ye (Ye w a) b) zM).sT A3).sT A4;have s0:=(Yk (Ye (Ye (Ye w a) b) zM) zM).sT A4;have H:=hid (Vz [a,b] _ 2 2 _ (QN (Ye (Ye (Ye (Ye w a) b) zM) zM) a b));have pp0:=p0.sT A4;have qq0:=q0.sT A4;simp only [Yf] at q0 r0 s0 qq0 H;rw [QM,he] at H;have HS0:=hid ((((A0.trans A1).trans A2).trans A3).trans A4);clear A0 A1 A2 A3 A4 he;obtain ⟨c0,c1,c2,c3,c4,c5,c6,c7,c8,c9,c10,c11,c12,cf⟩:=p0.cells;obtain ⟨d0,d1,d2,d3,d4,d5,d6,d7,d8,d9,d10,d11,d12,df⟩:=q0.cells;go_enter Tryz.func66,Tryz.ntmps66;go_wp2_with fail;refine H.o.mono ?_;rintro e w1 ⟨rfl,h1⟩;have p1:=pp0.sT h1;have q1:=qq0.sT h1;have r1:=r0.sT h1;have s1:=s0.sT h1;have HS1:=hid (HS0.o.trans h1);clear h1 HS0 p0 q0 r0 s0 pp0 qq0 H c0 c1 c2 c3 c4 c5 c6 c7 c8 c9 c10 c11 c12 cf d0 d1 d2 d3 d4 d5 d6 d7 d8 d9 d10 d11 d12 df;obtain ⟨c0,c1,c2,c3,c4,c5,c6,c7,c8,c9,c10,c11,c12,cf⟩:=p1.cells;obtain ⟨d0,d1,d2,d3,d4,d5,d6,d7,d8,d9,d10,d11,d12,df⟩:=q1.cells;obtain ⟨k0,k1,k2,k3,k4,k5,k6,k7,k8,k9,k10,k11,k12,kf⟩:=r1.cells;obtain ⟨l0,l1,l2,l3,l4,l5,l6,l7,l8,l9,l10,l11,l12,lf⟩:=s1.cells;have A5:=aL w1 (.cells #[.int .i64 a.sx,.int .i64 a.sy] 54);have x2:=Yp w1 a.sx a.sy;have hz1:w.heap.size+1+1+1<w1.heap.size:=s1.lt;have p2:=(((p1.sT A5).sp b.sx b.sy).other (w.heap.size+1) 2 (.int .i64 a.sx) (by omega)).other (w.heap.size+1) 3 (.int .i64 a.sy) (by omega);have q2:=(((q1.sT A5).other w.heap.size 2 (.int .i64 b.sx) (by omega)).other w.heap.size 3 (.int .i64 b.sy) (by omega)).sp a.sx a.sy;have r2:=((((r1.sT A5).other w.heap.size 2 (.int .i64 b.sx) (by omega)).other w.heap.size 3 (.int .i64 b.sy) (by omega)).other (w.heap.size+1) 2 (.int .i64 a.sx) (by omega)).other (w.heap.size+1) 3 (.int .i64 a.sy) (by omega);have s2:=((((s1.sT A5).other w.heap.size 2 (.int .i64 b.sx) (by omega)).other w.heap.size 3 (.int .i64 b.sy) (by omega)).other (w.heap.size+1) 2 (.int .i64 a.sx) (by omega)).other (w.heap.size+1) 3 (.int .i64 a.sy) (by omega);have HS2:=hid (Yg (Yg (Yg (Yg (HS1.o.trans A5) w.heap.size 2 (.int .i64 b.sx) (Nat.le_refl _)) w.heap.size 3 (.int .i64 b.sy) (Nat.le_refl _)) (w.heap.size+1) 2 (.int .i64 a.sx) (by omega)) (w.heap.size+1) 3 (.int .i64 a.sy) (by omega));obtain ⟨W5,eW5⟩:∃ W,w1.alloc (.cells #[.int .i64 a.sx,.int .i64 a.sy] 54)=W:=⟨_,rfl⟩;have x5:Pb W5 w1.heap.size a.sx a.sy:=by rw [<- eW5]; exact x2
 have p5:Mb W5 w.heap.size a:=by rw [<- eW5]; exact p1.sT A5
 have q5:Mb W5 (w.heap.size+1) b:=by rw [<- eW5]; exact q1.sT A5
 rw [eW5] at p2 q2 r2 s2 HS2;clear A5 x2;go_upto_region 6 with fail;clear eW5 c0 c1 c2 c3 c4 c5 c6 c7 c8 c9 c10 c11 c12 cf d0 d1 d2 d3 d4 d5 d6 d7 d8 d9 d10 d11 d12 df k0 k1 k2 k3 k4 k5 k6 k7 k8 k9 k10 k11 k12 kf l0 l1 l2 l3 l4 l5 l6 l7 l8 l9 l10 l11 l12 lf;obtain ⟨c0,c1,c2,c3,c4,c5,c6,c7,c8,c9,c10,c11,c12,cf⟩:=p5.cells;obtain ⟨d0,d1,d2,d3,d4,d5,d6,d7,d8,d9,d10,d11,d12,df⟩:=q5.cells;obtain ⟨e0,e1,ef⟩:=x5.cells;obtain ⟨W9,eW9⟩:∃ W,(((W5.setCell ⟨w.heap.size,2,none⟩ (.int .i64 b.sx)).setCell ⟨w.heap.size,3,none⟩ (.int .i64 b.sy)).setCell ⟨w.heap.size+1,2,none⟩ (.int .i64 a.sx)).setCell ⟨w.heap.size+1,3,none⟩ (.int .i64 a.sy)=W:=⟨_,rfl⟩;rw [eW9] at p2 q2 r2 s2 HS2;have hne1:w1.heap.size≠w.heap.size:=by omega
 go_upto_region 8 with fail;clear eW9 c0 c1 c2 c3 c4 c5 c6 c7 c8 c9 c10 c11 c12 cf d0 d1 d2 d3 d4 d5 d6 d7 d8 d9 d10 d11 d12 df e0 e1 ef p5 q5 x5;obtain ⟨c0,c1,c2,c3,c4,c5,c6,c7,c8,c9,c10,c11,c12,cf⟩:=p2.cells;obtain ⟨d0,d1,d2,d3,d4,d5,d6,d7,d8,d9,d10,d11,d12,df⟩:=q2.cells;obtain ⟨k0,k1,k2,k3,k4,k5,k6,k7,k8,k9,k10,k11,k12,kf⟩:=r2.cells;obtain ⟨a9,ea9⟩:∃ x:Mv,{ a with sx:=b.sx,sy:=b.sy }=x:=⟨_,rfl⟩;obtain ⟨b9,eb9⟩:∃ x:Mv,{ b with sx:=a.sx,sy:=a.sy }=x:=⟨_,rfl⟩;have p2':Mb W9 w.heap.size a9:=by rw [<- ea9]; exact p2
 have q2':Mb W9 (w.heap.size+1) b9:=by rw [<- eb9]; exact q2
 have HEE:=hid (And.intro ea9 eb9);clear p2 q2 c0 c1 c2 c3 c4 c5 c6 c7 c8 c9 c10 c11 c12 cf d0 d1 d2 d3 d4 d5 d6 d7 d8 d9 d10 d11 d12 df ea9 eb9;obtain ⟨c0,c1,c2,c3,c4,c5,c6,c7,c8,c9,c10,c11,c12,cf⟩:=p2'.cells;obtain ⟨d0,d1,d2,d3,d4,d5,d6,d7,d8,d9,d10,d11,d12,df⟩:=q2'.cells;have hdr:Yc W9 W9.drew:=(Fr.refl _ W9).drew;have p7:=p2'.sT hdr;have q7:=q2'.sT hdr;have r7:=r2.sT hdr;have s7:=s2.sT hdr;have HS7:=hid (HS2.o.trans hdr);obtain ⟨W7,eW7⟩:∃ W,W9.drew=W:=⟨_,rfl⟩;rw [eW7] at p7 q7 r7 s7 HS7;clear hdr c0 c1 c2 c3 c4 c5 c6 c7 c8 c9 c10 c11 c12 cf d0 d1 d2 d3 d4 d5 d6 d7 d8 d9 d10 d11 d12 df k0 k1 k2 k3 k4 k5 k6 k7 k8 k9 k10 k11 k12 kf
 (try clear l0 l1 l2 l3 l4 l5 l6 l7 l8 l9 l10 l11 l12 lf)
 obtain ⟨c0,c1,c2,c3,c4,c5,c6,c7,c8,c9,c10,c11,c12,cf⟩:=p7.cells;obtain ⟨d0,d1,d2,d3,d4,d5,d6,d7,d8,d9,d10,d11,d12,df⟩:=q7.cells;obtain ⟨k0,k1,k2,k3,k4,k5,k6,k7,k8,k9,k10,k11,k12,kf⟩:=r7.cells;have r8:=r7.put (a9.ax) (a9.ay) (a9.sx) (a9.sy) (a9.px) (a9.py) (a9.fc) (a9.hl) (a9.en) (a9.sh) (a9.co) (a9.ou) (a9.sd);have s8:=s7.others (k:=w.heap.size+1+1) (by omega) (a9.ax) (a9.ay) (a9.sx) (a9.sy) (a9.px) (a9.py) (a9.fc) (a9.hl) (a9.en) (a9.sh) (a9.co) (a9.ou) (a9.sd);have q8:=q7.others (k:=w.heap.size+1+1) (by omega) (a9.ax) (a9.ay) (a9.sx) (a9.sy) (a9.px) (a9.py) (a9.fc) (a9.hl) (a9.en) (a9.sh) (a9.co) (a9.ou) (a9.sd);have HS8:=hid (Yg (Yg (Yg (Yg (Yg (Yg (Yg (Yg (Yg (Yg (Yg (Yg (Yg (HS7.o) (w.heap.size+1+1) 0 (.int .i64 a9.ax) (by omega)) (w.heap.size+1+1) 1 (.int .i64 a9.ay) (by omega)) (w.heap.size+1+1) 2 (.int .i64 a9.sx) (by omega)) (w.heap.size+1+1) 3 (.int .i64 a9.sy) (by omega)) (w.heap.size+1+1) 4 (.int .i64 a9.px) (by omega)) (w.heap.size+1+1) 5 (.int .i64 a9.py) (by omega)) (w.heap.size+1+1) 6 (.int .i64 a9.fc) (by omega)) (w.heap.size+1+1) 7 (.int .i64 a9.hl) (by omega)) (w.heap.size+1+1) 8 (.int .i64 a9.en) (by omega)) (w.heap.size+1+1) 9 (.bool a9.sh) (by omega)) (w.heap.size+1+1) 10 (.int .i64 a9.co) (by omega)) (w.heap.size+1+1) 11 (.int .i64 a9.ou) (by omega)) (w.heap.size+1+1) 12 (.int .i64 a9.sd) (by omega));obtain ⟨W8,eW8⟩:∃ W,(((((((((((((W7.setCell ⟨w.heap.size+1+1,0,none⟩ (.int .i64 a9.ax)).setCell ⟨w.heap.size+1+1,1,none⟩ (.int .i64 a9.ay)).setCell ⟨w.heap.size+1+1,2,none⟩ (.int .i64 a9.sx)).setCell ⟨w.heap.size+1+1,3,none⟩ (.int .i64 a9.sy)).setCell ⟨w.heap.size+1+1,4,none⟩ (.int .i64 a9.px)).setCell ⟨w.heap.size+1+1,5,none⟩ (.int .i64 a9.py)).setCell ⟨w.heap.size+1+1,6,none⟩ (.int .i64 a9.fc)).setCell ⟨w.heap.size+1+1,7,none⟩ (.int .i64 a9.hl)).setCell ⟨w.heap.size+1+1,8,none⟩ (.int .i64 a9.en)).setCell ⟨w.heap.size+1+1,9,none⟩ (.bool a9.sh)).setCell ⟨w.heap.size+1+1,10,none⟩ (.int .i64 a9.co)).setCell ⟨w.heap.size+1+1,11,none⟩ (.int .i64 a9.ou)).setCell ⟨w.heap.size+1+1,12,none⟩ (.int .i64 a9.sd))=W:=⟨_,rfl⟩;rw [eW8] at r8 s8 q8 HS8;obtain ⟨e0,e1,e2,e3,e4,e5,e6,e7,e8,e9,e10,e11,e12,ef⟩:=q8.cells;obtain ⟨g0,g1,g2,g3,g4,g5,g6,g7,g8,g9,g10,g11,g12,gf⟩:=s8.cells;go_region
 all_goals
  go_wp2_with fail
  (try simp only [Exit.inBlock,Exit.then])
  refine bodyPost_ret (Kj (r8.others (k:=w.heap.size+1+1+1) (by omega) _ _ _ _ _ _ _ _ _ _ _ _ _ ) (s8.put _ _ _ _ _ _ _ _ _ _ _ _ _ ) rfl _ _ rfl rfl rfl) rfl ⟨by rw [HEE.o.1,HEE.o.2]; rfl, ?_⟩;repeat (first | refine Yg ?_ _ _ _ (by omega) | with_reducible exact HS8.o)
theorem Lz (a b:Mv) (w:World):Ya 66 #[mv a,mv b] w (.tuple #[mv (Zh a b),mv (Zh b a),.int .i64 (Vr (ZR a b))]):=by
 have hc:ZR b a=ZR a b:=by unfold ZR; rw [Bool.and_comm]
 cases he:ZR a b with
 | false =>
  have e1:Zh a b=zM:=by unfold Zh; rw [he]; rfl
  have e2:Zh b a=zM:=by unfold Zh; rw [hc,he]; rfl
  rw [e1,e2];exact Lw a b he w
 | true =>
  by_cases ho:a.ou=0/\b.ou=0
  ·have e1:Zh a b={ a with sx:=b.sx,sy:=b.sy }:=by unfold Zh; rw [if_pos he,if_pos ho]
   have e2:Zh b a={ b with sx:=a.sx,sy:=a.sy }:=by unfold Zh; rw [if_pos (hc.trans he),if_pos ⟨ho.2,ho.1⟩]
   rw [e1,e2];exact Ly a b he (by simpa using ho.1) (by simpa using ho.2) w
  ·have e1:Zh a b=a:=by unfold Zh; rw [if_pos he,if_neg ho]
   have e2:Zh b a=b:=by unfold Zh; rw [if_pos (hc.trans he),if_neg (fun h=>ho ⟨h.2,h.1⟩)]
   rw [e1,e2];exact Lx a b he ho w
theorem L0 (L:List Mv) (Q:List Pk) (T:List (Int × Int)) (ao:Option Addr) (n cap:Nat) (po:Option Addr) (r pcap:Nat) (xo:Option Addr) (t tcap:Nat) (w:World) (hr:RdG KM w ao n L) (hq:RdK w po r Q) (htt:RdG KT w xo t T) (ht:YR L=true) (hf:Zf Q (t:Int)):Calls Tryz.prog 70 #[.slice ao n cap,.slice po r pcap,.slice xo t tcap] w fun e w'=>∃ v,e=.returned (.tuple #[v,.int .i64 0])/\OwG KT 147 w' w.heap.size v (rowS (fun i k=>hP L (pp T (pk Q i).sp.toNat) k) n r)/\Yc w w':=by
 have HL:=hid hr.1;have HR:=hid hr;have HRQ:=hid hq;have HRT:=hid htt;have hn6:n<=6:=by have:=(togB_iff.1 ht).1; have:=hr.1; omega
 have hr8:r<=8:=by have:=hf.2.1; have:=hq.1; omega
 have ht16:t<=16:=by have:=hf.1; omega
 have HSp:=hid (show ∀ i,i<r->0<=(pk Q i).sp/\(pk Q i).sp<(t:Int) from fun i hi=>(hf.2.2 i (by rw [hq.1]; exact hi)).2.2.1);have H:=hid (Vz L ao n cap w hr);have H2:=hid (fun u hu=>UC Q (t:Int) po r pcap u hu);rw [ht] at H;rw [U1 hf] at H2;clear hr ht hq htt hf;obtain ⟨P,eP⟩:∃ P,(fun i k=>hP L (pp T (pk Q i).sp.toNat) k)=P:=⟨_,rfl⟩;have HP:=hid (show ∀ i k,P i k=hP L (pp T (pk Q i).sp.toNat) k from fun i k=>by rw [<- eP]);rw [eP];clear eP;go_enter Tryz.func70,Tryz.ntmps70;go_wp2_with fail;refine H.o.mono ?_;rintro e w0 ⟨rfl,h0⟩;have HS0:=hid h0;clear h0 H;go_wp2_with fail;refine (H2.o _ (HRQ.o.sT HS0.o)).mono ?_;rintro e w1 ⟨rfl,h1⟩;have HS1:=hid (HS0.o.trans h1);have HZ:=hid HS1.o.size;clear h1 H2 HS0;go_wp2_with fail;go_loopw [10,11] (fun v u wr=>∃ i:Nat,i<=r/\u=.int .i64 (i:Int)/\OwG KT 147 wr w1.heap.size v (rowS P n i)/\Yc w1 wr) (fun _ u _=>r - (intOf u).toNat);case atStart=>exact ⟨0,by omega,rfl,OwG.nil _ _,Fr.refl _ _⟩
 case round =>
  obtain ⟨i,hi,rfl,ho,hs⟩:=hrel;have HS2:=hid hs;have HO2:=hid ho;clear hs;obtain ⟨ao2,cap2,rfl,_⟩:=ho.slice;clear ho;have HLn:=hid (show (rowS P n i).length<=100000 by have:=Jf P n i; omega);obtain ⟨m2,em2⟩:∃ m,(rowS P n i).length=m:=⟨_,rfl⟩;rw [em2] at HO2 ⊢;clear em2;by_cases hin:i<r
  ·have hlt:(i:Int)<(r:Int):=by omega
   have HRow:Hid (rowS P n (i+1)=rowS P n i ++ (if 0<=lo (P i) 0 n then [((i:Int),lo (P i) 0 n)] else [])):=hid rfl;have HRq:=hid ((HRQ.o.sT HS1.o).sT HS2.o);have HRt:=hid ((HRT.o.sT HS1.o).sT HS2.o);obtain ⟨sp,esp⟩:∃ c:Nat,(pk Q i).sp=(c:Int):=⟨(pk Q i).sp.toNat,by have:=(HSp.o i hin).1; omega⟩;have hspt:sp<t:=by have:=(HSp.o i hin).2; omega
   have hspi:(sp:Int)<(t:Int):=by omega
   obtain ⟨B2,o2,rfl⟩:∃ B o,po=some ⟨B,o,none⟩:=by
    obtain ⟨B,o,e,_⟩:=HRq.o.at (by omega);exact ⟨B,o,e⟩
   obtain ⟨B3,o3,rfl⟩:=HRt.o.at (by omega);obtain ⟨_,q1,_⟩:=HRq.o.get hin;obtain ⟨t0,t1⟩:=rdP HRt.o hspt;rw [esp] at q1;have HPi:Hid (∀ k,P i k=(((mm L k).ou == 0) && ov (mm L k) (pp T sp).1 (pp T sp).2 768)):=hid (fun k=>by rw [HP.o i k,esp,Int.toNat_natCast]; rfl);have HA:=hid (fun w=>K4 (pp T sp).1 (pp T sp).2 768 w);rw [Le] at HA;obtain ⟨px,ex⟩:∃ z,(pp T sp).1=z:=⟨_,rfl⟩;obtain ⟨py,ey⟩:∃ z,(pp T sp).2=z:=⟨_,rfl⟩;rw [ex] at t0 HPi HA;rw [ey] at t1 HPi HA;clear esp ex ey;have HOv:Hid (∀ k,ov (mm L k) px py 768=mt (Ys (mm L k).ax 1280) (Ys (mm L k).ay 1280) (Yj (mm L k).ax 1280) (Yj (mm L k).ay 1280) (Ys px 768) (Ys py 768) (Yj px 768) (Yj py 768)):=hid (fun k=>rfl);obtain ⟨y1,e1⟩:∃ z,Ys px 768=z:=⟨_,rfl⟩;obtain ⟨y2,e2⟩:∃ z,Ys py 768=z:=⟨_,rfl⟩;obtain ⟨y3,e3⟩:∃ z,Yj px 768=z:=⟨_,rfl⟩;obtain ⟨y4,e4⟩:∃ z,Yj py 768=z:=⟨_,rfl⟩;rw [e1,e2,e3,e4] at HA HOv;clear e1 e2 e3 e4;go_wp2_with fail;refine (HA.o _).mono ?_;rintro e w2 ⟨rfl,h2⟩;have A2:=aL w2 (.cells #[.int .i64 y1,.int .i64 y2,.int .i64 y3,.int .i64 y4] 194);have bb:=Y4 w2 y1 y2 y3 y4;have HS3:=hid ((HS2.o.trans h2).trans A2);have HO3:=hid ((HO2.o.sT h2).sT A2);clear h2 A2 HS2 HO2 q1 t0 t1 HA HRq HRt;obtain ⟨g,eg⟩:∃ g,w2.heap.size=g:=⟨_,rfl⟩;have HBB:Hid (Bb (w2.alloc (.cells #[.int .i64 y1,.int .i64 y2,.int .i64 y3,.int .i64 y4] 194)) g y1 y2 y3 y4):=hid (by rw [<- eg]; exact bb);clear bb;go_wp2_with fail;clear eg;go_loopw [12,14] (fun v u wr=>∃ j:Nat,j<=n/\v=.int .i64 (lo (P i) j (n - j))/\u=.int .i64 ((j:Int) - 1)/\Bb wr g y1 y2 y3 y4/\OwG KT 147 wr w1.heap.size (.slice ao2 m2 cap2) (rowS P n i)/\Yc w1 wr) (fun _ u _=>(intOf u+1).toNat);case atStart=>exact ⟨n,Nat.le_refl _,by rw [Nat.sub_self]; rfl,by go_num,HBB.o,HO3.o,HS3.o⟩
   case round =>
    clear HO3 HS3 HBB;obtain ⟨j,hj,rfl,rfl,bb,ho,hs⟩:=hrel;have HS2:=hid hs;have HO2:=hid ho;clear hs ho;by_cases hj0:0<j
    ·obtain ⟨k,rfl⟩:∃ k,j=k+1:=⟨j - 1,by omega⟩;rw [show ((k+1:Nat):Int) - 1=(k:Int) by omega];have hkn:k<n:=by omega
     have hlt2:(k:Int)<(n:Int):=by omega
     have HLo:=hid (Dx (P i) hkn);obtain ⟨at0,eat⟩:∃ z,lo (P i) (k+1) (n - (k+1))=z:=⟨_,rfl⟩;rw [eat] at HLo ⊢;clear eat;have HRr:=hid ((HR.o.sT HS1.o).sT HS2.o);obtain ⟨B,o,rfl⟩:=HRr.o.at (by omega);obtain ⟨c0,c1,c2,c3,c4,c5,c6,c7,c8,c9,c10,c11,c12⟩:=rdM HRr.o hkn;obtain ⟨b0,b1,b2,b3,bf⟩:=bb.cells;have HC:=hid (fun u (hu:Yc wr u)=>(rdM (HRr.o.sT hu) hkn).2.2.2.2.2.2.2.2.2.2.2.1);have HB1:=hid (fun w=>Kl (mm L k) w);have HT2:=hid (HPi.o k);rw [HOv.o k] at HT2;obtain ⟨x,ex⟩:∃ x,mm L k=x:=⟨_,rfl⟩;rw [ex] at c0 c1 c2 c3 c4 c5 c6 c7 c8 c9 c10 c11 c12 HC HB1 HT2;clear ex;have HV:=hid (fun w=>WN (Ys x.ax 1280) (Ys x.ay 1280) (Yj x.ax 1280) (Yj x.ay 1280) y1 y2 y3 y4 w);obtain ⟨bo,ebo⟩:∃ b,mt (Ys x.ax 1280) (Ys x.ay 1280) (Yj x.ax 1280) (Yj x.ay 1280) y1 y2 y3 y4=b:=⟨_,rfl⟩;rw [ebo] at HV HT2;clear ebo;obtain ⟨x1,e1⟩:∃ z,Ys x.ax 1280=z:=⟨_,rfl⟩;obtain ⟨x2,e2⟩:∃ z,Ys x.ay 1280=z:=⟨_,rfl⟩;obtain ⟨x3,e3⟩:∃ z,Yj x.ax 1280=z:=⟨_,rfl⟩;obtain ⟨x4,e4⟩:∃ z,Yj x.ay 1280=z:=⟨_,rfl⟩;rw [e1,e2,e3,e4] at HB1 HV;clear e1 e2 e3 e4;have k0:=kC c0;have k1:=kC c1;have k2:=kC c2;have k3:=kC c3;have k4:=kC c4;have k5:=kC c5;have k6:=kC c6;have k7:=kC c7;have k8:=kC c8;have k9:=kC c9;have k10:=kC c10;have k11:=kC c11;have k12:=kC c12;have l0:=kC b0;have l1:=kC b1;have l2:=kC b2;have l3:=kC b3;have hne:=Aft.here wr;clear c0 c1 c2 c3 c4 c5 c6 c7 c8 c9 c10 c11 c12 b0 b1 b2 b3 bf;go_wp2_with fail;refine Yo (by kernel_rfl) (by kernel_rfl) ?_;repeat (go_big_quiet_step ((first | (go_at_call 119; with_reducible exact Calls.cl (HB1.o _)) | (go_at_call 118; with_reducible exact Calls.cl (HV.o _)))))
     refine wpQuiet_nil ?_;intro w3 h3;have c:=HC.o _ h3;have HS3:=hid (HS2.o.trans h3);have HO3:=hid (HO2.o.sT h3);have HBB:=hid (bb.sT h3);clear h3 hne k0 k1 k2 k3 k4 k5 k6 k7 k8 k9 k10 k11 k12 l0 l1 l2 l3 HS2 HO2 HB1 HV HC HRr bb;obtain ⟨p,ep⟩:∃ p,x.ou=p:=⟨_,rfl⟩;rw [ep] at c HT2;clear ep;have HK0:Hid (P i k=false->lo (P i) k (n - k)=at0):=hid (fun h=>by rw [HLo.o,h]; rfl);have HK1:Hid (P i k=true->lo (P i) k (n - k)=(k:Int)):=hid (fun h=>by rw [HLo.o,h]; rfl);cases hp:p == 0 with
     | false =>
      have HK:=hid (HK0.o (by rw [HT2.o,hp]; rfl));clear HK0 HK1 HT2 HLo;go_wp2_with fail;go_roundw;case rel=>exact ⟨k,by omega,by rw [HK.o],by go_num,HBB.o,HO3.o,HS3.o⟩
      case measure=>first | (simp [intOf]; done) | (simp [intOf]; omega)
     | true =>
      cases bo with
      | false =>
       have HK:=hid (HK0.o (by rw [HT2.o,hp]; rfl));clear HK0 HK1 HT2 HLo;go_wp2_with fail;go_roundw;case rel=>exact ⟨k,by omega,by rw [HK.o],by go_num,HBB.o,HO3.o,HS3.o⟩
       case measure=>first | (simp [intOf]; done) | (simp [intOf]; omega)
      | true =>
       have HK:=hid (HK1.o (by rw [HT2.o,hp]; rfl));clear HK0 HK1 HT2 HLo;go_wp2_with fail;go_roundw;case rel=>exact ⟨k,by omega,by rw [HK.o],by go_num,HBB.o,HO3.o,HS3.o⟩
       case measure=>first | (simp [intOf]; done) | (simp [intOf]; omega)
    ·obtain rfl:j=0:=by omega
     rw [show ((0:Nat):Int) - 1=-1 by omega,Nat.sub_zero];obtain ⟨z,ez⟩:∃ z,lo (P i) 0 n=z:=⟨_,rfl⟩;rw [ez] at HRow ⊢;clear ez hj0 bb;have hz3:w1.heap.size<=wr.heap.size:=HS2.o.size;by_cases hz0:0<=z
     ·have hz1:z ≥ 0:=hz0;have HK:Hid (rowS P n (i+1)=rowS P n i ++ [((i:Int),z)]):=hid (by rw [HRow.o,if_pos hz0]);have A4:=aL wr (.cells #[.int .i64 (i:Int),.int .i64 z] 147);have HS4:=hid (HS2.o.trans A4);have HO4:=hid (HO2.o.sT A4);have HX4:Hid ((wr.alloc (.cells #[.int .i64 (i:Int),.int .i64 z] 147)).heap[wr.heap.size]?=some (.cells #[.int .i64 (i:Int),.int .i64 z] 147 (0,0))):=hid (heap_alloc_new wr _);have HB4:=hid (show w1.heap.size<=(wr.alloc (.cells #[.int .i64 (i:Int),.int .i64 z] 147)).heap.size by rw [Yf]; omega);clear A4 HRow;go_wp2_with (at_builtin; refine Ql _ rfl _ _ rfl w1.heap.size wr.heap.size _ (rowS P n i) (i:Int) z rfl rfl HO4.o HX4.o HLn.o HB4.o ?_; intro v' w' ho' hf');go_roundw;case rel=>exact ⟨i+1,by omega,by go_num,by rw [HK.o]; exact ho',Zy HS4.o HO4.o hf' (Nat.le_refl _)⟩
      case measure=>first | (simp [intOf]; done) | (simp [intOf]; omega)
     ·have hz1:¬ z ≥ 0:=hz0;have HK:Hid (rowS P n (i+1)=rowS P n i):=hid (by rw [HRow.o,if_neg hz0,List.append_nil]);clear HRow;go_wp2_with fail;go_roundw;case rel=>exact ⟨i+1,by omega,by go_num,by rw [HK.o]; exact HO2.o,HS2.o⟩
      case measure=>first | (simp [intOf]; done) | (simp [intOf]; omega)
  ·have hge:¬ (i:Int)<(r:Int):=by omega
   have HE:Hid (rowS P n r=rowS P n i):=hid (by congr; omega);clear hin;go_wp2_with fail;go_ret2
   exact ⟨_,rfl,by rw [HE.o]; exact HO2.o.less HZ.o,HS1.o.trans HS2.o⟩
theorem L5 (L:List Mv) (Q:List Pk) (T:List (Int × Int)) (ao:Option Addr) (n cap:Nat) (po:Option Addr) (r pcap:Nat) (xo:Option Addr) (t tcap:Nat) (w:World) (hr:RdG KM w ao n L) (hq:RdK w po r Q) (htt:RdG KT w xo t T):Calls Tryz.prog 70 #[.slice ao n cap,.slice po r pcap,.slice xo t tcap] w fun e w'=>∃ v,e=.returned (.tuple #[v,.int .i64 (Vr (U4 L Q T))])/\OwG KT 147 w' w.heap.size v (pic L Q T)/\Yc w w':=by
 have htl:=htt.1;cases he:U4 L Q T with
 | true =>
  have h:=he;unfold U4 at h;rw [Bool.and_eq_true,htl] at h;have e:pic L Q T=rowS (fun i k=>hP L (pp T (pk Q i).sp.toNat) k) n r:=by unfold pic; rw [he,hr.1,hq.1]; rfl
  rw [e];exact L0 L Q T ao n cap po r pcap xo t tcap w hr hq htt h.1 (mayK_iff.1 h.2)
 | false =>
  have HE:Hid (pic L Q T=[]):=hid (by unfold pic; rw [he]; rfl);have H:=hid (Vz L ao n cap w hr);have H2:=hid (fun u hu=>UC Q (t:Int) po r pcap u hu);have HRQ:=hid hq;have ht48:=htt.2.1;have HB:Hid ((YR L && XS Q (t:Int))=false):=hid (by rw [<- htl]; exact he);obtain ⟨a,ea⟩:∃ b,YR L=b:=⟨_,rfl⟩;obtain ⟨E,eE⟩:∃ E,YH Q (t:Int)=E:=⟨_,rfl⟩;have HE2:Hid (a=true->E=100):=hid (fun h=>by
   have hb:=HB.o;rw [ea,h,Bool.true_and] at hb;rw [<- eE];unfold YH;rw [hb];rfl)
  rw [ea] at H;rw [eE] at H2;clear he hr hq htt ea eE htl HB;go_enter Tryz.func70,Tryz.ntmps70;go_wp2_with fail;refine H.o.mono ?_;rintro e w1 ⟨rfl,h1⟩;have HS1:=hid h1;clear h1 H;go_wp2_with fail;refine (H2.o _ (HRQ.o.sT HS1.o)).mono ?_;rintro e w2 ⟨rfl,h2⟩;have HS2:=hid (HS1.o.trans h2);clear h2 H2 HS1;cases a with
  | false =>
   clear HE2;go_wp2_with fail;go_ret2
   exact ⟨_,rfl,by rw [HE.o]; exact OwG.nil _ _,HS2.o⟩
  | true =>
   obtain rfl:=HE2.o rfl;clear HE2;go_wp2_with fail;go_ret2
   exact ⟨_,rfl,by rw [HE.o]; exact OwG.nil _ _,HS2.o⟩
end Go.Proofs.YthcjckgmdokmdaaGreatDoor
