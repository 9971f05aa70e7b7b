import Derived.Test.YthcjckgmdokmdaaGreatDoorXQ02
import Derived.Deep.RegionHeld3
set_option maxHeartbeats 4000000
namespace Go.Proofs.YthcjckgmdokmdaaGreatDoor
open Go.RowKit
open Pu Gp Ap Vp Np Za
set_option maxRecDepth 100000
theorem UF (n l h:Int) (w:World):Yb 199 #[.int .i64 n,.int .i64 l,.int .i64 h] w (.bool (amg n l h)):=by
 unfold amg;by_cases h1:l<=n
 ·go_enter Tryz.func199,Tryz.ntmps199;go_wp2_with fail;go_ret;exact ⟨by simp [h1],rfl⟩
 ·have e:decide (l<=n)=false:=by simpa using h1
  rw [e];go_enter Tryz.func199,Tryz.ntmps199;go_wp2_with fail;go_ret;exact ⟨rfl,rfl⟩
theorem Ij (n:Int) (w:World):Yb 198 #[.int .i64 n] w (.bool (amg n 1 3)):=by
 have H:=hid (fun w=>UF n 1 3 w);obtain ⟨b,eb⟩:∃ b,amg n 1 3=b:=⟨_,rfl⟩;rw [eb] at H ⊢;clear eb;go_enter Tryz.func198,Tryz.ntmps198;go_wp2_with fail;refine (H.o _).mono ?_;rintro e w2 ⟨he,hw⟩;rw [he,hw];clear he hw w2;go_wp2_with fail;go_ret;exact ⟨rfl,rfl⟩
theorem Ik (n:Int) (w:World):Yb 197 #[.int .i64 n] w (.bool (amg n 0 5)):=by
 have H:=hid (fun w=>UF n 0 5 w);obtain ⟨b,eb⟩:∃ b,amg n 0 5=b:=⟨_,rfl⟩;rw [eb] at H ⊢;clear eb;go_enter Tryz.func197,Tryz.ntmps197;go_wp2_with fail;refine (H.o _).mono ?_;rintro e w2 ⟨he,hw⟩;rw [he,hw];clear he hw w2;go_wp2_with fail;go_ret;exact ⟨rfl,rfl⟩
theorem Il (n:Int) (w:World):Yb 196 #[.int .i64 n] w (.bool (amg n 1 1099511627776)):=by
 have H:=hid (fun w=>UF n 1 1099511627776 w);obtain ⟨b,eb⟩:∃ b,amg n 1 1099511627776=b:=⟨_,rfl⟩;rw [eb] at H ⊢;clear eb;go_enter Tryz.func196,Tryz.ntmps196;go_wp2_with fail;refine (H.o _).mono ?_;rintro e w2 ⟨he,hw⟩;rw [he,hw];clear he hw w2;go_wp2_with fail;go_ret;exact ⟨rfl,rfl⟩
def Pl (w:World) (g:Nat) (m:Sh):Prop:=w.heap[g]?=some (.cells (scs m) 240 (0,0))
theorem Pl.cells {w:World} {g:Nat} {m:Sh} (h:Pl w g m):w.cell? ⟨g,0,none⟩=some (.int .i64 m.no)/\w.cell? ⟨g,1,none⟩=some (.int .i64 m.ow)/\w.cell? ⟨g,2,none⟩=some (.int .i64 m.pw)/\w.cell? ⟨g,3,none⟩=some (.int .i64 m.ax)/\w.cell? ⟨g,4,none⟩=some (.int .i64 m.ay)/\w.cell? ⟨g,5,none⟩=some (.int .i64 m.sx)/\w.cell? ⟨g,6,none⟩=some (.int .i64 m.sy)/\w.cell? ⟨g,7,none⟩=some (.int .i64 m.lf)/\∀ o,w.frozen? ⟨g,o,none⟩=false:=by
 refine ⟨?_, ?_, ?_, ?_, ?_, ?_, ?_, ?_,fun o=>frozen_of_row w g o _ _ h⟩ <;> (rw [cell_of_row _ _ _ _ _ _ h]; rfl)
abbrev Qy (w:World) (m:Sh):World:=w.alloc (.cells (scs m) 240)
theorem Im (w:World) (m:Sh):Pl (Qy w m) w.heap.size m:=heap_alloc_new w _
theorem Io (s:Sh):Zd s=(amg s.no 1 1099511627776 && amg s.ow 0 5 && amg s.pw 1 3 && (bnd s.ax == s.ax && bnd s.ay == s.ay) && amg s.sx (-1536) 1536 && amg s.sy (-1536) 1536 && amg s.lf 1 40):=by
 rw [Bool.eq_iff_iff,maySB_iff];unfold amg ZH;simp only [Bool.and_eq_true,beq_iff_eq,KR,decide_eq_true_eq];omega
theorem Ip (s:Sh) (b0 b1 b2 b3 b4 b5 b6 r:Bool) (HE:∀ w,(binOp .eql 54 (pt (bnd s.ax) (bnd s.ay)) (pt s.ax s.ay)).run Tryz.prog w=.ok (.bool b3) w)
  (H0:Hid (∀ w,Yb 196 #[.int .i64 s.no] w (.bool b0)))
  (H1:Hid (∀ w,Yb 197 #[.int .i64 s.ow] w (.bool b1)))
  (H2:Hid (∀ w,Yb 198 #[.int .i64 s.pw] w (.bool b2)))
  (H4:Hid (∀ w,Yb 199 #[.int .i64 s.sx,.int .i64 (-1536),.int .i64 1536] w (.bool b4)))
  (H5:Hid (∀ w,Yb 199 #[.int .i64 s.sy,.int .i64 (-1536),.int .i64 1536] w (.bool b5)))
  (H6:Hid (∀ w,Yb 199 #[.int .i64 s.lf,.int .i64 1,.int .i64 40] w (.bool b6)))
  (h:(b0=false/\r=false)\/(b0=true/\b1=false/\r=false)\/(b0=true/\b1=true/\b2=false/\r=false)\/(b0=true/\b1=true/\b2=true/\b3=false/\r=false)\/(b0=true/\b1=true/\b2=true/\b3=true/\b4=false/\r=false)\/(b0=true/\b1=true/\b2=true/\b3=true/\b4=true/\b5=false/\r=false)\/(b0=true/\b1=true/\b2=true/\b3=true/\b4=true/\b5=true/\r=b6)) (w:World) :
  Ya 173 #[sv s] w (.bool r):=by
 obtain ⟨W,eW⟩:∃ W,W=Qy w s:=⟨_,rfl⟩;have p:Pl W w.heap.size s:=by rw [eW]; exact Im w s
 have HS0:=hid (show Yc w W by rw [eW]; exact aL w _);have HW:=hid eW;clear eW;have G1:=Ve;have HG:=hid (fun w=>Ge s.ax s.ay w);obtain ⟨c0,c1,c2,c3,c4,c5,c6,c7,cf⟩:=p.cells;have k0:=kC c0;have k1:=kC c1;have k2:=kC c2;have k3:=kC c3;have k4:=kC c4;have k5:=kC c5;have k6:=kC c6;have k7:=kC c7;have hne:=Aft.here W;clear c0 c1 c2 c3 c4 c5 c6 c7 cf p;rcases h with ⟨rfl,rfl⟩ | ⟨rfl,rfl,rfl⟩ | ⟨rfl,rfl,rfl,rfl⟩ | ⟨rfl,rfl,rfl,rfl,rfl⟩ | ⟨rfl,rfl,rfl,rfl,rfl,rfl⟩ | ⟨rfl,rfl,rfl,rfl,rfl,rfl,rfl⟩ | ⟨rfl,rfl,rfl,rfl,rfl,rfl,rfl⟩;all_goals
  go_enter Tryz.func173,Tryz.ntmps173;go_wp2_with fail;have e:=HW.o;simp only [Qy] at e;rw [<- e];clear e HW;refine Yo (by kernel_rfl) (by kernel_rfl) ?_;repeat (go_big_quiet_step ((first | (go_at_call 189; exact Calls.cl (HG.o _)) | (go_at_call 196; with_reducible exact Calls.cl_same (H0.o _)) | (go_at_call 197; with_reducible exact Calls.cl_same (H1.o _)) | (go_at_call 198; with_reducible exact Calls.cl_same (H2.o _)) | (go_at_call 199; with_reducible exact Calls.cl_same (H4.o _)) | (go_at_call 199; with_reducible exact Calls.cl_same (H5.o _)) | (go_at_call 199; with_reducible exact Calls.cl_same (H6.o _)))))
  refine wpQuiet_nil ?_;intro w1 hs;go_wp2_with fail;go_ret;exact ⟨rfl,HS0.o.trans hs⟩
theorem Iq (s:Sh) (w:World):Ya 173 #[sv s] w (.bool (Zd s)):=by
 refine Ip s (amg s.no 1 1099511627776) (amg s.ow 0 5) (amg s.pw 1 3) ((bnd s.ax == s.ax && bnd s.ay == s.ay)) (amg s.sx (-1536) 1536) (amg s.sy (-1536) 1536) (amg s.lf 1 40) (Zd s) (Jx (bnd s.ax) (bnd s.ay) s.ax s.ay) (hid (Il _)) (hid (Ik _)) (hid (Ij _)) (hid (UF _ _ _)) (hid (UF _ _ _)) (hid (UF _ _ _)) ?_ w;rw [Io];generalize amg s.no 1 1099511627776=b0;generalize amg s.ow 0 5=b1;generalize amg s.pw 1 3=b2;generalize (bnd s.ax == s.ax && bnd s.ay == s.ay)=b3;generalize amg s.sx (-1536) 1536=b4;generalize amg s.sy (-1536) 1536=b5;generalize amg s.lf 1 40=b6;revert b0 b1 b2 b3 b4 b5 b6;decide
theorem Ir (s:Sh) (w:World):Ya 138 #[sv s] w (.int .i64 (Yx s)):=by
 have p0:=ZB w s;have HS0:=hid (aL w (.cells (scs s) 122));have H1:=hid (fun w=>Iq s w);have HC:Hid (Yx s=if Zd s then 0 else 90):=hid rfl;obtain ⟨a,ea⟩:∃ b,Zd s=b:=⟨_,rfl⟩;rw [ea] at H1 HC;clear ea;obtain ⟨c0,c1,c2,c3,c4,c5,c6,c7,cf⟩:=p0.cells;go_enter Tryz.func138,Tryz.ntmps138;go_wp2_with fail;refine (H1.o _).mono ?_;rintro e w1 ⟨rfl,h1⟩;have HS1:=hid (HS0.o.trans h1);clear h1 HS0 p0 c0 c1 c2 c3 c4 c5 c6 c7 cf;cases a with
 | false =>
  go_wp2_with fail;go_ret;exact ⟨by rw [HC.o]; rfl,HS1.o⟩
 | true =>
  go_wp2_with fail;go_ret;exact ⟨by rw [HC.o]; rfl,HS1.o⟩
theorem Is (m:Mv) (ow pw no:Int) (hm:Yq m=false) (w:World):Ya 62 #[mv m,.int .i64 ow,.int .i64 pw,.int .i64 no] w (.tuple #[sv zS,.int .i64 80]):=by
 have A0:=aL w (.cells (mcs m) 56);have A1:=aL (Ye w m) (.cells (scs zS) 122);have p0:=(Yk w m).sT A1;have q0:=ZB (Ye w m) zS;simp only [Yf] at q0;have HS0:=hid (A0.trans A1);clear A0 A1;obtain ⟨c0,c1,c2,c3,c4,c5,c6,c7,c8,c9,c10,c11,c12,cf⟩:=p0.cells;have H:=hid (fun w=>Y7 m w);rw [show Yi m=80 by unfold Yi; rw [hm]; rfl] at H;clear hm;go_enter Tryz.func62,Tryz.ntmps62;go_wp2_with fail;refine (H.o _).mono ?_;rintro e w1 ⟨rfl,h1⟩;have p1:=p0.sT h1;have q1:=q0.sT h1;have HS1:=hid (HS0.o.trans h1);clear h1 HS0 p0 q0 c0 c1 c2 c3 c4 c5 c6 c7 c8 c9 c10 c11 c12 cf H;obtain ⟨c0,c1,c2,c3,c4,c5,c6,c7,c8,c9,c10,c11,c12,cf⟩:=p1.cells;obtain ⟨k0,k1,k2,k3,k4,k5,k6,k7,kf⟩:=q1.cells;go_wp2_with fail;refine bodyPost_ret (Sb.rest (Sb.put q1 _ _ _ _ _ _ _ _) rfl _ _ rfl rfl) rfl ⟨rfl, ?_⟩;repeat (first | refine Yg ?_ _ _ _ (by omega) | with_reducible exact HS1.o)
theorem It (m:Mv) (ow pw no:Int) (hm:Yq m=true) (ha:Uc ow pw no=false) (w:World):Ya 62 #[mv m,.int .i64 ow,.int .i64 pw,.int .i64 no] w (.tuple #[sv zS,.int .i64 1]):=by
 have HA:Hid (¬ ow<0->¬ ow > 5->¬ pw<1->¬ pw > 3->¬ no<1->no > 1099511627776):=hid (fun h1 h2 h3 h4 h5=>by
  cases h:decide (no > 1099511627776) with
  | true=>simpa using h
  | false =>
   have h6:¬ no > 1099511627776:=by simpa using h
   have:=argB_iff.2 (show (0<=ow/\ow<=5)/\(1<=pw/\pw<=3)/\1<=no/\no<=1099511627776 by omega);rw [this] at ha;cases ha)
 clear ha;have A0:=aL w (.cells (mcs m) 56);have A1:=aL (Ye w m) (.cells (scs zS) 122);have p0:=(Yk w m).sT A1;have q0:=ZB (Ye w m) zS;simp only [Yf] at q0;have HS0:=hid (A0.trans A1);clear A0 A1;obtain ⟨c0,c1,c2,c3,c4,c5,c6,c7,c8,c9,c10,c11,c12,cf⟩:=p0.cells;have H:=hid (fun w=>Y7 m w);rw [show Yi m=0 by unfold Yi; rw [hm]; rfl] at H;clear hm;go_enter Tryz.func62,Tryz.ntmps62;go_wp2_with fail;refine (H.o _).mono ?_;rintro e w1 ⟨rfl,h1⟩;have p1:=p0.sT h1;have q1:=q0.sT h1;have HS1:=hid (HS0.o.trans h1);clear h1 HS0 p0 q0 c0 c1 c2 c3 c4 c5 c6 c7 c8 c9 c10 c11 c12 cf H;obtain ⟨c0,c1,c2,c3,c4,c5,c6,c7,c8,c9,c10,c11,c12,cf⟩:=p1.cells;obtain ⟨k0,k1,k2,k3,k4,k5,k6,k7,kf⟩:=q1.cells;by_cases g0:ow<0
 ·go_wp2_with fail;refine bodyPost_ret (Sb.rest (Sb.put q1 _ _ _ _ _ _ _ _) rfl _ _ rfl rfl) rfl ⟨rfl, ?_⟩;repeat (first | refine Yg ?_ _ _ _ (by omega) | with_reducible exact HS1.o)
 ·skip
  by_cases g1:ow > 5
  ·go_wp2_with fail;refine bodyPost_ret (Sb.rest (Sb.put q1 _ _ _ _ _ _ _ _) rfl _ _ rfl rfl) rfl ⟨rfl, ?_⟩;repeat (first | refine Yg ?_ _ _ _ (by omega) | with_reducible exact HS1.o)
  ·skip
   by_cases g2:pw<1
   ·go_wp2_with fail;refine bodyPost_ret (Sb.rest (Sb.put q1 _ _ _ _ _ _ _ _) rfl _ _ rfl rfl) rfl ⟨rfl, ?_⟩;repeat (first | refine Yg ?_ _ _ _ (by omega) | with_reducible exact HS1.o)
   ·skip
    by_cases g3:pw > 3
    ·go_wp2_with fail;refine bodyPost_ret (Sb.rest (Sb.put q1 _ _ _ _ _ _ _ _) rfl _ _ rfl rfl) rfl ⟨rfl, ?_⟩;repeat (first | refine Yg ?_ _ _ _ (by omega) | with_reducible exact HS1.o)
    ·skip
     by_cases g4:no<1
     ·go_wp2_with fail;refine bodyPost_ret (Sb.rest (Sb.put q1 _ _ _ _ _ _ _ _) rfl _ _ rfl rfl) rfl ⟨rfl, ?_⟩;repeat (first | refine Yg ?_ _ _ _ (by omega) | with_reducible exact HS1.o)
     ·skip
      have g5:no > 1099511627776:=HA.o (by omega) (by omega) (by omega) (by omega) (by omega);go_wp2_with fail;refine bodyPost_ret (Sb.rest (Sb.put q1 _ _ _ _ _ _ _ _) rfl _ _ rfl rfl) rfl ⟨rfl, ?_⟩;repeat (first | refine Yg ?_ _ _ _ (by omega) | with_reducible exact HS1.o)
theorem Iu (m:Mv) (ow pw no:Int) (hm:Yq m=true) (a0:¬ ow<0) (a1:¬ ow > 5) (a2:¬ pw<1) (a3:¬ pw > 3) (a4:¬ no<1) (a5:decide (1099511627776<no)=false) (U V:Int) (eU:ux (dir m.fc)=U) (eV:uy (dir m.fc)=V) (w:World) (ht:RTab w):Ya 62 #[mv m,.int .i64 ow,.int .i64 pw,.int .i64 no] w (.tuple #[sv ⟨no,ow,pw,Yj m.ax (Yw U 1792),Yj m.ay (Yw V 1792),Yw U (256*(7 - pw)),Yw V (256*(7 - pw)),40⟩,.int .i64 0]):=by
  obtain ⟨X,eX⟩:∃ X,Yj m.ax (Yw U 1792)=X:=⟨_,rfl⟩;obtain ⟨Y,eY⟩:∃ Y,Yj m.ay (Yw V 1792)=Y:=⟨_,rfl⟩;have HAd:=hid (fun u=>VT m.ax m.ay (Yw U 1792) (Yw V 1792) u);rw [eX,eY] at HAd ⊢;clear eX eY;have A0:=aL w (.cells (mcs m) 56);have A1:=aL (Ye w m) (.cells (scs zS) 122);have p0:=(Yk w m).sT A1;have q0:=ZB (Ye w m) zS;simp only [Yf] at q0;have HS0:=hid (A0.trans A1);clear A0 A1;obtain ⟨c0,c1,c2,c3,c4,c5,c6,c7,c8,c9,c10,c11,c12,cf⟩:=p0.cells;have H:=hid (fun w=>Y7 m w);rw [show Yi m=0 by unfold Yi; rw [hm]; rfl] at H;have HU:=hid (fun u (hu:Yc w u)=>Gn m.fc u (ht.sT hu));rw [eU,eV] at HU;clear hm ht eU eV;go_enter Tryz.func62,Tryz.ntmps62;go_wp2_with fail;refine (H.o _).mono ?_;rintro e w1 ⟨rfl,h1⟩;have p1:=p0.sT h1;have q1:=q0.sT h1;have HS1:=hid (HS0.o.trans h1);clear h1 HS0 p0 q0 c0 c1 c2 c3 c4 c5 c6 c7 c8 c9 c10 c11 c12 cf H;obtain ⟨c0,c1,c2,c3,c4,c5,c6,c7,c8,c9,c10,c11,c12,cf⟩:=p1.cells;obtain ⟨k0,k1,k2,k3,k4,k5,k6,k7,kf⟩:=q1.cells;go_wp2_with fail;refine (HU.o _ HS1.o).mono ?_;rintro e w2 ⟨rfl,h2⟩;have A2:=aL w2 (.cells #[.int .i64 U,.int .i64 V] 54);have p2:=(p1.sT h2).sT A2;have q2:=(q1.sT h2).sT A2;have u2:Pb (w2.alloc (.cells #[.int .i64 U,.int .i64 V] 54)) w2.heap.size U V:=Yp w2 U V;have HS2:=hid ((HS1.o.trans h2).trans A2);clear h2 A2 HS1 p1 q1 HU c0 c1 c2 c3 c4 c5 c6 c7 c8 c9 c10 c11 c12 cf k0 k1 k2 k3 k4 k5 k6 k7 kf;obtain ⟨W,eW⟩:∃ W,w2.alloc (.cells #[.int .i64 U,.int .i64 V] 54)=W:=⟨_,rfl⟩;rw [eW] at p2 q2 u2 HS2;go_upto_region 7 with fail;clear eW;obtain ⟨c0,c1,c2,c3,c4,c5,c6,c7,c8,c9,c10,c11,c12,cf⟩:=p2.cells;obtain ⟨d0,d1,df⟩:=u2.cells;have n1:W.heap.size≠w.heap.size:=by have:=p2.lt; omega
  have n2:W.heap.size≠w2.heap.size:=by have:=Yz u2; omega
  have nq:w.heap.size+1≠W.heap.size:=by have:=q2.lt; omega
  have hb:w.heap.size<=W.heap.size:=HS2.o.size;go_cut [12] (fun v wx=>∃ b,v=.pointer (some ⟨b,0,none⟩)/\Pb wx b X Y/\Pb wx w2.heap.size U V/\Sb wx (w.heap.size+1) zS/\Yc w wx)
  case first =>
    go_region_held3 (fun w'=>w'.cell? ⟨w.heap.size,0,none⟩=some (.int .i64 m.ax)/\w'.cell? ⟨w.heap.size,1,none⟩=some (.int .i64 m.ay)/\w'.cell? ⟨w2.heap.size,0,none⟩=some (.int .i64 U)/\w'.cell? ⟨w2.heap.size,1,none⟩=some (.int .i64 V)) (go_keep)
      (first
        | (go_at_call 112
           refine (K1 U V 1792 _).mono ?_;rintro e w3 ⟨rfl,h3⟩;have h3':Yc W w3:=by first | exact Yc.undrew h3 | exact (aL W (.cells #[.int .i64 0,.int .i64 0] 54)).trans (Yc.undrew h3)
           have p3:=p2.sT h3';have u3:=u2.sT h3';have q3:=q2.sT h3';have HS3:=hid (HS2.o.trans h3');obtain ⟨y0,y1,_⟩:=p3.cells;obtain ⟨z0,z1,_⟩:=u3.cells;have n3:w3.heap.size≠w.heap.size:=by have:=p3.lt; omega
           have n4:w3.heap.size≠w2.heap.size:=by have:=Yz u3; omega
           have nq3:w.heap.size+1≠w3.heap.size:=by have:=q3.lt; omega
           have hb3:w.heap.size<=w3.heap.size:=HS3.o.size
           (try have x3:Pb w3 W.heap.size 0 0:=(Yp W 0 0).sT (Yc.undrew h3))
           clear h3 h3')
        | (go_at_call 114
           refine (HAd.o _).mono ?_;rintro e w4 ⟨rfl,h4⟩;have h4':Yc w3 w4:=by first | exact h4 | exact (aL w3 (.cells #[.int .i64 0,.int .i64 0] 54)).trans h4
           have p4:=p3.sT h4';have u4:=u3.sT h4';have q4:=q3.sT h4';have HS4:=hid (HS3.o.trans h4');obtain ⟨r0,r1,_⟩:=p4.cells;obtain ⟨t0,t1,_⟩:=u4.cells;have n5:w4.heap.size≠w.heap.size:=by have:=p4.lt; omega
           have n6:w4.heap.size≠w2.heap.size:=by have:=Yz u4; omega
           (first | have x4:Pb w4 W.heap.size 0 0:=x3.sT h4' | have x4:Pb w4 w3.heap.size 0 0:=(Yp w3 0 0).sT h4 | skip)
           (try obtain ⟨e0,e1,ef⟩:=x4.cells)
           clear h4 h4'))
    all_goals
      go_wp2_with fail;go_meet
      first
        | exact ⟨w4.heap.size,rfl,Yp w4 X Y,u4.sT (aL _ _),q4.sT (aL _ _),HS4.o.trans (aL _ _)⟩
        | exact ⟨W.heap.size,rfl,x4.set X Y,YL u4 n2.symm X Y,(q4.other _ 0 _ nq).other _ 1 _ nq,YJ HS4.o _ X Y (.inr hb)⟩
        | exact ⟨w3.heap.size,rfl,x4.set X Y,YL u4 n4.symm X Y,(q4.other _ 0 _ nq3).other _ 1 _ nq3,YJ HS4.o _ X Y (.inr hb3)⟩
  case rest =>
    obtain ⟨b,rfl,x5,u5,q5,hs5⟩:=hcut;have HS5:=hid hs5;clear hs5 p2 q2 u2 HS2 HAd n1 n2 nq hb d0 d1 df c0 c1 c2 c3 c4 c5 c6 c7 c8 c9 c10 c11 c12 cf;obtain ⟨d0,d1,df⟩:=x5.cells;obtain ⟨e0,e1,ef⟩:=u5.cells;have k0:=kC d0;have k1:=kC d1;have k2:=kC e0;have k3:=kC e1;have HSc:=hid (fun u=>K1 U V (256*(7 - pw)) u);go_upto_region 8 with fail;have hne:=Aft.here wc;clear d0 d1 df e0 e1 ef;refine YC 10 (by kernel_rfl) (by kernel_rfl) ?_;simp only [List.take_succ_cons,List.take_zero,List.drop_succ_cons,List.drop_zero];repeat (go_big_quiet_step ((go_at_call 112; exact Calls.cl (HSc.o _))))
    refine wpQuiet_nil ?_;intro w6 hs;clear hne k0 k1 k2 k3;have q6:=q5.sT hs;have HS6:=hid (HS5.o.trans hs);clear hs q5 HS5 x5 u5;obtain ⟨k0,k1,k2,k3,k4,k5,k6,k7,kf⟩:=q6.cells;go_wp2_with fail
    (try simp only [Exit.inBlock,Exit.then])
    refine bodyPost_ret (Sb.rest (Sb.put q6 _ _ _ _ _ _ _ _) rfl _ _ rfl rfl) rfl ⟨rfl, ?_⟩;repeat (first | refine Yg ?_ _ _ _ (by omega) | with_reducible exact HS6.o)
theorem Iv (m:Mv) (ow pw no:Int) (w:World) (ht:RTab w):Ya 62 #[mv m,.int .i64 ow,.int .i64 pw,.int .i64 no] w (.tuple #[sv (ZQ m ow pw no),.int .i64 (XA m ow pw no)]):=by
 cases hm:Yq m with
 | false =>
  have e:XA m ow pw no=80:=by unfold XA; rw [hm]; rfl
  have e2:ZQ m ow pw no=zS:=by unfold ZQ; rw [e]; rfl
  rw [e,e2];exact Is m ow pw no hm w
 | true =>
  cases ha:Uc ow pw no with
  | false =>
   have e:XA m ow pw no=1:=by unfold XA; rw [hm,ha]; rfl
   have e2:ZQ m ow pw no=zS:=by unfold ZQ; rw [e]; rfl
   rw [e,e2];exact It m ow pw no hm ha w
  | true =>
   have e:XA m ow pw no=0:=by unfold XA; rw [hm,ha]; rfl
   have e2:ZQ m ow pw no=JH m ow pw no:=by unfold ZQ; rw [e]; rfl
   rw [e,e2];have h:=argB_iff.1 ha;exact Iu m ow pw no hm (by omega) (by omega) (by omega) (by omega) (by omega) (by simp; omega) _ _ rfl rfl w ht
theorem Iw (s:Sh) (C R:Int) (b:ByteArray) (hm:Zd s=false) (w:World):Ya 67 #[sv s,ar C R b] w (.tuple #[sv zS,.bool false,.int .i64 90]):=by
 have A0:=aL w (.cells (scs s) 122);have A1:=aL (Zm w s) (.cells #[.int .i64 C,.int .i64 R,.string b] 24);have A2:=aL (Yn (Zm w s) C R b) (.cells (scs zS) 122);have p0:=((ZB w s).sT A1).sT A2;have o0:=(Y0 (Zm w s) C R b).sT A2;have q0:=ZB (Yn (Zm w s) C R b) zS;simp only [Yf] at o0 q0;have HS0:=hid ((A0.trans A1).trans A2);clear A0 A1 A2;obtain ⟨c0,c1,c2,c3,c4,c5,c6,c7,cf⟩:=p0.cells;have H:=hid (fun w=>Jc s w);rw [show Yx s=90 by unfold Yx; rw [hm]; rfl] at H;clear hm;go_enter Tryz.func67,Tryz.ntmps67;go_wp2_with fail;refine (H.o _).mono ?_;rintro e w1 ⟨rfl,h1⟩;have p1:=p0.sT h1;have o1:=o0.sT h1;have q1:=q0.sT h1;have HS1:=hid (HS0.o.trans h1);clear h1 HS0 p0 o0 q0 c0 c1 c2 c3 c4 c5 c6 c7 cf H;obtain ⟨c0,c1,c2,c3,c4,c5,c6,c7,cf⟩:=p1.cells;obtain ⟨i0,i1,i2,jf⟩:=o1.cells;obtain ⟨k0,k1,k2,k3,k4,k5,k6,k7,kf⟩:=q1.cells;go_wp2_with fail;refine bodyPost_ret (Sb.rest3 (Sb.put q1 _ _ _ _ _ _ _ _) rfl _ _ _ rfl rfl rfl) rfl ⟨rfl, ?_⟩;repeat (first | refine Yg ?_ _ _ _ (by omega) | with_reducible exact HS1.o)
theorem Ix (s:Sh) (C R:Int) (b:ByteArray) (X Y:Int) (hm:Zd s=true) (hR:∀ u,Ya 120 #[ar C R b,pt s.ax s.ay,pt s.sx s.sy] u (.tuple #[pt X Y,.bool true])) (w:World):Ya 67 #[sv s,ar C R b] w (.tuple #[sv zS,.bool false,.int .i64 0]):=by
 have A0:=aL w (.cells (scs s) 122);have A1:=aL (Zm w s) (.cells #[.int .i64 C,.int .i64 R,.string b] 24);have A2:=aL (Yn (Zm w s) C R b) (.cells (scs zS) 122);have p0:=((ZB w s).sT A1).sT A2;have o0:=(Y0 (Zm w s) C R b).sT A2;have q0:=ZB (Yn (Zm w s) C R b) zS;simp only [Yf] at o0 q0;have HS0:=hid ((A0.trans A1).trans A2);clear A0 A1 A2;obtain ⟨c0,c1,c2,c3,c4,c5,c6,c7,cf⟩:=p0.cells;have H:=hid (fun w=>Jc s w);rw [show Yx s=0 by unfold Yx; rw [hm]; rfl] at H;have HR:=hid hR;clear hm hR;go_enter Tryz.func67,Tryz.ntmps67;go_wp2_with fail;refine (H.o _).mono ?_;rintro e w1 ⟨rfl,h1⟩;have p1:=p0.sT h1;have o1:=o0.sT h1;have q1:=q0.sT h1;have HS1:=hid (HS0.o.trans h1);clear h1 HS0 p0 o0 q0 c0 c1 c2 c3 c4 c5 c6 c7 cf H;obtain ⟨c0,c1,c2,c3,c4,c5,c6,c7,cf⟩:=p1.cells;obtain ⟨i0,i1,i2,jf⟩:=o1.cells;obtain ⟨k0,k1,k2,k3,k4,k5,k6,k7,kf⟩:=q1.cells;go_wp2_with fail;refine (HR.o _).mono ?_;rintro e w2 ⟨rfl,h2⟩;have A3:=aL w2 (.cells #[.int .i64 X,.int .i64 Y] 54);have p2:=(p1.sT h2).sT A3;have q2:=(q1.sT h2).sT A3;have x2:Pb (w2.alloc (.cells #[.int .i64 X,.int .i64 Y] 54)) w2.heap.size X Y:=Yp w2 X Y;have HS2:=hid ((HS1.o.trans h2).trans A3);clear h2 A3 HS1 p1 o1 q1 HR c0 c1 c2 c3 c4 c5 c6 c7 cf k0 k1 k2 k3 k4 k5 k6 k7 kf i0 i1 i2 jf;obtain ⟨c0,c1,c2,c3,c4,c5,c6,c7,cf⟩:=p2.cells;obtain ⟨k0,k1,k2,k3,k4,k5,k6,k7,kf⟩:=q2.cells;go_wp2_with fail;refine bodyPost_ret (Sb.rest3 (Sb.put q2 _ _ _ _ _ _ _ _) rfl _ _ _ rfl rfl rfl) rfl ⟨rfl, ?_⟩;repeat (first | refine Yg ?_ _ _ _ (by omega) | with_reducible exact HS2.o)
theorem Iy (s:Sh) (C R:Int) (b:ByteArray) (X Y:Int) (hm:Zd s=true) (hR:∀ u,Ya 120 #[ar C R b,pt s.ax s.ay,pt s.sx s.sy] u (.tuple #[pt X Y,.bool false])) (hl:(s.lf == 1)=true) (w:World):Ya 67 #[sv s,ar C R b] w (.tuple #[sv zS,.bool false,.int .i64 0]):=by
 have A0:=aL w (.cells (scs s) 122);have A1:=aL (Zm w s) (.cells #[.int .i64 C,.int .i64 R,.string b] 24);have A2:=aL (Yn (Zm w s) C R b) (.cells (scs zS) 122);have p0:=((ZB w s).sT A1).sT A2;have o0:=(Y0 (Zm w s) C R b).sT A2;have q0:=ZB (Yn (Zm w s) C R b) zS;simp only [Yf] at o0 q0;have HS0:=hid ((A0.trans A1).trans A2);clear A0 A1 A2;obtain ⟨c0,c1,c2,c3,c4,c5,c6,c7,cf⟩:=p0.cells;have H:=hid (fun w=>Jc s w);rw [show Yx s=0 by unfold Yx; rw [hm]; rfl] at H;have HR:=hid hR;clear hm hR;go_enter Tryz.func67,Tryz.ntmps67;go_wp2_with fail;refine (H.o _).mono ?_;rintro e w1 ⟨rfl,h1⟩;have p1:=p0.sT h1;have o1:=o0.sT h1;have q1:=q0.sT h1;have HS1:=hid (HS0.o.trans h1);clear h1 HS0 p0 o0 q0 c0 c1 c2 c3 c4 c5 c6 c7 cf H;obtain ⟨c0,c1,c2,c3,c4,c5,c6,c7,cf⟩:=p1.cells;obtain ⟨i0,i1,i2,jf⟩:=o1.cells;obtain ⟨k0,k1,k2,k3,k4,k5,k6,k7,kf⟩:=q1.cells;go_wp2_with fail;refine (HR.o _).mono ?_;rintro e w2 ⟨rfl,h2⟩;have A3:=aL w2 (.cells #[.int .i64 X,.int .i64 Y] 54);have p2:=(p1.sT h2).sT A3;have q2:=(q1.sT h2).sT A3;have x2:Pb (w2.alloc (.cells #[.int .i64 X,.int .i64 Y] 54)) w2.heap.size X Y:=Yp w2 X Y;have HS2:=hid ((HS1.o.trans h2).trans A3);clear h2 A3 HS1 p1 o1 q1 HR c0 c1 c2 c3 c4 c5 c6 c7 cf k0 k1 k2 k3 k4 k5 k6 k7 kf i0 i1 i2 jf;obtain ⟨c0,c1,c2,c3,c4,c5,c6,c7,cf⟩:=p2.cells;obtain ⟨k0,k1,k2,k3,k4,k5,k6,k7,kf⟩:=q2.cells;go_wp2_with fail;refine bodyPost_ret (Sb.rest3 (Sb.put q2 _ _ _ _ _ _ _ _) rfl _ _ _ rfl rfl rfl) rfl ⟨rfl, ?_⟩;repeat (first | refine Yg ?_ _ _ _ (by omega) | with_reducible exact HS2.o)
theorem Iz (s:Sh) (C R:Int) (b:ByteArray) (X Y:Int) (hm:Zd s=true) (hR:∀ u,Ya 120 #[ar C R b,pt s.ax s.ay,pt s.sx s.sy] u (.tuple #[pt X Y,.bool false])) (hl:(s.lf == 1)=false) (l1:1<=s.lf) (l2:s.lf<=40) (w:World):Ya 67 #[sv s,ar C R b] w (.tuple #[sv { s with ax:=X,ay:=Y,lf:=s.lf - 1 },.bool true,.int .i64 0]):=by
 have A0:=aL w (.cells (scs s) 122);have A1:=aL (Zm w s) (.cells #[.int .i64 C,.int .i64 R,.string b] 24);have A2:=aL (Yn (Zm w s) C R b) (.cells (scs zS) 122);have p0:=((ZB w s).sT A1).sT A2;have o0:=(Y0 (Zm w s) C R b).sT A2;have q0:=ZB (Yn (Zm w s) C R b) zS;simp only [Yf] at o0 q0;have HS0:=hid ((A0.trans A1).trans A2);clear A0 A1 A2;obtain ⟨c0,c1,c2,c3,c4,c5,c6,c7,cf⟩:=p0.cells;have H:=hid (fun w=>Jc s w);rw [show Yx s=0 by unfold Yx; rw [hm]; rfl] at H;have HR:=hid hR;clear hm hR;go_enter Tryz.func67,Tryz.ntmps67;go_wp2_with fail;refine (H.o _).mono ?_;rintro e w1 ⟨rfl,h1⟩;have p1:=p0.sT h1;have o1:=o0.sT h1;have q1:=q0.sT h1;have HS1:=hid (HS0.o.trans h1);clear h1 HS0 p0 o0 q0 c0 c1 c2 c3 c4 c5 c6 c7 cf H;obtain ⟨c0,c1,c2,c3,c4,c5,c6,c7,cf⟩:=p1.cells;obtain ⟨i0,i1,i2,jf⟩:=o1.cells;obtain ⟨k0,k1,k2,k3,k4,k5,k6,k7,kf⟩:=q1.cells;go_wp2_with fail;refine (HR.o _).mono ?_;rintro e w2 ⟨rfl,h2⟩;have A3:=aL w2 (.cells #[.int .i64 X,.int .i64 Y] 54);have p2:=(p1.sT h2).sT A3;have q2:=(q1.sT h2).sT A3;have x2:Pb (w2.alloc (.cells #[.int .i64 X,.int .i64 Y] 54)) w2.heap.size X Y:=Yp w2 X Y;have HS2:=hid ((HS1.o.trans h2).trans A3);clear h2 A3 HS1 p1 o1 q1 HR c0 c1 c2 c3 c4 c5 c6 c7 cf k0 k1 k2 k3 k4 k5 k6 k7 kf i0 i1 i2 jf;obtain ⟨W,eW⟩:∃ W,w2.alloc (.cells #[.int .i64 X,.int .i64 Y] 54)=W:=⟨_,rfl⟩;rw [eW] at p2 q2 x2 HS2;go_upto_region 5 with fail;clear eW;have p3:=p2.step X Y (s.lf - 1);have q3:=((q2.other w.heap.size 3 (.int .i64 X) (by omega)).other w.heap.size 4 (.int .i64 Y) (by omega)).other w.heap.size 7 (.int .i64 (s.lf - 1)) (by omega);have HS3:=hid (Yg (Yg (Yg HS2.o w.heap.size 3 (.int .i64 X) (Nat.le_refl _)) w.heap.size 4 (.int .i64 Y) (Nat.le_refl _)) w.heap.size 7 (.int .i64 (s.lf - 1)) (Nat.le_refl _));obtain ⟨W3,eW3⟩:∃ W3,((W.setCell ⟨w.heap.size,3,none⟩ (.int .i64 X)).setCell ⟨w.heap.size,4,none⟩ (.int .i64 Y)).setCell ⟨w.heap.size,7,none⟩ (.int .i64 (s.lf - 1))=W3:=⟨_,rfl⟩;rw [eW3] at p3 q3 HS3;obtain ⟨c0,c1,c2,c3,c4,c5,c6,c7,cf⟩:=p2.cells;obtain ⟨d0,d1,df⟩:=x2.cells;go_upto_region 9 with fail;clear eW3 p2 q2 x2 HS2 d0 d1 df c0 c1 c2 c3 c4 c5 c6 c7 cf;obtain ⟨c0,c1,c2,c3,c4,c5,c6,c7,cf⟩:=p3.cells;obtain ⟨k0,k1,k2,k3,k4,k5,k6,k7,kf⟩:=q3.cells;go_wp2_with fail;refine bodyPost_ret (Sb.rest3 (Sb.put q3 _ _ _ _ _ _ _ _) rfl _ _ _ rfl rfl rfl) rfl ⟨rfl, ?_⟩;repeat (first | refine Yg ?_ _ _ _ (by omega) | with_reducible exact HS3.o)
theorem I0 (s:Sh) (C R:Int) (b:ByteArray) (hz:b.size<=281474976710656) (hC:C<=9223372036854775807) (w:World):Ya 67 #[sv s,ar C R b] w (.tuple #[sv (Zp (Ym C R b) s),.bool (Ze (Ym C R b) s),.int .i64 (Yx s)]):=by
 cases hm:Zd s with
 | false =>
  have e:Yx s=90:=by unfold Yx; rw [hm]; rfl
  have e1:Ze (Ym C R b) s=false:=by unfold Ze; rw [hm]; rfl
  have e2:Zp (Ym C R b) s=zS:=by unfold Zp; rw [e1]; rfl
  rw [e,e1,e2];exact Iw s C R b hm w
 | true =>
  have e:Yx s=0:=by unfold Yx; rw [hm]; rfl
  have hR:=fun u=>Nh C R s.ax s.ay s.sx s.sy b hz hC _ _ _ _ (rn s) (rk (Ym C R b) s) rfl rfl rfl rfl rfl rfl u;cases hw:decide (rk (Ym C R b) s<rn s) with
  | true =>
   have e1:Ze (Ym C R b) s=false:=by unfold Ze; rw [hw]; simp
   have e2:Zp (Ym C R b) s=zS:=by unfold Zp; rw [e1]; rfl
   rw [hw] at hR;rw [e,e1,e2];exact Ix s C R b _ _ hm hR w
  | false =>
   rw [hw] at hR;cases hl:s.lf == 1 with
   | true =>
    have e1:Ze (Ym C R b) s=false:=by unfold Ze; rw [hl]; simp
    have e2:Zp (Ym C R b) s=zS:=by unfold Zp; rw [e1]; rfl
    rw [e,e1,e2];exact Iy s C R b _ _ hm hR hl w
   | false =>
    have e1:Ze (Ym C R b) s=true:=by unfold Ze; rw [hm,hw,hl]; rfl
    have e2:Zp (Ym C R b) s=JI (Ym C R b) s:=by unfold Zp; rw [e1]; rfl
    rw [e,e1,e2];have h:=(maySB_iff.1 hm).2.2.2.2.2;exact Iz s C R b _ _ hm hR hl h.1 h.2 w
end Go.Proofs.YthcjckgmdokmdaaGreatDoor
