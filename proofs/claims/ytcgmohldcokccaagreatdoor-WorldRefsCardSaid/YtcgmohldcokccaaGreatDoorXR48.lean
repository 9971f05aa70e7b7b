import Derived.Test.YtcgmohldcokccaaGreatDoorXR07
import Derived.Test.YtcgmohldcokccaaGreatDoorXR09
import Derived.Test.YtcgmohldcokccaaGreatDoorXR10
set_option linter.unusedVariables false
set_option maxHeartbeats 8000000
set_option maxRecDepth 100000
namespace Go.Proofs.YtcgmohldcokccaaGreatDoor
section
open Go.RowKit
open Pu Gp Ap Vp Np Za Ka Ja Ea Ha
def KQ:Kd Pk:=⟨fun p=>[.int .i64 p.no,.int .i64 p.sp,.int .i64 p.kd],3,zK,fun _=>rfl,fun m u hu=>by
 simp at hu;rcases hu with rfl|rfl|rfl<;>rfl,by decide⟩
theorem rdQ{w:World}{B o n:Nat}{L:List Pk}(h:RdG KQ w (some ⟨B,o,none⟩) n L){i:Nat}(hi:i<n):w.cell? ⟨B,o+i*3,none⟩=some (.int .i64 (pk L i).no)/\w.cell? ⟨B,o+i*3+1,none⟩=some (.int .i64 (pk L i).sp)/\w.cell? ⟨B,o+i*3+2,none⟩=some (.int .i64 (pk L i).kd):=
 ⟨h.get hi 0 _ rfl,h.get hi 1 _ rfl,h.get hi 2 _ rfl⟩
theorem UU{w:World}{ao:Option Addr}{n:Nat}{L:List Pk}(h:RdG KQ w ao n L):RdK w ao n L:=by
 refine⟨h.1,h.2.1,?_⟩;rcases h.2.2 with h0|⟨B,o,e,hc⟩
 ·exact .inl h0
 ·exact .inr ⟨B,o,e,fun i hi=>⟨hc i hi 0 _ rfl,hc i hi 1 _ rfl,hc i hi 2 _ rfl⟩⟩
theorem Rc(s:Sh)(w:World):(binOp .neq 69 (sv s) (sv s)).run Tryz.prog w=.ok (.bool false) w:=by
 have h:=OC s w;rw[run_eql_struct]at h;rw[run_neq_struct];revert h;generalize (Op.equalIn 10000 69 (sv s) (sv s)).run Tryz.prog w=r;intro h;cases r with
 | ok b w' =>
  simp[Result.andThen]at h⊢;obtain⟨h1,h2⟩:=h;subst h1 h2;exact⟨rfl,rfl⟩
 | _=>simp[Result.andThen]at h
abbrev Yf(fr nx:Int)(a b c d:Value):Array Value:=#[.int .i64 fr,a,b,c,d,.int .i64 nx]
def Wdb(w:World)(g:Nat)(fr nx:Int)(a b c d:Value):Prop:=w.heap[g]?=some (.cells (Yf fr nx a b c d) 33 (0,0))
theorem Wdb.sT{w w':World}{g:Nat}{fr nx:Int}{a b c d:Value}(h:Wdb w g fr nx a b c d)(hs:Yc w w'):Wdb w' g fr nx a b c d:=hs.kept_still h
theorem Wdb.cells{w:World}{g:Nat}{fr nx:Int}{a b c d:Value}(h:Wdb w g fr nx a b c d):w.cell? ⟨g,0,none⟩=some (.int .i64 fr)/\w.cell? ⟨g,1,none⟩=some a/\w.cell? ⟨g,2,none⟩=some b/\w.cell? ⟨g,3,none⟩=some c/\w.cell? ⟨g,4,none⟩=some d/\w.cell? ⟨g,5,none⟩=some (.int .i64 nx)/\∀o,w.frozen? ⟨g,o,none⟩=false:=by
 refine⟨?_,?_,?_,?_,?_,?_,fun o=>frozen_of_row w g o _ _ h⟩<;>(rw[cell_of_row _ _ _ _ _ _ h];rfl)
abbrev XP(w:World)(fr nx:Int)(a b c d:Value):World:=w.alloc (.cells (Yf fr nx a b c d) 33)
theorem Zw(w:World)(fr nx:Int)(a b c d:Value):Wdb (XP w fr nx a b c d) w.heap.size fr nx a b c d:=heap_alloc_new w _
def Sl{α:Type}(K:Kd α)(w:World)(v:Value)(L:List α):Prop:=∃ao cap,v=.slice ao L.length cap/\L.length<=cap/\(ao=none->cap=0)/\RdG K w ao L.length L
theorem Sl.sT{α:Type}{K:Kd α}{w w':World}{v:Value}{L:List α}(h:Sl K w v L)(hs:Yc w w'):Sl K w' v L:=by
 obtain⟨ao,cap,e,h1,h2,h3⟩:=h;exact⟨ao,cap,e,h1,h2,h3.sT hs⟩
def RdW(w:World)(v:Value)(W:Wd):Prop:=∃a b c d,v=.agg (Yf W.fr W.nx a b c d)/\Sl KM w a W.ms/\Sl KC w b W.cs/\Sl KS w c W.hs/\Sl KQ w d W.ks
theorem RdW.sT{w w':World}{v:Value}{W:Wd}(h:RdW w v W)(hs:Yc w w'):RdW w' v W:=by
 obtain⟨a,b,c,d,e,h1,h2,h3,h4⟩:=h;exact⟨a,b,c,d,e,h1.sT hs,h2.sT hs,h3.sT hs,h4.sT hs⟩
theorem Nr(W:Wd)(v u:Value)(w:World)(hv:RdW w v W)(hu:RdW w u W):Ya 11 #[v,u] w (.bool true):=by
 obtain⟨_,_,_,_,rfl,⟨ao0,ca0,rfl,_,_,ra0⟩,⟨bo0,cb0,rfl,_,_,rb0⟩,⟨co0,cc0,rfl,_,_,rc0⟩,⟨do0,cd0,rfl,_,_,rd0⟩⟩:=hv;obtain⟨_,_,_,_,rfl,⟨ao1,ca1,rfl,_,_,ra1⟩,⟨bo1,cb1,rfl,_,_,rb1⟩,⟨co1,cc1,rfl,_,_,rc1⟩,⟨do1,cd1,rfl,_,_,rd1⟩⟩:=hu;obtain⟨n1,e1⟩:∃n,W.ms.length=n:=⟨_,rfl⟩;obtain⟨n2,e2⟩:∃n,W.cs.length=n:=⟨_,rfl⟩;obtain⟨n3,e3⟩:∃n,W.hs.length=n:=⟨_,rfl⟩;obtain⟨n4,e4⟩:∃n,W.ks.length=n:=⟨_,rfl⟩;rw[e1]at ra0 ra1⊢;rw[e2]at rb0 rb1⊢;rw[e3]at rc0 rc1⊢;rw[e4]at rd0 rd1⊢;have h1m:=ra0.2.1;have h2m:=rb0.2.1;have h3m:=rc0.2.1;have h4m:=rd0.2.1;obtain⟨fr,efr⟩:∃x,W.fr=x:=⟨_,rfl⟩;obtain⟨nx,enx⟩:∃x,W.nx=x:=⟨_,rfl⟩;rw[efr,enx];have HR:=hid (And.intro (And.intro ra0 ra1) (And.intro (And.intro rb0 rb1) (And.intro (And.intro rc0 rc1) (And.intro rd0 rd1))));have A0:=sA w (.cells (Yf fr nx (.slice ao0 n1 ca0) (.slice bo0 n2 cb0) (.slice co0 n3 cc0) (.slice do0 n4 cd0)) 33);have A1:=sA (XP w fr nx (.slice ao0 n1 ca0) (.slice bo0 n2 cb0) (.slice co0 n3 cc0) (.slice do0 n4 cd0)) (.cells (Yf fr nx (.slice ao1 n1 ca1) (.slice bo1 n2 cb1) (.slice co1 n3 cc1) (.slice do1 n4 cd1)) 33);have p0:=(Zw w fr nx (.slice ao0 n1 ca0) (.slice bo0 n2 cb0) (.slice co0 n3 cc0) (.slice do0 n4 cd0)).sT A1;have q0:=Zw (XP w fr nx (.slice ao0 n1 ca0) (.slice bo0 n2 cb0) (.slice co0 n3 cc0) (.slice do0 n4 cd0)) fr nx (.slice ao1 n1 ca1) (.slice bo1 n2 cb1) (.slice co1 n3 cc1) (.slice do1 n4 cd1);simp only[size_alloc]at q0;have HP:=hid p0;have HQ:=hid q0;have HS0:=hid (A0.trans A1);have G1:=GI;have G2:=MO;have G3:=OD;have G4:=MF;obtain⟨c0,c1,c2,c3,c4,c5,cf⟩:=p0.cells;obtain⟨d0,d1,d2,d3,d4,d5,df⟩:=q0.cells;clear ra0 ra1 rb0 rb1 rc0 rc1 rd0 rd1 e1 e2 e3 e4 efr enx A0 A1 p0 q0;go_enter Tryz.func11,Tryz.ntmps11;go_wp2_with fail;clear c0 c1 c2 c3 c4 c5 cf d0 d1 d2 d3 d4 d5 df;obtain⟨V,eV⟩:∃V,V=(XP w fr nx (.slice ao0 n1 ca0) (.slice bo0 n2 cb0) (.slice co0 n3 cc0) (.slice do0 n4 cd0)).alloc (.cells (Yf fr nx (.slice ao1 n1 ca1) (.slice bo1 n2 cb1) (.slice co1 n3 cc1) (.slice do1 n4 cd1)) 33):=⟨_,rfl⟩;simp only[XP,Yf]at eV
 (try simp only[XP,Yf]at HP)
 (try simp only[XP,Yf]at HQ)
 (try simp only[XP,Yf]at HS0)
 rw[<- eV]at HP HQ HS0⊢;clear eV;go_loopw [5] (fun u wr=>∃i:Nat,i<=n1/\u=.int .i64 (i:Int)/\Yc V wr) (fun u _=>n1-(intOf u).toNat);case atStart=>exact⟨0,by omega,rfl,Fr.refl _ _⟩
 case round =>
  obtain⟨i0,hi,rfl,hs⟩:=hrel;obtain⟨c0,c1,c2,c3,c4,c5,cf⟩:=(HP.o.sT hs).cells;obtain⟨d0,d1,d2,d3,d4,d5,df⟩:=(HQ.o.sT hs).cells;have HS1:=hid (HS0.o.trans hs);have HP1:=hid (HP.o.sT hs);have HQ1:=hid (HQ.o.sT hs);have HX:=hid hs;clear hs;by_cases hlt:i0<n1
  ·have hlt':(i0:Int)<(n1:Int):=by omega
   have r0:=HR.o.1.1.sT HS1.o;have r1:=HR.o.1.2.sT HS1.o;obtain⟨B0,o0,rfl⟩:=r0.at (by omega);obtain⟨B1,o1,rfl⟩:=r1.at (by omega);have z0:=rdM r0 hlt;have z1:=rdM r1 hlt;have E1:=Ov (mm W.ms i0);obtain⟨x,ex⟩:∃x,mm W.ms i0=x:=⟨_,rfl⟩;rw[ex]at z0 z1 E1;have k1:=kC c1;have k2:=kC d1;obtain⟨a0,a1,a2,a3,a4,a5,a6,a7,a8,a9,a10,a11,a12⟩:=z0;obtain⟨b0,b1,b2,b3,b4,b5,b6,b7,b8,b9,b10,b11,b12⟩:=z1;have y0:=kC a0;have x0:=kC b0;have y1:=kC a1;have x1:=kC b1;have y2:=kC a2;have x2:=kC b2;have y3:=kC a3;have x3:=kC b3;have y4:=kC a4;have x4:=kC b4;have y5:=kC a5;have x5:=kC b5;have y6:=kC a6;have x6:=kC b6;have y7:=kC a7;have x7:=kC b7;have y8:=kC a8;have x8:=kC b8;have y9:=kC a9;have x9:=kC b9;have y10:=kC a10;have x10:=kC b10;have y11:=kC a11;have x11:=kC b11;have y12:=kC a12;have x12:=kC b12;have hne:=Aft.here wr;clear ex r0 r1 a0 a1 a2 a3 a4 a5 a6 a7 a8 a9 a10 a11 a12 b0 b1 b2 b3 b4 b5 b6 b7 b8 b9 b10 b11 b12;go_wp2_with fail;clear c0 c1 c2 c3 c4 c5 cf d0 d1 d2 d3 d4 d5 df;refine Yk (by kernel_rfl) (by kernel_rfl) ?_;repeat(go_big_quiet_step (fail))
   refine wpQuiet_nil ?_;intro w2 h2;have HS2:=hid h2;clear h2 k1 k2 hne E1 y0 x0 y1 x1 y2 x2 y3 x3 y4 x4 y5 x5 y6 x6 y7 x7 y8 x8 y9 x9 y10 x10 y11 x11 y12 x12;go_wp2_with fail;go_roundw;case rel=>exact⟨i0+1,by omega,by go_num,HX.o.trans HS2.o⟩
   case measure=>simp[intOf];omega
  ·have hge:¬(i0:Int)<(n1:Int):=by omega
   clear hlt hi HX HP HQ HS0;have HP:=HP1;have HQ:=HQ1;have HS0:=HS1;clear HP1 HQ1 HS1;go_wp2_with fail;clear c0 c1 c2 c3 c4 c5 cf d0 d1 d2 d3 d4 d5 df;obtain⟨V0,eV0⟩:∃V,V=wr:=⟨_,rfl⟩;rw[<- eV0]at HP HQ HS0⊢;clear eV0;go_loopw [6] (fun u wr=>∃i:Nat,i<=n2/\u=.int .i64 (i:Int)/\Yc V0 wr) (fun u _=>n2-(intOf u).toNat);case atStart=>exact⟨0,by omega,rfl,Fr.refl _ _⟩
   case round =>
    obtain⟨i1,hi,rfl,hs⟩:=hrel;obtain⟨c0,c1,c2,c3,c4,c5,cf⟩:=(HP.o.sT hs).cells;obtain⟨d0,d1,d2,d3,d4,d5,df⟩:=(HQ.o.sT hs).cells;have HS1:=hid (HS0.o.trans hs);have HP1:=hid (HP.o.sT hs);have HQ1:=hid (HQ.o.sT hs);have HX:=hid hs;clear hs;by_cases hlt:i1<n2
    ·have hlt':(i1:Int)<(n2:Int):=by omega
     have r0:=HR.o.2.1.1.sT HS1.o;have r1:=HR.o.2.1.2.sT HS1.o;obtain⟨B0,o0,rfl⟩:=r0.at (by omega);obtain⟨B1,o1,rfl⟩:=r1.at (by omega);have z0:=rdC r0 hlt;have z1:=rdC r1 hlt;have E1:=MN (sc W.cs i1);obtain⟨x,ex⟩:∃x,sc W.cs i1=x:=⟨_,rfl⟩;rw[ex]at z0 z1 E1;have k1:=kC c2;have k2:=kC d2;obtain⟨a0,a1,a2,a3⟩:=z0;obtain⟨b0,b1,b2,b3⟩:=z1;have y0:=kC a0;have x0:=kC b0;have y1:=kC a1;have x1:=kC b1;have y2:=kC a2;have x2:=kC b2;have y3:=kC a3;have x3:=kC b3;have hne:=Aft.here wr;clear ex r0 r1 a0 a1 a2 a3 b0 b1 b2 b3;go_wp2_with fail;clear c0 c1 c2 c3 c4 c5 cf d0 d1 d2 d3 d4 d5 df;refine Yk (by kernel_rfl) (by kernel_rfl) ?_;repeat(go_big_quiet_step (fail))
     refine wpQuiet_nil ?_;intro w2 h2;have HS2:=hid h2;clear h2 k1 k2 hne E1 y0 x0 y1 x1 y2 x2 y3 x3;go_wp2_with fail;go_roundw;case rel=>exact⟨i1+1,by omega,by go_num,HX.o.trans HS2.o⟩
     case measure=>simp[intOf];omega
    ·have hge:¬(i1:Int)<(n2:Int):=by omega
     clear hlt hi HX HP HQ HS0;have HP:=HP1;have HQ:=HQ1;have HS0:=HS1;clear HP1 HQ1 HS1;go_wp2_with fail;clear c0 c1 c2 c3 c4 c5 cf d0 d1 d2 d3 d4 d5 df;obtain⟨V1,eV1⟩:∃V,V=wr:=⟨_,rfl⟩;rw[<- eV1]at HP HQ HS0⊢;clear eV1;go_loopw [7] (fun u wr=>∃i:Nat,i<=n3/\u=.int .i64 (i:Int)/\Yc V1 wr) (fun u _=>n3-(intOf u).toNat);case atStart=>exact⟨0,by omega,rfl,Fr.refl _ _⟩
     case round =>
      obtain⟨i2,hi,rfl,hs⟩:=hrel;obtain⟨c0,c1,c2,c3,c4,c5,cf⟩:=(HP.o.sT hs).cells;obtain⟨d0,d1,d2,d3,d4,d5,df⟩:=(HQ.o.sT hs).cells;have HS1:=hid (HS0.o.trans hs);have HP1:=hid (HP.o.sT hs);have HQ1:=hid (HQ.o.sT hs);have HX:=hid hs;clear hs;by_cases hlt:i2<n3
      ·have hlt':(i2:Int)<(n3:Int):=by omega
       have r0:=HR.o.2.2.1.1.sT HS1.o;have r1:=HR.o.2.2.1.2.sT HS1.o;obtain⟨B0,o0,rfl⟩:=r0.at (by omega);obtain⟨B1,o1,rfl⟩:=r1.at (by omega);have z0:=rdS r0 hlt;have z1:=rdS r1 hlt;have E1:=Rc (ss W.hs i2);obtain⟨x,ex⟩:∃x,ss W.hs i2=x:=⟨_,rfl⟩;rw[ex]at z0 z1 E1;have k1:=kC c3;have k2:=kC d3;obtain⟨a0,a1,a2,a3,a4,a5,a6,a7⟩:=z0;obtain⟨b0,b1,b2,b3,b4,b5,b6,b7⟩:=z1;have y0:=kC a0;have x0:=kC b0;have y1:=kC a1;have x1:=kC b1;have y2:=kC a2;have x2:=kC b2;have y3:=kC a3;have x3:=kC b3;have y4:=kC a4;have x4:=kC b4;have y5:=kC a5;have x5:=kC b5;have y6:=kC a6;have x6:=kC b6;have y7:=kC a7;have x7:=kC b7;have hne:=Aft.here wr;clear ex r0 r1 a0 a1 a2 a3 a4 a5 a6 a7 b0 b1 b2 b3 b4 b5 b6 b7;go_wp2_with fail;clear c0 c1 c2 c3 c4 c5 cf d0 d1 d2 d3 d4 d5 df;refine Yk (by kernel_rfl) (by kernel_rfl) ?_;repeat(go_big_quiet_step (fail))
       refine wpQuiet_nil ?_;intro w2 h2;have HS2:=hid h2;clear h2 k1 k2 hne E1 y0 x0 y1 x1 y2 x2 y3 x3 y4 x4 y5 x5 y6 x6 y7 x7;go_wp2_with fail;go_roundw;case rel=>exact⟨i2+1,by omega,by go_num,HX.o.trans HS2.o⟩
       case measure=>simp[intOf];omega
      ·have hge:¬(i2:Int)<(n3:Int):=by omega
       clear hlt hi HX HP HQ HS0;have HP:=HP1;have HQ:=HQ1;have HS0:=HS1;clear HP1 HQ1 HS1;go_wp2_with fail;clear c0 c1 c2 c3 c4 c5 cf d0 d1 d2 d3 d4 d5 df;obtain⟨V2,eV2⟩:∃V,V=wr:=⟨_,rfl⟩;rw[<- eV2]at HP HQ HS0⊢;clear eV2;go_loopw [8] (fun u wr=>∃i:Nat,i<=n4/\u=.int .i64 (i:Int)/\Yc V2 wr) (fun u _=>n4-(intOf u).toNat);case atStart=>exact⟨0,by omega,rfl,Fr.refl _ _⟩
       case round =>
        obtain⟨i3,hi,rfl,hs⟩:=hrel;obtain⟨c0,c1,c2,c3,c4,c5,cf⟩:=(HP.o.sT hs).cells;obtain⟨d0,d1,d2,d3,d4,d5,df⟩:=(HQ.o.sT hs).cells;have HS1:=hid (HS0.o.trans hs);have HP1:=hid (HP.o.sT hs);have HQ1:=hid (HQ.o.sT hs);have HX:=hid hs;clear hs;by_cases hlt:i3<n4
        ·have hlt':(i3:Int)<(n4:Int):=by omega
         have r0:=HR.o.2.2.2.1.sT HS1.o;have r1:=HR.o.2.2.2.2.sT HS1.o;obtain⟨B0,o0,rfl⟩:=r0.at (by omega);obtain⟨B1,o1,rfl⟩:=r1.at (by omega);have z0:=rdQ r0 hlt;have z1:=rdQ r1 hlt;have E1:=ME (pk W.ks i3);obtain⟨x,ex⟩:∃x,pk W.ks i3=x:=⟨_,rfl⟩;rw[ex]at z0 z1 E1;have k1:=kC c4;have k2:=kC d4;obtain⟨a0,a1,a2⟩:=z0;obtain⟨b0,b1,b2⟩:=z1;have y0:=kC a0;have x0:=kC b0;have y1:=kC a1;have x1:=kC b1;have y2:=kC a2;have x2:=kC b2;have hne:=Aft.here wr;clear ex r0 r1 a0 a1 a2 b0 b1 b2;go_wp2_with fail;clear c0 c1 c2 c3 c4 c5 cf d0 d1 d2 d3 d4 d5 df;refine Yk (by kernel_rfl) (by kernel_rfl) ?_;repeat(go_big_quiet_step (fail))
         refine wpQuiet_nil ?_;intro w2 h2;have HS2:=hid h2;clear h2 k1 k2 hne E1 y0 x0 y1 x1 y2 x2;go_wp2_with fail;go_roundw;case rel=>exact⟨i3+1,by omega,by go_num,HX.o.trans HS2.o⟩
         case measure=>simp[intOf];omega
        ·have hge:¬(i3:Int)<(n4:Int):=by omega
         clear hlt hi HX HP HQ HS0;have HP:=HP1;have HQ:=HQ1;have HS0:=HS1;clear HP1 HQ1 HS1;go_wp2_with fail;go_ret;exact⟨rfl,HS0.o⟩
def zX:Cm:=⟨0,0,0,0,0,0,0⟩
def cm(L:List Cm)(i:Nat):Cm:=L.getD i zX
theorem JQ{L:List Cm}{i:Nat}(h:i<L.length):cm L i=L[i]:=by simp[cm,List.getD,h]
abbrev xcs(x:Cm):Array Value:=#[.int .i64 x.fr,.int .i64 x.pe,.int .i64 x.sq,.int .i64 x.v,.int .i64 x.a,.int .i64 x.b,.int .i64 x.c]
abbrev xv(x:Cm):Value:=.agg (xcs x)
def KX:Kd Cm:=⟨fun x=>(xcs x).toList,7,zX,fun _=>rfl,fun m u hu=>by
 simp at hu;rcases hu with rfl|rfl|rfl|rfl|rfl|rfl|rfl<;>rfl,by decide⟩
theorem UV:∃i,Tryz.prog.info? 63=some i/\i.zero=some (.agg (KX.f KX.d).toArray)/\i.size=KX.k/\i.bytes=56:=⟨_,rfl,rfl,rfl,rfl⟩
theorem rdX{w:World}{B o n:Nat}{L:List Cm}(h:RdG KX w (some ⟨B,o,none⟩) n L){i:Nat}(hi:i<n):w.cell? ⟨B,o+i*7,none⟩=some (.int .i64 (cm L i).fr)/\w.cell? ⟨B,o+i*7+1,none⟩=some (.int .i64 (cm L i).pe)/\w.cell? ⟨B,o+i*7+2,none⟩=some (.int .i64 (cm L i).sq)/\w.cell? ⟨B,o+i*7+3,none⟩=some (.int .i64 (cm L i).v)/\w.cell? ⟨B,o+i*7+4,none⟩=some (.int .i64 (cm L i).a)/\w.cell? ⟨B,o+i*7+5,none⟩=some (.int .i64 (cm L i).b)/\w.cell? ⟨B,o+i*7+6,none⟩=some (.int .i64 (cm L i).c):=
 ⟨h.get hi 0 _ rfl,h.get hi 1 _ rfl,h.get hi 2 _ rfl,h.get hi 3 _ rfl,h.get hi 4 _ rfl,h.get hi 5 _ rfl,h.get hi 6 _ rfl⟩
theorem owX{e:TypeId}{w:World}{B g n cap:Nat}{L:List Cm}(h:OwG KX e w B (.slice (some ⟨g,0,none⟩) n cap) L){i:Nat}(hi:i<L.length):w.cell? ⟨g,i*7,none⟩=some (.int .i64 (cm L i).fr)/\w.cell? ⟨g,i*7+1,none⟩=some (.int .i64 (cm L i).pe)/\w.cell? ⟨g,i*7+2,none⟩=some (.int .i64 (cm L i).sq)/\w.cell? ⟨g,i*7+3,none⟩=some (.int .i64 (cm L i).v)/\w.cell? ⟨g,i*7+4,none⟩=some (.int .i64 (cm L i).a)/\w.cell? ⟨g,i*7+5,none⟩=some (.int .i64 (cm L i).b)/\w.cell? ⟨g,i*7+6,none⟩=some (.int .i64 (cm L i).c)/\∀o,w.frozen? ⟨g,o,none⟩=false:=
 ⟨h.get hi 0 _ rfl,h.get hi 1 _ rfl,h.get hi 2 _ rfl,h.get hi 3 _ rfl,h.get hi 4 _ rfl,h.get hi 5 _ rfl,h.get hi 6 _ rfl,h.frozen⟩
def Xb(w:World)(g:Nat)(x:Cm):Prop:=w.heap[g]?=some (.cells (xcs x) 63 (0,0))
theorem Xb.sT{w w':World}{g:Nat}{x:Cm}(h:Xb w g x)(hs:Yc w w'):Xb w' g x:=hs.kept_still h
theorem Xb.cells{w:World}{g:Nat}{x:Cm}(h:Xb w g x):w.cell? ⟨g,0,none⟩=some (.int .i64 x.fr)/\w.cell? ⟨g,1,none⟩=some (.int .i64 x.pe)/\w.cell? ⟨g,2,none⟩=some (.int .i64 x.sq)/\w.cell? ⟨g,3,none⟩=some (.int .i64 x.v)/\w.cell? ⟨g,4,none⟩=some (.int .i64 x.a)/\w.cell? ⟨g,5,none⟩=some (.int .i64 x.b)/\w.cell? ⟨g,6,none⟩=some (.int .i64 x.c)/\∀o,w.frozen? ⟨g,o,none⟩=false:=by
 refine⟨?_,?_,?_,?_,?_,?_,?_,fun o=>frozen_of_row w g o _ _ h⟩<;>(rw[cell_of_row _ _ _ _ _ _ h];rfl)
abbrev Zx(w:World)(x:Cm):World:=w.alloc (.cells (xcs x) 63)
theorem Xc(w:World)(x:Cm):Xb (Zx w x) w.heap.size x:=heap_alloc_new w _
theorem UW:∀(vs:List Value) (w:World) (g o k:Nat),k≠g->(w.setCells g o vs).heap[k]?=w.heap[k]?
 | [],_,_,_,_,_=>rfl
 | v :: r,w,g,o,k,h=>by
  show((w.setCell ⟨g,o,none⟩ v).setCells g (o+1) r).heap[k]?=_;rw[UW r _ g (o+1) k h,heap_setCell_other _ _ _ _ h]
theorem Xb.sets{w:World}{h g:Nat}{x:Cm}(hx:Xb w h x)(hg:h≠g)(vs:List Value)(o:Nat):Xb (w.setCells g o vs) h x:=by
 unfold Xb at *
 rw[UW vs w g o h hg];exact hx
theorem Ns(a b:Cm)(w:World):Ya 40 #[xv a,xv b] w (.bool (Y8 a b)):=by
 have A0:=sA w (.cells (xcs a) 63);have A1:=sA (Zx w a) (.cells (xcs b) 63);have p0:=(Xc w a).sT A1;have q0:=Xc (Zx w a) b;simp only[size_alloc]at q0;have HS0:=hid (A0.trans A1);obtain⟨_,c1,c2,_,_,_,_,cf⟩:=p0.cells;obtain⟨_,d1,d2,_,_,_,_,df⟩:=q0.cells;have HU:=hid (show Y8 a b=(decide (a.pe<b.pe) || (decide (a.pe=b.pe) && decide (a.sq<b.sq)))from rfl);obtain⟨p,ep⟩:∃p,a.pe=p:=⟨_,rfl⟩;obtain⟨q,eq⟩:∃p,b.pe=p:=⟨_,rfl⟩;obtain⟨r,er⟩:∃p,a.sq=p:=⟨_,rfl⟩;obtain⟨s,es⟩:∃p,b.sq=p:=⟨_,rfl⟩;rw[ep,eq,er,es]at HU;rw[ep]at c1;rw[er]at c2;rw[eq]at d1;rw[es]at d2;rw[HU.o];clear A0 A1 p0 q0 ep eq er es HU;by_cases h1:p<q
 ·go_enter Tryz.func40,Tryz.ntmps40;go_wp2_with fail;go_ret;exact⟨by simp[h1],HS0.o⟩
 ·have h1':decide (p<q)=false:=by simpa using h1
  by_cases h2:p=q
  ·have h2':(p == q)=true:=by simpa using h2
   have h2'':decide (p=q)=true:=by simpa using h2
   rw[h1',h2''];clear h1 h2 h2'';go_enter Tryz.func40,Tryz.ntmps40;go_wp2_with fail;go_ret;exact⟨by simp,HS0.o⟩
  ·have h2':(p == q)=false:=by simpa using h2
   have h2'':decide (p=q)=false:=by simpa using h2
   rw[h1',h2''];clear h1 h2 h2'';go_enter Tryz.func40,Tryz.ntmps40;go_wp2_with fail;go_ret;exact⟨rfl,HS0.o⟩
def mid(R:List Cm)(x:Cm)(j:Nat):List Cm:=(R.drop j).reverse ++ x :: (R.take j).reverse
theorem Rd(R:List Cm)(x:Cm):mid R x 0=R.reverse ++ [x]:=by simp[mid]
theorem Qo{R:List Cm}{x:Cm}{j:Nat}(h:j<=R.length):(mid R x j).length=R.length+1:=by simp[mid];omega
theorem Dl{R:List Cm}{x:Cm}{j k:Nat}(h:k+j=R.length):cm (mid R x j) k=x:=by
 unfold mid cm;rw[List.getD_eq_getElem?_getD,List.getElem?_append_right (by simp;omega)];simp[show k-(R.length-j)=0 by omega]
theorem Nt{R:List Cm}{x:Cm}{j k:Nat}(h:k+1+j=R.length):cm (mid R x j) k=cm R j:=by
 have hj:j<R.length:=by omega
 unfold mid cm;rw[List.getD_eq_getElem?_getD,List.getElem?_append_left (by simp;omega),List.getElem?_reverse (by simp;omega),List.getElem?_drop];simp only[List.length_drop];rw[show j+(R.length-j-1-k)=j by omega];rw[List.getD_eq_getElem?_getD]
theorem Re{R:List Cm}{x:Cm}{j k:Nat}(h:k+1+j=R.length):((mid R x j).set (k+1) (cm R j)).set k x=mid R x (j+1):=by
 have hj:j<R.length:=by omega
 have e1:R.drop j=R[j] :: R.drop (j+1):=List.drop_eq_getElem_cons hj;have e2:R.take (j+1)=R.take j ++ [R[j]]:=List.take_succ_eq_append_getElem hj;have hl:(R.drop (j+1)).reverse.length=k:=by simp;omega
 unfold mid;rw[e1,e2,JQ hj];simp only[List.reverse_cons,List.append_assoc,List.reverse_append,List.nil_append,List.cons_append];rw[List.set_append_right _ _ (by omega),hl,show k+1-k=1 by omega];simp only[List.set_cons_succ,List.set_cons_zero];rw[List.set_append_right _ _ (by omega),hl,show k-k=0 by omega];rfl
theorem Dm:∀{R:List Cm} {x:Cm} {j:Nat},j<=R.length->(∀i,i<j->Y8 (cm R i) x=false)->(j=R.length\/Y8 (cm R j) x=true)->mid R x j=(X8 R x).reverse
 | [],x,j,h,_,_=>by
  have:j=0:=by simpa using h
  subst this;rfl
 | y :: R,x,0,_,_,h2=>by
  have h3:Y8 y x=true:=by
   rcases h2 with h2|h2
   ·simp at h2
   ·simpa[cm]using h2
  unfold X8;rw[h3];simp[mid]
 | y :: R,x,j+1,h,h1,h2=>by
  have h3:Y8 y x=false:=by simpa[cm]using h1 0 (by omega)
  have ih:=Dm (R:=R) (x:=x) (j:=j) (by simpa using h) (fun i hi=>by simpa[cm]using h1 (i+1) (by omega)) (by
   rcases h2 with h2|h2
   ·exact .inl (by simpa using h2)
   ·exact .inr (by simpa[cm]using h2))
  unfold X8;rw[h3];simp only[Bool.false_eq_true,if_false,List.reverse_cons];rw[<- ih];simp[mid]
theorem Rf{f:Int}{l:List Cm}{i:Nat}(h:i<l.length):ofR f (l.take (i+1)) []=if(cm l i).fr=f then X8 (ofR f (l.take i) []) (cm l i)else ofR f (l.take i) []:=by
 have app:∀(a b acc:List Cm),ofR f (a ++ b) acc=ofR f b (ofR f a acc):=by
  intro a;induction a with
  | nil=>intro b acc;rfl
  | cons x a ih=>intro b acc;exact ih b _
 rw[List.take_succ_eq_append_getElem h,app,JQ h];rfl
theorem Rh(f:Int)(l:List Cm):(ofR f l []).length<=l.length:=by
 have h:=(Qe f l []).length_eq;rw[h,List.append_nil];exact List.length_filter_le _ _
theorem Ri(l:List Cm)(f:Int)(ao:Option Addr)(n cap:Nat)(h47:56*n<=140737488355328)(w:World)(hr:RdG KX w ao n l):Calls Tryz.prog 18 #[.slice ao n cap,.int .i64 f] w fun e w'=>∃v,e=.returned v/\OwG KX 63 w' w.heap.size v (ofC l f)/\Yc w w':=by
 have HR:=hid hr;have HL:=hid hr.1;have hn2:n<=4398046511104:=by omega
 clear hr;go_enter Tryz.func18,Tryz.ntmps18;go_wp2_with fail;go_loopw [5,6] (fun v u wr=>∃i:Nat,i<=n/\u=.int .i64 (i:Int)/\OwG KX 63 wr w.heap.size v (ofR f (l.take i) []).reverse/\Yc w wr) (fun _ u _=>n-(intOf u).toNat);case atStart=>exact⟨0,by omega,rfl,OwG.nil _ _,Fr.refl _ _⟩
 case round =>
  obtain⟨i,hi,rfl,ho,hs⟩:=hrel;by_cases hlt:i<n
  ·have hlt':(i:Int)<(n:Int):=by omega
   have hr1:=HR.o.sT hs;obtain⟨B,o,rfl⟩:=hr1.at (by omega);obtain⟨c0,c1,c2,c3,c4,c5,c6⟩:=rdX hr1 hlt;have HT:=hid (Rf (f:=f) (l:=l) (i:=i) (by have:=HL.o;omega));have hRl:=Rh f (l.take i);have hRl2:(ofR f (l.take i) []).length<=i:=by
    have:(l.take i).length<=i:=by simp;omega
    omega
   obtain⟨R,eR⟩:∃R,ofR f (l.take i) []=R:=⟨_,rfl⟩;obtain⟨x,ex⟩:∃x,cm l i=x:=⟨_,rfl⟩;rw[eR]at ho hRl2;rw[eR,ex]at HT;rw[ex]at c0 c1 c2 c3 c4 c5 c6;have HO:=hid ho;have HS:=hid hs;clear eR ex ho hs hr1 hRl;by_cases hf:x.fr=f
   ·rw[if_pos hf]at HT;have hf':(x.fr != f)=false:=by simpa using hf
    have HY:=hid (Xc wr x);obtain⟨N,eN⟩:∃N,R.length=N:=⟨_,rfl⟩;have HN:=hid eN;rw[eN]at hRl2;clear hf eN;go_wp2_with (
     at_builtin;refine ZA KX _ rfl _ _ 34 rfl Tryz.underlying34 56 UV w.heap.size wr.heap.size _ R.reverse x rfl rfl (HO.o.sT (sA wr _)) HY.o (by rw[List.length_reverse,HN.o];omega) (by rw[List.length_reverse,HN.o];omega) (by have:=HS.o.size;simp;omega) ?_;intro v' w2 ho2 hf2;have HS2:=hid (XO (HS.o.trans (sA wr _)) (HO.o.sT (sA wr _)) hf2 (Nat.le_refl _));rw[<- Rd]at ho2;obtain⟨g,cp,rfl,hg1,hg2⟩:=ho2.head (by rw[Qo (by omega)];omega);rw[Qo (by omega),HN.o]at ho2⊢;have HO2:=hid ho2;have HG:=hid hg1;clear ho2 hf2 hg1 hg2 HO HS HY c0 c1 c2 c3 c4 c5 c6 hf')
    go_loopw [7] (fun u wx=>∃j:Nat,j<=N/\u=.int .i64 ((N:Int)-(j:Int))/\OwG KX 63 wx w.heap.size (.slice (some ⟨g,0,none⟩) (N+1) cp) (mid R x j)/\Hid (∀q,q<j->Y8 (cm R q) x=false)/\Yc w wx) (fun u _=>(intOf u).toNat);case atStart=>exact⟨0,by omega,by go_num,HO2.o,hid (fun q hq=>by omega),HS2.o⟩
    case round =>
     clear HO2 HS2;obtain⟨j,hj,rfl,ho3,HQ,hs3⟩:=hrel;have HO3:=hid ho3;have HS3:=hid hs3;clear ho3 hs3;by_cases hk:j<N
     ·obtain⟨K,eK⟩:∃K:Nat,(N:Int)-(j:Int)=(K:Int):=⟨N-j,by omega⟩;rw[eK];have hK0:0<K:=by omega
      have hKN:K<=N:=by omega
      have HK:=hid (show K-1+1+j=R.length by rw[HN.o];omega);have HK2:=hid (show K+j=R.length by rw[HN.o];omega);have hml:(mid R x j).length=N+1:=by rw[Qo (by rw[HN.o];omega),HN.o]
      obtain⟨a0,a1,a2,a3,a4,a5,a6,af⟩:=owX HO3.o (i:=K-1) (by omega);obtain⟨b0,b1,b2,b3,b4,b5,b6,bf⟩:=owX HO3.o (i:=K) (by omega);rw[Nt HK.o]at a0 a1 a2 a3 a4 a5 a6;rw[Dl HK2.o]at b0 b1 b2 b3 b4 b5 b6;have HC:=hid (fun u=>Ns (cm R j) x u);have HW:=hid (Re (x:=x) HK.o);have HDone:=hid (fun h=>Dm (R:=R) (x:=x) (j:=j) (by rw[HN.o];exact hj) HQ.o (.inr h));have HNxt:=hid (show Y8 (cm R j) x=false->∀q,q<j+1->Y8 (cm R q) x=false from fun h q hq=>by
       by_cases e:q=j
       ·subst e;exact h
       ·exact HQ.o q (by omega))
      obtain⟨y,ey⟩:∃y,cm R j=y:=⟨_,rfl⟩;rw[ey]at a0 a1 a2 a3 a4 a5 a6 HC HW HDone HNxt;obtain⟨b,eb⟩:∃b,Y8 y x=b:=⟨_,rfl⟩;rw[eb]at HC HDone HNxt;have HE:=hid eK;have HEy:=hid ey;clear ey eb eK hml;have k0:=kC a0;have k1:=kC a1;have k2:=kC a2;have k3:=kC a3;have k4:=kC a4;have k5:=kC a5;have k6:=kC a6;have m0:=kC b0;have m1:=kC b1;have m2:=kC b2;have m3:=kC b3;have m4:=kC b4;have m5:=kC b5;have m6:=kC b6;have hne:=Aft.here wr;have hKp:(K:Int) > 0:=by omega
      have hKl:(K:Int)<(N:Int)+1:=by omega
      have hKl2:(K:Int)-1<(N:Int)+1:=by omega
      clear a0 a1 a2 a3 a4 a5 a6 b0 b1 b2 b3 b4 b5 b6 af bf;go_wp2_with fail;refine Yk (by kernel_rfl) (by kernel_rfl) ?_;repeat(go_big_quiet_step ((go_at_call 40;exact Calls.cl (HC.o _))))
      refine wpQuiet_nil ?_;intro w4 h4;have HS4:=hid (HS3.o.trans h4);have HO4:=hid (HO3.o.sT h4);clear h4 HS3 HO3 k0 k1 k2 k3 k4 k5 k6 m0 m1 m2 m3 m4 m5 m6 hne HC;cases b with
      | true =>
       have HF:=hid (HDone.o rfl);clear HDone HNxt HW;go_wp2_with fail;go_roundw;case rel=>exact⟨i+1,by omega,by go_num,by rw[HT.o,<- HF.o];exact HO4.o,HS4.o⟩
       case measure=>simp[intOf];omega
      | false =>
       have HF:=hid (HNxt.o rfl);obtain⟨k,rfl⟩:∃k,K=k+1:=⟨K-1,by omega⟩;rw[show((k+1:Nat):Int)=(k:Int)+1 by omega];rw[show k+1-1=k by omega]at HK HW;clear hKl2;clear HDone HNxt;have hml:(mid R x j).length=N+1:=by rw[Qo (by rw[HN.o];omega),HN.o]
       have A5:=sA w4 (.cells (xcs x) 63);have ho5:=HO4.o.sT A5;have x5:=Xc w4 x;have hgw:w.heap.size<=g:=HG.o;have hg5:g<w4.heap.size:=(HO4.o.block (k:=g) rfl).2;obtain⟨b0,b1,b2,b3,b4,b5,b6,bf⟩:=owX HO4.o (i:=(k+1)) (by omega);rw[Dl HK2.o]at b0 b1 b2 b3 b4 b5 b6;obtain⟨W5,eW5⟩:∃W,w4.alloc (.cells (xcs x) 63)=W:=⟨_,rfl⟩;rw[eW5]at ho5;have x5':Xb W5 w4.heap.size x:=by rw[<- eW5];exact x5
       have HS5:Hid (Yc w W5):=hid (by rw[<- eW5];exact HS4.o.trans A5);have h5s:w4.heap.size<W5.heap.size:=by rw[<- eW5];simp
       clear A5 x5;go_upto_region 13 with fail;clear eW5 b0 b1 b2 b3 b4 b5 b6 bf HO4 HS4;obtain⟨h5,eh5⟩:∃h,w4.heap.size=h:=⟨_,rfl⟩;rw[eh5]at x5' hg5 h5s⊢;clear eh5;obtain⟨a0,a1,a2,a3,a4,a5,a6,af⟩:=owX ho5 (i:=k) (by omega);rw[Nt HK.o,HEy.o]at a0 a1 a2 a3 a4 a5 a6;obtain⟨b0,b1,b2,b3,b4,b5,b6,bf⟩:=owX ho5 (i:=(k+1)) (by omega);rw[Dl HK2.o]at b0 b1 b2 b3 b4 b5 b6;have HW':=hid (show((mid R x j).set (k+1) y).set (k) x=mid R x (j+1)from HW.o);have ho6:=ho5.put (i:=(k+1)) (by omega) y;have HS6:=hid (Dh g (KX.f y) ((k+1)*KX.k) W5 HS5.o (.inr hgw));have x6:=Xb.sets x5' (g:=g) (by omega) (KX.f y) ((k+1)*KX.k);obtain⟨W6,eW6⟩:∃W,((((((W5.setCell ⟨g,(k+1)*7,none⟩ (.int .i64 y.fr)).setCell ⟨g,(k+1)*7+1,none⟩ (.int .i64 y.pe)).setCell ⟨g,(k+1)*7+2,none⟩ (.int .i64 y.sq)).setCell ⟨g,(k+1)*7+3,none⟩ (.int .i64 y.v)).setCell ⟨g,(k+1)*7+4,none⟩ (.int .i64 y.a)).setCell ⟨g,(k+1)*7+5,none⟩ (.int .i64 y.b)).setCell ⟨g,(k+1)*7+6,none⟩ (.int .i64 y.c)=W:=⟨_,rfl⟩;have ho6':OwG KX 63 W6 w.heap.size (.slice (some ⟨g,0,none⟩) (N+1) cp) ((mid R x j).set (k+1) y):=by rw[<- eW6];exact ho6
       have HS6':Hid (Yc w W6):=hid (by rw[<- eW6];exact HS6.o);have x6':Xb W6 h5 x:=by rw[<- eW6];exact x6
       clear ho6 HS6 x6 HW;go_upto_region 14 with fail;clear eW6 a0 a1 a2 a3 a4 a5 a6 af b0 b1 b2 b3 b4 b5 b6 bf ho5 x5' HS5;have hml2:((mid R x j).set (k+1) y).length=N+1:=by rw[List.length_set];exact hml
       obtain⟨b0,b1,b2,b3,b4,b5,b6,bf⟩:=owX ho6' (i:=k) (by omega);obtain⟨z,ez⟩:∃z,cm ((mid R x j).set (k+1) y) (k)=z:=⟨_,rfl⟩;rw[ez]at b0 b1 b2 b3 b4 b5 b6;clear ez;obtain⟨a0,a1,a2,a3,a4,a5,a6,af⟩:=x6'.cells;have ho7:=ho6'.put (i:=k) (by omega) x;have HS7:=hid (Dh g (KX.f x) ((k)*KX.k) W6 HS6'.o (.inr hgw));have HO7:Hid (OwG KX 63 (((((((W6.setCell ⟨g,(k)*7,none⟩ (.int .i64 x.fr)).setCell ⟨g,(k)*7+1,none⟩ (.int .i64 x.pe)).setCell ⟨g,(k)*7+2,none⟩ (.int .i64 x.sq)).setCell ⟨g,(k)*7+3,none⟩ (.int .i64 x.v)).setCell ⟨g,(k)*7+4,none⟩ (.int .i64 x.a)).setCell ⟨g,(k)*7+5,none⟩ (.int .i64 x.b)).setCell ⟨g,(k)*7+6,none⟩ (.int .i64 x.c)) w.heap.size (.slice (some ⟨g,0,none⟩) (N+1) cp) (mid R x (j+1))):=hid (by
        rw[<- HW'.o];exact ho7)
       have HS7':Hid (Yc w (((((((W6.setCell ⟨g,(k)*7,none⟩ (.int .i64 x.fr)).setCell ⟨g,(k)*7+1,none⟩ (.int .i64 x.pe)).setCell ⟨g,(k)*7+2,none⟩ (.int .i64 x.sq)).setCell ⟨g,(k)*7+3,none⟩ (.int .i64 x.v)).setCell ⟨g,(k)*7+4,none⟩ (.int .i64 x.a)).setCell ⟨g,(k)*7+5,none⟩ (.int .i64 x.b)).setCell ⟨g,(k)*7+6,none⟩ (.int .i64 x.c))):=hid HS7.o;clear ho7 HS7 ho6' x6' HS6' hml hml2;go_wp2_with fail;go_roundw;case rel=>exact⟨j+1,by omega,by rw[show((j+1:Nat):Int)=(j:Int)+1 by omega,show(N:Int)-((j:Int)+1)=(k:Int) by have:=HE.o;omega],HO7.o,HF,HS7'.o⟩
       case measure=>simp[intOf]
     ·obtain rfl:j=N:=by omega
      have HF:=hid (Dm (R:=R) (x:=x) (j:=j) (by rw[HN.o];omega) HQ.o (.inl HN.o.symm));rw[show(j:Int)-(j:Int)=0 by omega];clear hk;go_wp2_with fail;go_roundw;case rel=>exact⟨i+1,by omega,by go_num,by rw[HT.o,<- HF.o];exact HO3.o,HS3.o⟩
      case measure=>simp[intOf];omega
   ·rw[if_neg hf]at HT;have hf':(x.fr != f)=true:=by simpa using hf
    clear hf;go_wp2_with fail;go_roundw;case rel=>exact⟨i+1,by omega,by go_num,by rw[HT.o];exact HO.o,HS.o⟩
    case measure=>simp[intOf];omega
  ·have hge:¬(i:Int)<(n:Int):=by omega
   obtain rfl:i=n:=by omega
   have ht:l.take i=l:=List.take_of_length_le (by have:=HL.o;omega);rw[ht]at ho;have HO:=hid (And.intro ho hs);clear ho hs hge hlt hi ht;go_wp2_with fail;go_ret;exact⟨_,rfl,HO.o.1,HO.o.2⟩
def zNn:Nn:=⟨0,0,0⟩
abbrev ncs(x:Nn):Array Value:=#[.int .i64 x.k,.int .i64 x.a,.int .i64 x.b]
def KN:Kd Nn:=⟨fun x=>(ncs x).toList,3,zNn,fun _=>rfl,fun m u hu=>by
 simp at hu;rcases hu with rfl|rfl|rfl<;>rfl,by decide⟩
theorem Nu:∃i,Tryz.prog.info? 47=some i/\i.zero=some (.agg (KN.f KN.d).toArray)/\i.size=KN.k/\i.bytes=24:=⟨_,rfl,rfl,rfl,rfl⟩
structure Cf where
 p:Int
 q:Int
 C:Int
 R:Int
 s:ByteArray
 lg:Value
abbrev gmc(F:Cf)(f fr nx:Int)(a b c d e:Value):Array Value:=#[.int .i64 F.p,.int .u64 F.q,.int .i64 F.C,.int .i64 F.R,.string F.s,F.lg,.int .i64 fr,a,b,c,d,.int .i64 nx,e,.int .i64 f]
def Gk(w:World)(g:Nat)(F:Cf)(f fr nx:Int)(a b c d e:Value):Prop:=w.heap[g]?=some (.cells (gmc F f fr nx a b c d e) 83 (0,0))
section
variable {w w':World} {g:Nat} {F:Cf} {f fr nx:Int} {a b c d e:Value}
theorem Gk.sT(h:Gk w g F f fr nx a b c d e)(hs:Yc w w'):Gk w' g F f fr nx a b c d e:=hs.kept_still h
theorem Gk.ty(h:Gk w g F f fr nx a b c d e):Tyk w g 83:=⟨_,h⟩
theorem Gk.cells(h:Gk w g F f fr nx a b c d e):w.cell? ⟨g,0,none⟩=some (.int .i64 F.p)/\w.cell? ⟨g,1,none⟩=some (.int .u64 F.q)/\w.cell? ⟨g,2,none⟩=some (.int .i64 F.C)/\w.cell? ⟨g,3,none⟩=some (.int .i64 F.R)/\w.cell? ⟨g,4,none⟩=some (.string F.s)/\w.cell? ⟨g,5,none⟩=some F.lg/\w.cell? ⟨g,6,none⟩=some (.int .i64 fr)/\w.cell? ⟨g,7,none⟩=some a/\w.cell? ⟨g,8,none⟩=some b/\w.cell? ⟨g,9,none⟩=some c/\w.cell? ⟨g,10,none⟩=some d/\w.cell? ⟨g,11,none⟩=some (.int .i64 nx)/\w.cell? ⟨g,12,none⟩=some e/\w.cell? ⟨g,13,none⟩=some (.int .i64 f)/\∀o,w.frozen? ⟨g,o,none⟩=false:=by
 refine⟨?_,?_,?_,?_,?_,?_,?_,?_,?_,?_,?_,?_,?_,?_,fun o=>frozen_of_row w g o _ _ h⟩<;>(rw[cell_of_row _ _ _ _ _ _ h];rfl)
theorem Gk.setE(h:Gk w g F f fr nx a b c d e)(v:Value):Gk (w.setCell ⟨g,12,none⟩ v) g F f fr nx a b c d v:=(heap_setCell_same w g 12 _ _ v h).trans (by kernel_rfl)
theorem Gk.setC(h:Gk w g F f fr nx a b c d e)(v:Value):Gk (w.setCell ⟨g,9,none⟩ v) g F f fr nx a b v d e:=(heap_setCell_same w g 9 _ _ v h).trans (by kernel_rfl)
theorem Gk.setD(h:Gk w g F f fr nx a b c d e)(v:Value):Gk (w.setCell ⟨g,10,none⟩ v) g F f fr nx a b c v e:=(heap_setCell_same w g 10 _ _ v h).trans (by kernel_rfl)
theorem Gk.setX(h:Gk w g F f fr nx a b c d e)(v:Int):Gk (w.setCell ⟨g,11,none⟩ (.int .i64 v)) g F f fr v a b c d e:=(heap_setCell_same w g 11 _ _ _ h).trans (by kernel_rfl)
theorem Gk.setF(h:Gk w g F f fr nx a b c d e)(v:Int):Gk (w.setCell ⟨g,6,none⟩ (.int .i64 v)) g F f v nx a b c d e:=(heap_setCell_same w g 6 _ _ _ h).trans (by kernel_rfl)
theorem Gk.keepT{B:Nat}{ts:List TypeId}(h:Gk w g F f fr nx a b c d e)(hf:FrT B ts w w')(ht:83 ∉ ts):Gk w' g F f fr nx a b c d e:=hf.kept h ht
end
def GmM(B:Nat)(w:World)(g:Nat)(F:Cf)(f:Int)(G:Gm):Prop:=B<=g/\∃a b c d e,Gk w g F f G.w.fr G.w.nx a b c d e/\OwG KM 59 w B a G.w.ms/\OwG KC 67 w B b G.w.cs/\OwG KS 69 w B c G.w.hs/\OwG KQ 71 w B d G.w.ks/\OwG KN 47 w B e G.ns
theorem GmM.sT{B:Nat}{w w':World}{g:Nat}{F:Cf}{f:Int}{G:Gm}(h:GmM B w g F f G)(hs:Yc w w'):GmM B w' g F f G:=by
 obtain⟨h0,a,b,c,d,e,h1,h2,h3,h4,h5,h6⟩:=h;exact⟨h0,a,b,c,d,e,h1.sT hs,h2.sT hs,h3.sT hs,h4.sT hs,h5.sT hs,h6.sT hs⟩
theorem OwG.setO{α:Type}{K:Kd α}{e:TypeId}{w:World}{B:Nat}{v:Value}{L:List α}(h:OwG K e w B v L){g o:Nat}{t:TypeId}(hg:Tyk w g t)(ht:e≠t)(u:Value):OwG K e (w.setCell ⟨g,o,none⟩ u) B v L:=
 h.keepT (B:=0) (ts:=[t]) ((FrT.refl 0 [t] w).set hg (by simp) (Nat.zero_le _) u) (by simp;exact ht)
structure Gx (B:Nat) (w:World) (g:Nat) (F:Cf) (f:Int) (G:Gm) (a b c d e:Value):Prop where
 hb:B<=g
 k:Gk w g F f G.w.fr G.w.nx a b c d e
 o1:OwG KM 59 w B a G.w.ms
 o2:OwG KC 67 w B b G.w.cs
 o3:OwG KS 69 w B c G.w.hs
 o4:OwG KQ 71 w B d G.w.ks
 o5:OwG KN 47 w B e G.ns
section
variable {B:Nat} {w w':World} {g:Nat} {F:Cf} {f:Int} {G:Gm} {a b c d e:Value}
theorem GmM.gx(h:GmM B w g F f G):∃a b c d e,Gx B w g F f G a b c d e:=by
 obtain⟨h0,a,b,c,d,e,h1,h2,h3,h4,h5,h6⟩:=h;exact⟨a,b,c,d,e,h0,h1,h2,h3,h4,h5,h6⟩
theorem Gx.gm(h:Gx B w g F f G a b c d e):GmM B w g F f G:=⟨h.hb,a,b,c,d,e,h.k,h.o1,h.o2,h.o3,h.o4,h.o5⟩
theorem Gx.sT(h:Gx B w g F f G a b c d e)(hs:Yc w w'):Gx B w' g F f G a b c d e:=⟨h.hb,h.k.sT hs,h.o1.sT hs,h.o2.sT hs,h.o3.sT hs,h.o4.sT hs,h.o5.sT hs⟩
end
theorem JR(B:Nat)(g:Nat)(F:Cf)(f:Int)(G:Gm)(va vb vc vd ve:Value)(k a b:Int)(w:World)(hB:B<=w.heap.size)(h:Gx B w g F f G va vb vc vd ve)(h47:(G.ns.length+1)*24<=140737488355328) :
  Calls Tryz.prog 67 #[.pointer (some ⟨g,0,none⟩),.int .i64 k,.int .i64 a,.int .i64 b] w fun e w'=>(∃v,e=.returned v)/\(∃z,Gx B w' g F f ⟨G.w,G.ns ++ [⟨k,a,b⟩]⟩ va vb vc vd z)/\FrT B [83,47] w w':=by
 obtain⟨h0,h1,h2,h3,h4,h5,h6⟩:=h;obtain⟨ao,cap,rfl,_⟩:=h6.slice;obtain⟨c0,c1,c2,c3,c4,c5,c6,c7,c8,c9,c10,c11,c12,c13,cf⟩:=h1.cells;have A4:=sA w (.cells #[.int .i64 k,.int .i64 a,.int .i64 b] 47);have HA:=hid A4;have HO4:=hid (h6.sT A4);have HX4:Hid ((w.alloc (.cells #[.int .i64 k,.int .i64 a,.int .i64 b] 47)).heap[w.heap.size]?=some (.cells #[.int .i64 k,.int .i64 a,.int .i64 b] 47 (0,0))):=hid (heap_alloc_new w _);have HB4:=hid (show B<=(w.alloc (.cells #[.int .i64 k,.int .i64 a,.int .i64 b] 47)).heap.size by rw[size_alloc];omega);have HLn:=hid h47;have H1:=hid (h1.sT A4);have H2:=hid (h2.sT A4);have H3:=hid (h3.sT A4);have H4:=hid (h4.sT A4);have H5:=hid (h5.sT A4);obtain⟨m,em⟩:∃m,G.ns.length=m:=⟨_,rfl⟩;rw[em]at HO4 c12;have HM:=hid em;clear A4 h1 h2 h3 h4 h5 h6 h47 em;go_enter Tryz.func67,Tryz.ntmps67;go_wp2_with (
  at_builtin;refine ZA KN _ rfl _ _ 38 rfl Tryz.underlying38 24 Nu B w.heap.size _ G.ns ⟨k,a,b⟩ rfl rfl HO4.o HX4.o HLn.o (by have:=HLn.o;omega) HB4.o ?_;intro v' w' ho' hf';have hT:=HO4.o.frT (ts:=[47]) hf' (Nat.le_refl B) (by simp);have k1:=H1.o.keepT hT (by decide);have HT:=hid hT;have HK:=hid k1;have HO:=hid ho';obtain⟨d0,d1,d2,d3,d4,d5,d6,d7,d8,d9,d10,d11,d12,d13,df⟩:=k1.cells;obtain⟨g',cap',rfl,_,_⟩:=ho'.head (by simp);clear hT k1 ho' hf' c0 c1 c2 c3 c4 c5 c6 c7 c8 c9 c10 c11 c12 c13 cf)
 go_end0;refine⟨⟨_,rfl⟩,⟨_,h0,HK.o.setE _,?_,?_,?_,?_,?_⟩,?_⟩
 ·exact(H2.o.keepT HT.o (by decide)).setO HK.o.ty (by decide) _
 ·exact(H3.o.keepT HT.o (by decide)).setO HK.o.ty (by decide) _
 ·exact(H4.o.keepT HT.o (by decide)).setO HK.o.ty (by decide) _
 ·exact(H5.o.keepT HT.o (by decide)).setO HK.o.ty (by decide) _
 ·have h:=HO.o;rw[show(G.ns ++ [(⟨k,a,b⟩:Nn)]).length=G.ns.length+1 by simp]at h;exact h.setO HK.o.ty (by decide) _
 ·exact(((FrT.of_still HA.o).trans (HT.o.mono (by simp))).set HK.o.ty (by simp) h0 _)
theorem Qp(B:Nat)(g:Nat)(F:Cf)(f:Int)(G:Gm)(k a b:Int)(w:World)(hB:B<=w.heap.size)(h:GmM B w g F f G)(h47:(G.ns.length+1)*24<=140737488355328) :
  Calls Tryz.prog 67 #[.pointer (some ⟨g,0,none⟩),.int .i64 k,.int .i64 a,.int .i64 b] w fun e w'=>(∃v,e=.returned v)/\GmM B w' g F f ⟨G.w,G.ns ++ [⟨k,a,b⟩]⟩/\FrT B [83,47] w w':=by
 obtain⟨va,vb,vc,vd,ve,hx⟩:=h.gx;exact(JR B g F f G va vb vc vd ve k a b w hB hx h47).mono fun e w' ⟨h1,⟨z,h2⟩,h3⟩=>⟨h1,h2.gm,h3⟩
structure Se where
 F:Cf
 st:Value
 sp:Value
 xs:Value
abbrev fmc(S:Se)(fr nx:Int)(a b c d e:Value):Array Value:=#[.int .i64 S.F.p,.int .u64 S.F.q,.int .i64 S.F.C,.int .i64 S.F.R,.string S.F.s,S.F.lg,S.st,S.sp,.int .i64 fr,a,b,c,d,.int .i64 nx,S.xs,e]
def Fmk(w:World)(g:Nat)(S:Se)(fr nx:Int)(a b c d e:Value):Prop:=w.heap[g]?=some (.cells (fmc S fr nx a b c d e) 104 (0,0))
section
variable {w w':World} {g:Nat} {S:Se} {fr nx:Int} {a b c d e:Value}
theorem Fmk.sT(h:Fmk w g S fr nx a b c d e)(hs:Yc w w'):Fmk w' g S fr nx a b c d e:=hs.kept_still h
theorem Fmk.lt(h:Fmk w g S fr nx a b c d e):g<w.heap.size:=Yz h
theorem Fmk.ty(h:Fmk w g S fr nx a b c d e):Tyk w g 104:=⟨_,h⟩
theorem Fmk.cells(h:Fmk w g S fr nx a b c d e):w.cell? ⟨g,0,none⟩=some (.int .i64 S.F.p)/\w.cell? ⟨g,1,none⟩=some (.int .u64 S.F.q)/\w.cell? ⟨g,2,none⟩=some (.int .i64 S.F.C)/\w.cell? ⟨g,3,none⟩=some (.int .i64 S.F.R)/\w.cell? ⟨g,4,none⟩=some (.string S.F.s)/\w.cell? ⟨g,5,none⟩=some S.F.lg/\w.cell? ⟨g,6,none⟩=some S.st/\w.cell? ⟨g,7,none⟩=some S.sp/\w.cell? ⟨g,8,none⟩=some (.int .i64 fr)/\w.cell? ⟨g,9,none⟩=some a/\w.cell? ⟨g,10,none⟩=some b/\w.cell? ⟨g,11,none⟩=some c/\w.cell? ⟨g,12,none⟩=some d/\w.cell? ⟨g,13,none⟩=some (.int .i64 nx)/\w.cell? ⟨g,14,none⟩=some S.xs/\w.cell? ⟨g,15,none⟩=some e/\∀o,w.frozen? ⟨g,o,none⟩=false:=by
 refine⟨?_,?_,?_,?_,?_,?_,?_,?_,?_,?_,?_,?_,?_,?_,?_,?_,fun o=>frozen_of_row w g o _ _ h⟩<;>(rw[cell_of_row _ _ _ _ _ _ h];rfl)
theorem Fmk.setF(h:Fmk w g S fr nx a b c d e)(v:Int):Fmk (w.setCell ⟨g,8,none⟩ (.int .i64 v)) g S v nx a b c d e:=(heap_setCell_same w g 8 _ _ _ h).trans (by kernel_rfl)
theorem Fmk.setC(h:Fmk w g S fr nx a b c d e)(v:Value):Fmk (w.setCell ⟨g,11,none⟩ v) g S fr nx a b v d e:=(heap_setCell_same w g 11 _ _ v h).trans (by kernel_rfl)
theorem Fmk.setD(h:Fmk w g S fr nx a b c d e)(v:Value):Fmk (w.setCell ⟨g,12,none⟩ v) g S fr nx a b c v e:=(heap_setCell_same w g 12 _ _ v h).trans (by kernel_rfl)
theorem Fmk.setX(h:Fmk w g S fr nx a b c d e)(v:Int):Fmk (w.setCell ⟨g,13,none⟩ (.int .i64 v)) g S fr v a b c d e:=(heap_setCell_same w g 13 _ _ _ h).trans (by kernel_rfl)
theorem Fmk.setE(h:Fmk w g S fr nx a b c d e)(v:Value):Fmk (w.setCell ⟨g,15,none⟩ v) g S fr nx a b c d v:=(heap_setCell_same w g 15 _ _ v h).trans (by kernel_rfl)
theorem Fmk.keepT{B:Nat}{ts:List TypeId}(h:Fmk w g S fr nx a b c d e)(hf:FrT B ts w w')(ht:104 ∉ ts):Fmk w' g S fr nx a b c d e:=hf.kept h ht
end
structure Fx (B:Nat) (w:World) (g:Nat) (S:Se) (G:Gm) (a b c d e:Value):Prop where
 hb:B<=g
 k:Fmk w g S G.w.fr G.w.nx a b c d e
 o1:OwG KM 59 w B a G.w.ms
 o2:OwG KC 67 w B b G.w.cs
 o3:OwG KS 69 w B c G.w.hs
 o4:OwG KQ 71 w B d G.w.ks
 o5:OwG KN 47 w B e G.ns
def FmM(B:Nat)(w:World)(g:Nat)(S:Se)(G:Gm):Prop:=∃a b c d e,Fx B w g S G a b c d e
section
variable {B:Nat} {w w':World} {g:Nat} {S:Se} {G:Gm} {a b c d e:Value}
theorem Fx.sT(h:Fx B w g S G a b c d e)(hs:Yc w w'):Fx B w' g S G a b c d e:=⟨h.hb,h.k.sT hs,h.o1.sT hs,h.o2.sT hs,h.o3.sT hs,h.o4.sT hs,h.o5.sT hs⟩
theorem FmM.sT(h:FmM B w g S G)(hs:Yc w w'):FmM B w' g S G:=by
 obtain⟨a,b,c,d,e,h⟩:=h;exact⟨a,b,c,d,e,h.sT hs⟩
theorem Fx.putM{gm n cp i:Nat}(h:Fx B w g S G (.slice (some ⟨gm,0,none⟩) n cp) b c d e)(hi:i<G.w.ms.length)(m:Mv):Fx B (w.setCells gm (i*KM.k) (KM.f m)) g S ⟨{ G.w with ms:=G.w.ms.set i m },G.ns⟩ (.slice (some ⟨gm,0,none⟩) n cp) b c d e/\FrT B [59] w (w.setCells gm (i*KM.k) (KM.f m)):=by
 have hT:=OwG.setT h.o1 (ts:=[59]) (by simp) (KM.f m) (i*KM.k) w (FrT.refl _ _ _) (h.o1.ty rfl);exact⟨⟨h.hb,h.k.keepT hT (by decide),h.o1.put hi m,h.o2.keepT hT (by decide),h.o3.keepT hT (by decide),h.o4.keepT hT (by decide),h.o5.keepT hT (by decide)⟩,hT⟩
theorem Fx.putC{gm n cp i:Nat}(h:Fx B w g S G a (.slice (some ⟨gm,0,none⟩) n cp) c d e)(hi:i<G.w.cs.length)(m:Scr):Fx B (w.setCells gm (i*KC.k) (KC.f m)) g S ⟨{ G.w with cs:=G.w.cs.set i m },G.ns⟩ a (.slice (some ⟨gm,0,none⟩) n cp) c d e/\FrT B [67] w (w.setCells gm (i*KC.k) (KC.f m)):=by
 have hT:=OwG.setT h.o2 (ts:=[67]) (by simp) (KC.f m) (i*KC.k) w (FrT.refl _ _ _) (h.o2.ty rfl);exact⟨⟨h.hb,h.k.keepT hT (by decide),h.o1.keepT hT (by decide),h.o2.put hi m,h.o3.keepT hT (by decide),h.o4.keepT hT (by decide),h.o5.keepT hT (by decide)⟩,hT⟩
theorem Fx.frT(h:Fx B w g S G a b c d e)(o:Nat)(v:Value):FrT B [104] w (w.setCell ⟨g,o,none⟩ v):=(FrT.refl B [104] w).set h.k.ty (by simp) h.hb v
theorem Fx.setC(h:Fx B w g S G a b c d e)(v:Value)(L:List Sh)(hv:OwG KS 69 w B v L):Fx B (w.setCell ⟨g,11,none⟩ v) g S ⟨{ G.w with hs:=L },G.ns⟩ a b v d e:=
 ⟨h.hb,h.k.setC v,h.o1.setO h.k.ty (by decide) _,h.o2.setO h.k.ty (by decide) _,hv.setO h.k.ty (by decide) _,h.o4.setO h.k.ty (by decide) _,h.o5.setO h.k.ty (by decide) _⟩
theorem Fx.setD(h:Fx B w g S G a b c d e)(v:Value)(L:List Pk)(hv:OwG KQ 71 w B v L):Fx B (w.setCell ⟨g,12,none⟩ v) g S ⟨{ G.w with ks:=L },G.ns⟩ a b c v e:=
 ⟨h.hb,h.k.setD v,h.o1.setO h.k.ty (by decide) _,h.o2.setO h.k.ty (by decide) _,h.o3.setO h.k.ty (by decide) _,hv.setO h.k.ty (by decide) _,h.o5.setO h.k.ty (by decide) _⟩
theorem Fx.setX(h:Fx B w g S G a b c d e)(v:Int):Fx B (w.setCell ⟨g,13,none⟩ (.int .i64 v)) g S ⟨{ G.w with nx:=v },G.ns⟩ a b c d e:=
 ⟨h.hb,h.k.setX v,h.o1.setO h.k.ty (by decide) _,h.o2.setO h.k.ty (by decide) _,h.o3.setO h.k.ty (by decide) _,h.o4.setO h.k.ty (by decide) _,h.o5.setO h.k.ty (by decide) _⟩
theorem Fx.setF(h:Fx B w g S G a b c d e)(v:Int):Fx B (w.setCell ⟨g,8,none⟩ (.int .i64 v)) g S ⟨{ G.w with fr:=v },G.ns⟩ a b c d e:=
 ⟨h.hb,h.k.setF v,h.o1.setO h.k.ty (by decide) _,h.o2.setO h.k.ty (by decide) _,h.o3.setO h.k.ty (by decide) _,h.o4.setO h.k.ty (by decide) _,h.o5.setO h.k.ty (by decide) _⟩
end
theorem Nv(B:Nat)(g:Nat)(S:Se)(G:Gm)(va vb vc vd ve:Value)(k a b:Int)(w:World)(hB:B<=w.heap.size)(hx:Fx B w g S G va vb vc vd ve)(h47:(G.ns.length+1)*24<=140737488355328) :
  Calls Tryz.prog 172 #[.pointer (some ⟨g,0,none⟩),.int .i64 k,.int .i64 a,.int .i64 b] w fun e w'=>(∃v,e=.returned v)/\(∃vn,Fx B w' g S ⟨G.w,G.ns ++ [⟨k,a,b⟩]⟩ va vb vc vd vn)/\FrT B [104,47] w w':=by
 obtain⟨ao,cap,rfl,_⟩:=hx.o5.slice;obtain⟨c0,c1,c2,c3,c4,c5,c6,c7,c8,c9,c10,c11,c12,c13,c14,c15,cf⟩:=hx.k.cells;have A4:=sA w (.cells #[.int .i64 k,.int .i64 a,.int .i64 b] 47);have HA:=hid A4;have HX4:Hid ((w.alloc (.cells #[.int .i64 k,.int .i64 a,.int .i64 b] 47)).heap[w.heap.size]?=some (.cells #[.int .i64 k,.int .i64 a,.int .i64 b] 47 (0,0))):=hid (heap_alloc_new w _);have HB4:=hid (show B<=(w.alloc (.cells #[.int .i64 k,.int .i64 a,.int .i64 b] 47)).heap.size by rw[size_alloc];omega);have HLn:=hid h47;have H1:=hid (hx.sT A4);have HO4:=hid (hx.o5.sT A4);obtain⟨m,em⟩:∃m,G.ns.length=m:=⟨_,rfl⟩;rw[em]at HO4 c15;have HM:=hid em;clear A4 hx h47 em;go_enter Tryz.func172,Tryz.ntmps172;go_wp2_with (
  at_builtin;refine ZA KN _ rfl _ _ 38 rfl Tryz.underlying38 24 Nu B w.heap.size _ G.ns ⟨k,a,b⟩ rfl rfl HO4.o HX4.o HLn.o (by have:=HLn.o;omega) HB4.o ?_;intro v' w' ho' hf';have hT:=HO4.o.frT (ts:=[47]) hf' (Nat.le_refl B) (by simp);have HT:=hid hT;have HO:=hid ho';have k1:=H1.o.k.keepT hT (by decide);have HK:=hid k1;obtain⟨d0,d1,d2,d3,d4,d5,d6,d7,d8,d9,d10,d11,d12,d13,d14,d15,df⟩:=k1.cells;obtain⟨g',cap',rfl,_,_⟩:=ho'.head (by simp);clear hT k1 ho' hf' c0 c1 c2 c3 c4 c5 c6 c7 c8 c9 c10 c11 c12 c13 c14 c15 cf)
 go_end0;refine⟨⟨_,rfl⟩,⟨_,H1.o.hb,HK.o.setE _,?_,?_,?_,?_,?_⟩,?_⟩
 ·exact(H1.o.o1.keepT HT.o (by decide)).setO HK.o.ty (by decide) _
 ·exact(H1.o.o2.keepT HT.o (by decide)).setO HK.o.ty (by decide) _
 ·exact(H1.o.o3.keepT HT.o (by decide)).setO HK.o.ty (by decide) _
 ·exact(H1.o.o4.keepT HT.o (by decide)).setO HK.o.ty (by decide) _
 ·have h:=HO.o;rw[show(G.ns ++ [(⟨k,a,b⟩:Nn)]).length=G.ns.length+1 by simp]at h;exact h.setO HK.o.ty (by decide) _
 ·exact(((FrT.of_still HA.o).trans (HT.o.mono (by simp))).set HK.o.ty (by simp) H1.o.hb _)
theorem Uh(B:Nat)(g:Nat)(S:Se)(G:Gm)(k a b:Int)(w:World)(hB:B<=w.heap.size)(h:FmM B w g S G)(h47:(G.ns.length+1)*24<=140737488355328) :
  Calls Tryz.prog 172 #[.pointer (some ⟨g,0,none⟩),.int .i64 k,.int .i64 a,.int .i64 b] w fun e w'=>(∃v,e=.returned v)/\FmM B w' g S ⟨G.w,G.ns ++ [⟨k,a,b⟩]⟩/\FrT B [104,47] w w':=by
 obtain⟨va,vb,vc,vd,ve,hx⟩:=h;refine(Nv B g S G va vb vc vd ve k a b w hB hx h47).mono ?_;rintro e w' ⟨h1,⟨vn,h2⟩,h3⟩;exact⟨h1,⟨_,_,_,_,_,h2⟩,h3⟩
theorem Fmk.cl{w:World}{g:Nat}{S:Se}{fr nx:Int}{a b c d e:Value}(h:Fmk w g S fr nx a b c d e):(∀z:Aft w,z.u.cell? ⟨g,0,none⟩=some (.int .i64 S.F.p))/\(∀z:Aft w,z.u.cell? ⟨g,1,none⟩=some (.int .u64 S.F.q))/\(∀z:Aft w,z.u.cell? ⟨g,2,none⟩=some (.int .i64 S.F.C))/\(∀z:Aft w,z.u.cell? ⟨g,3,none⟩=some (.int .i64 S.F.R))/\(∀z:Aft w,z.u.cell? ⟨g,4,none⟩=some (.string S.F.s))/\(∀z:Aft w,z.u.cell? ⟨g,5,none⟩=some S.F.lg)/\(∀z:Aft w,z.u.cell? ⟨g,6,none⟩=some S.st)/\(∀z:Aft w,z.u.cell? ⟨g,7,none⟩=some S.sp)/\(∀z:Aft w,z.u.cell? ⟨g,8,none⟩=some (.int .i64 fr))/\(∀z:Aft w,z.u.cell? ⟨g,9,none⟩=some a)/\(∀z:Aft w,z.u.cell? ⟨g,10,none⟩=some b)/\(∀z:Aft w,z.u.cell? ⟨g,11,none⟩=some c)/\(∀z:Aft w,z.u.cell? ⟨g,12,none⟩=some d)/\(∀z:Aft w,z.u.cell? ⟨g,13,none⟩=some (.int .i64 nx))/\(∀z:Aft w,z.u.cell? ⟨g,14,none⟩=some S.xs)/\(∀z:Aft w,z.u.cell? ⟨g,15,none⟩=some e):=by
 obtain⟨c0,c1,c2,c3,c4,c5,c6,c7,c8,c9,c10,c11,c12,c13,c14,c15,_⟩:=h.cells;exact⟨kC c0,kC c1,kC c2,kC c3,kC c4,kC c5,kC c6,kC c7,kC c8,kC c9,kC c10,kC c11,kC c12,kC c13,kC c14,kC c15⟩
theorem Mb.cl{w:World}{g:Nat}{m:Mv}(h:Mb w g m):(∀z:Aft w,z.u.cell? ⟨g,0,none⟩=some (.int .i64 m.ax))/\(∀z:Aft w,z.u.cell? ⟨g,1,none⟩=some (.int .i64 m.ay))/\(∀z:Aft w,z.u.cell? ⟨g,2,none⟩=some (.int .i64 m.sx))/\(∀z:Aft w,z.u.cell? ⟨g,3,none⟩=some (.int .i64 m.sy))/\(∀z:Aft w,z.u.cell? ⟨g,4,none⟩=some (.int .i64 m.px))/\(∀z:Aft w,z.u.cell? ⟨g,5,none⟩=some (.int .i64 m.py))/\(∀z:Aft w,z.u.cell? ⟨g,6,none⟩=some (.int .i64 m.fc))/\(∀z:Aft w,z.u.cell? ⟨g,7,none⟩=some (.int .i64 m.hl))/\(∀z:Aft w,z.u.cell? ⟨g,8,none⟩=some (.int .i64 m.en))/\(∀z:Aft w,z.u.cell? ⟨g,9,none⟩=some (.bool m.sh))/\(∀z:Aft w,z.u.cell? ⟨g,10,none⟩=some (.int .i64 m.co))/\(∀z:Aft w,z.u.cell? ⟨g,11,none⟩=some (.int .i64 m.ou))/\(∀z:Aft w,z.u.cell? ⟨g,12,none⟩=some (.int .i64 m.sd)):=by
 obtain⟨c0,c1,c2,c3,c4,c5,c6,c7,c8,c9,c10,c11,c12,_⟩:=h.cells;exact⟨kC c0,kC c1,kC c2,kC c3,kC c4,kC c5,kC c6,kC c7,kC c8,kC c9,kC c10,kC c11,kC c12⟩
theorem Sb.cl{w:World}{g:Nat}{m:Sh}(h:Sb w g m):(∀z:Aft w,z.u.cell? ⟨g,0,none⟩=some (.int .i64 m.no))/\(∀z:Aft w,z.u.cell? ⟨g,1,none⟩=some (.int .i64 m.ow))/\(∀z:Aft w,z.u.cell? ⟨g,2,none⟩=some (.int .i64 m.pw))/\(∀z:Aft w,z.u.cell? ⟨g,3,none⟩=some (.int .i64 m.ax))/\(∀z:Aft w,z.u.cell? ⟨g,4,none⟩=some (.int .i64 m.ay))/\(∀z:Aft w,z.u.cell? ⟨g,5,none⟩=some (.int .i64 m.sx))/\(∀z:Aft w,z.u.cell? ⟨g,6,none⟩=some (.int .i64 m.sy))/\(∀z:Aft w,z.u.cell? ⟨g,7,none⟩=some (.int .i64 m.lf)):=by
 obtain⟨c0,c1,c2,c3,c4,c5,c6,c7,_⟩:=h.cells;exact⟨kC c0,kC c1,kC c2,kC c3,kC c4,kC c5,kC c6,kC c7⟩
theorem Cb.cl{w:World}{g:Nat}{m:Scr}(h:Cb w g m):(∀z:Aft w,z.u.cell? ⟨g,0,none⟩=some (.int .i64 m.p))/\(∀z:Aft w,z.u.cell? ⟨g,1,none⟩=some (.int .i64 m.h))/\(∀z:Aft w,z.u.cell? ⟨g,2,none⟩=some (.int .i64 m.o))/\(∀z:Aft w,z.u.cell? ⟨g,3,none⟩=some (.int .i64 m.k)):=by
 obtain⟨c0,c1,c2,c3,_⟩:=h.cells;exact⟨kC c0,kC c1,kC c2,kC c3⟩
theorem Kb.cl{w:World}{g:Nat}{m:Pk}(h:Kb w g m):(∀z:Aft w,z.u.cell? ⟨g,0,none⟩=some (.int .i64 m.no))/\(∀z:Aft w,z.u.cell? ⟨g,1,none⟩=some (.int .i64 m.sp))/\(∀z:Aft w,z.u.cell? ⟨g,2,none⟩=some (.int .i64 m.kd)):=by
 obtain⟨c0,c1,c2,_⟩:=h.cells;exact⟨kC c0,kC c1,kC c2⟩
theorem Xb.cl{w:World}{g:Nat}{m:Cm}(h:Xb w g m):(∀z:Aft w,z.u.cell? ⟨g,0,none⟩=some (.int .i64 m.fr))/\(∀z:Aft w,z.u.cell? ⟨g,1,none⟩=some (.int .i64 m.pe))/\(∀z:Aft w,z.u.cell? ⟨g,2,none⟩=some (.int .i64 m.sq))/\(∀z:Aft w,z.u.cell? ⟨g,3,none⟩=some (.int .i64 m.v))/\(∀z:Aft w,z.u.cell? ⟨g,4,none⟩=some (.int .i64 m.a))/\(∀z:Aft w,z.u.cell? ⟨g,5,none⟩=some (.int .i64 m.b))/\(∀z:Aft w,z.u.cell? ⟨g,6,none⟩=some (.int .i64 m.c)):=by
 obtain⟨c0,c1,c2,c3,c4,c5,c6,_⟩:=h.cells;exact⟨kC c0,kC c1,kC c2,kC c3,kC c4,kC c5,kC c6⟩
theorem owS{e:TypeId}{w:World}{B g n cap:Nat}{L:List Sh}(h:OwG KS e w B (.slice (some ⟨g,0,none⟩) n cap) L){i:Nat}(hi:i<L.length):w.cell? ⟨g,i*8,none⟩=some (.int .i64 (ss L i).no)/\w.cell? ⟨g,i*8+1,none⟩=some (.int .i64 (ss L i).ow)/\w.cell? ⟨g,i*8+2,none⟩=some (.int .i64 (ss L i).pw)/\w.cell? ⟨g,i*8+3,none⟩=some (.int .i64 (ss L i).ax)/\w.cell? ⟨g,i*8+4,none⟩=some (.int .i64 (ss L i).ay)/\w.cell? ⟨g,i*8+5,none⟩=some (.int .i64 (ss L i).sx)/\w.cell? ⟨g,i*8+6,none⟩=some (.int .i64 (ss L i).sy)/\w.cell? ⟨g,i*8+7,none⟩=some (.int .i64 (ss L i).lf)/\∀o,w.frozen? ⟨g,o,none⟩=false:=
 ⟨h.get hi 0 _ rfl,h.get hi 1 _ rfl,h.get hi 2 _ rfl,h.get hi 3 _ rfl,h.get hi 4 _ rfl,h.get hi 5 _ rfl,h.get hi 6 _ rfl,h.get hi 7 _ rfl,h.frozen⟩
theorem owQ{e:TypeId}{w:World}{B g n cap:Nat}{L:List Pk}(h:OwG KQ e w B (.slice (some ⟨g,0,none⟩) n cap) L){i:Nat}(hi:i<L.length):w.cell? ⟨g,i*3,none⟩=some (.int .i64 (pk L i).no)/\w.cell? ⟨g,i*3+1,none⟩=some (.int .i64 (pk L i).sp)/\w.cell? ⟨g,i*3+2,none⟩=some (.int .i64 (pk L i).kd)/\∀o,w.frozen? ⟨g,o,none⟩=false:=
 ⟨h.get hi 0 _ rfl,h.get hi 1 _ rfl,h.get hi 2 _ rfl,h.frozen⟩
theorem VE{e:TypeId}{w:World}{B g n cap:Nat}{L:List Mv}(h:OwG KM e w B (.slice (some ⟨g,0,none⟩) n cap) L){i:Nat}(hi:i<L.length){x:Mv}(hx:mm L i=x):(∀z:Aft w,z.u.cell? ⟨g,i*13,none⟩=some (.int .i64 x.ax))/\(∀z:Aft w,z.u.cell? ⟨g,i*13+1,none⟩=some (.int .i64 x.ay))/\(∀z:Aft w,z.u.cell? ⟨g,i*13+2,none⟩=some (.int .i64 x.sx))/\(∀z:Aft w,z.u.cell? ⟨g,i*13+3,none⟩=some (.int .i64 x.sy))/\(∀z:Aft w,z.u.cell? ⟨g,i*13+4,none⟩=some (.int .i64 x.px))/\(∀z:Aft w,z.u.cell? ⟨g,i*13+5,none⟩=some (.int .i64 x.py))/\(∀z:Aft w,z.u.cell? ⟨g,i*13+6,none⟩=some (.int .i64 x.fc))/\(∀z:Aft w,z.u.cell? ⟨g,i*13+7,none⟩=some (.int .i64 x.hl))/\(∀z:Aft w,z.u.cell? ⟨g,i*13+8,none⟩=some (.int .i64 x.en))/\(∀z:Aft w,z.u.cell? ⟨g,i*13+9,none⟩=some (.bool x.sh))/\(∀z:Aft w,z.u.cell? ⟨g,i*13+10,none⟩=some (.int .i64 x.co))/\(∀z:Aft w,z.u.cell? ⟨g,i*13+11,none⟩=some (.int .i64 x.ou))/\(∀z:Aft w,z.u.cell? ⟨g,i*13+12,none⟩=some (.int .i64 x.sd)):=by
 subst hx;obtain⟨c0,c1,c2,c3,c4,c5,c6,c7,c8,c9,c10,c11,c12,_⟩:=owM h hi;exact⟨kC c0,kC c1,kC c2,kC c3,kC c4,kC c5,kC c6,kC c7,kC c8,kC c9,kC c10,kC c11,kC c12⟩
theorem Dn{e:TypeId}{w:World}{B g n cap:Nat}{L:List Scr}(h:OwG KC e w B (.slice (some ⟨g,0,none⟩) n cap) L){i:Nat}(hi:i<L.length){x:Scr}(hx:sc L i=x):(∀z:Aft w,z.u.cell? ⟨g,i*4,none⟩=some (.int .i64 x.p))/\(∀z:Aft w,z.u.cell? ⟨g,i*4+1,none⟩=some (.int .i64 x.h))/\(∀z:Aft w,z.u.cell? ⟨g,i*4+2,none⟩=some (.int .i64 x.o))/\(∀z:Aft w,z.u.cell? ⟨g,i*4+3,none⟩=some (.int .i64 x.k)):=by
 subst hx;obtain⟨c0,c1,c2,c3,_⟩:=owC h hi;exact⟨kC c0,kC c1,kC c2,kC c3⟩
theorem Dp{e:TypeId}{w:World}{B g n cap:Nat}{L:List Sh}(h:OwG KS e w B (.slice (some ⟨g,0,none⟩) n cap) L){i:Nat}(hi:i<L.length){x:Sh}(hx:ss L i=x):(∀z:Aft w,z.u.cell? ⟨g,i*8,none⟩=some (.int .i64 x.no))/\(∀z:Aft w,z.u.cell? ⟨g,i*8+1,none⟩=some (.int .i64 x.ow))/\(∀z:Aft w,z.u.cell? ⟨g,i*8+2,none⟩=some (.int .i64 x.pw))/\(∀z:Aft w,z.u.cell? ⟨g,i*8+3,none⟩=some (.int .i64 x.ax))/\(∀z:Aft w,z.u.cell? ⟨g,i*8+4,none⟩=some (.int .i64 x.ay))/\(∀z:Aft w,z.u.cell? ⟨g,i*8+5,none⟩=some (.int .i64 x.sx))/\(∀z:Aft w,z.u.cell? ⟨g,i*8+6,none⟩=some (.int .i64 x.sy))/\(∀z:Aft w,z.u.cell? ⟨g,i*8+7,none⟩=some (.int .i64 x.lf)):=by
 subst hx;obtain⟨c0,c1,c2,c3,c4,c5,c6,c7,_⟩:=owS h hi;exact⟨kC c0,kC c1,kC c2,kC c3,kC c4,kC c5,kC c6,kC c7⟩
theorem Rj{e:TypeId}{w:World}{B g n cap:Nat}{L:List Pk}(h:OwG KQ e w B (.slice (some ⟨g,0,none⟩) n cap) L){i:Nat}(hi:i<L.length){x:Pk}(hx:pk L i=x):(∀z:Aft w,z.u.cell? ⟨g,i*3,none⟩=some (.int .i64 x.no))/\(∀z:Aft w,z.u.cell? ⟨g,i*3+1,none⟩=some (.int .i64 x.sp))/\(∀z:Aft w,z.u.cell? ⟨g,i*3+2,none⟩=some (.int .i64 x.kd)):=by
 subst hx;obtain⟨c0,c1,c2,_⟩:=owQ h hi;exact⟨kC c0,kC c1,kC c2⟩
theorem Dq{e:TypeId}{w:World}{B g n cap:Nat}{L:List (Int × Int)}(h:OwG KT e w B (.slice (some ⟨g,0,none⟩) n cap) L){i:Nat}(hi:i<L.length){x:(Int × Int)}(hx:pp L i=x):(∀z:Aft w,z.u.cell? ⟨g,i*2,none⟩=some (.int .i64 x.1))/\(∀z:Aft w,z.u.cell? ⟨g,i*2+1,none⟩=some (.int .i64 x.2)):=by
 subst hx;obtain⟨c0,c1,_⟩:=owT h hi;exact⟨kC c0,kC c1⟩
end
section
def IsB(e:Ending)(Q:Prop):Prop:=∃b,e=.returned (.bool b)/\(b=true ↔ Q)
theorem IsB.yes{Q:Prop}(h:Q):IsB (.returned (.bool true)) Q:=⟨true,rfl,⟨fun _=>h,fun _=>rfl⟩⟩
theorem IsB.no{Q:Prop}(h:¬Q):IsB (.returned (.bool false)) Q:=⟨false,rfl,⟨fun e=>(by cases e),fun q=>absurd q h⟩⟩
end
namespace Hg
open Pu Gp Ap Vp Np Za Ka Ja Ea Ha
section
variable {σ:Type} (step:σ->Int × Int->σ)
def YK(l:List (Int × Int))(i:Nat)(g:σ):σ:=(l.filter fun t=>t.1 == (i:Int)).foldl step g
def YP(l:List (Int × Int))(i:Nat)(g:σ):σ:=(l.filter fun t=>decide (t.1<(i:Int))).foldl step g
theorem Nw(l:List (Int × Int))(i k:Nat)(h:k<l.length)(g:σ):YK step (l.take (k+1)) i g=if(pp l k).1=(i:Int)then step (YK step (l.take k) i g) (pp l k)else YK step (l.take k) i g:=by
 have e:pp l k=l[k]:=by simp[pp,List.getD,h]
 unfold YK;rw[List.take_succ_eq_append_getElem h,List.filter_append,List.foldl_append,e];by_cases hi:l[k].1=(i:Int)
 ·simp[hi]
 ·simp[hi]
theorem Nx(l:List (Int × Int))(i:Nat)(g:σ):YK step (l.take 0) i g=g:=by simp[YK]
theorem Ny{l:List (Int × Int)}(h:∀t∈l,0<=t.1)(g:σ):YP step l 0 g=g:=by
 unfold YP;have e:(l.filter fun t=>decide (t.1<((0:Nat):Int)))=[]:=by
  rw[List.filter_eq_nil_iff];intro t ht;have:=h t ht;simp;omega
 rw[e];rfl
theorem Nz{l:List (Int × Int)}{n:Nat}(h:∀t∈l,t.1<(n:Int))(g:σ):YP step l n g=l.foldl step g:=by
 unfold YP;rw[List.filter_eq_self.2 (fun t ht=>by simpa using h t ht)]
theorem N5{i:Nat}:∀{l:List (Int × Int)},l.Pairwise (fun a b=>a.1<b.1)->(l.filter fun t=>decide (t.1<((i+1:Nat):Int)))=(l.filter fun t=>decide (t.1<(i:Int))) ++ l.filter fun t=>t.1 == (i:Int)
 | [],_=>rfl
 | x :: l,h=>by
  obtain⟨h1,h2⟩:=List.pairwise_cons.1 h;have ih:=N5 (i:=i) h2;rw[List.filter_cons,List.filter_cons,List.filter_cons,ih];by_cases hx:x.1<(i:Int)
  ·have a1:x.1<((i+1:Nat):Int):=by omega
   have a2:¬x.1=(i:Int):=by omega
   simp[hx,a2];omega
  ·by_cases hy:x.1=(i:Int)
   ·have a1:x.1<((i+1:Nat):Int):=by omega
    have e1:(l.filter fun t=>decide (t.1<(i:Int)))=[]:=by
     rw[List.filter_eq_nil_iff];intro t ht;have:=h1 t ht;simp;omega
    rw[e1];simp[hy];omega
   ·have a1:¬x.1<((i+1:Nat):Int):=by omega
    simp[hx,hy];omega
theorem N6{l:List (Int × Int)}(h:l.Pairwise (fun a b=>a.1<b.1))(i:Nat)(g:σ):YP step l (i+1) g=YK step l i (YP step l i g):=by
 unfold YP YK;rw[N5 h,List.foldl_append]
end
theorem Dr(P:Nat->Nat->Bool)(n:Nat):∀m,(Yj P n m).Pairwise (fun a b=>a.1<b.1)/\∀t∈Yj P n m,0<=t.1/\t.1<(m:Int)
 | 0=>by simp[Yj]
 | m+1=>by
  obtain⟨h1,h2⟩:=Dr P n m;rw[Yj];refine⟨List.pairwise_append.2 ⟨h1,?_,fun a ha b hb=>?_⟩,fun t ht=>?_⟩
  ·split<;>simp
  ·have:=h2 a ha;split at hb
   ·simp at hb;subst hb;exact this.2
   ·simp at hb
  ·rcases List.mem_append.1 ht with h|h
   ·have:=h2 t h;omega
   ·split at h
    ·simp at h;subst h;simp;omega
    ·simp at h
theorem sho_rise{L:List Mv}{S:List Sh}:(sho L S).Pairwise (fun a b=>a.1<b.1)/\∀t∈sho L S,0<=t.1/\t.1<(S.length:Int):=by
 unfold sho;split
 ·exact Dr _ _ _
 ·simp
theorem pic_rise{L:List Mv}{Q:List Pk}{T:List (Int × Int)}:(pic L Q T).Pairwise (fun a b=>a.1<b.1)/\∀t∈pic L Q T,0<=t.1/\t.1<(Q.length:Int):=by
 unfold pic;split
 ·exact Dr _ _ _
 ·simp
theorem met_step(l:List (Int × Int))(i k:Nat)(h:k<l.length):Y6 (l.take (k+1)) i=(Y6 (l.take k) i || (pp l k).1 == (i:Int)):=by
 have e:pp l k=l[k]:=by simp[pp,List.getD,h]
 unfold Y6;rw[List.take_succ_eq_append_getElem h,List.any_append,e];simp
theorem Qq{α:Type}(F:List α)(l:List (Int × Int))(i:Nat)(h:i<F.length):Yu (F.take (i+1)) l=Yu (F.take i) l ++ (if Y6 l i then []else [F[i]]):=by
 unfold Yu;rw[List.take_succ_eq_append_getElem h,List.zipIdx_append,List.filter_append,List.map_append];simp only[List.length_take,Nat.min_eq_left (Nat.le_of_lt h),List.zipIdx_singleton,List.filter_cons,List.filter_nil,Nat.zero_add];cases Y6 l i<;>simp
theorem JS{α:Type}(F:List α)(l:List (Int × Int)):(Yu F l).length<=F.length:=(GZ F l).length_le
end Hg
section
open Go.RowKit
open Pu Gp Ap Vp Np Za Ka Ja Ea Ha Hg
theorem N7{n N:Nat}(h:(n+8)*24<=N):(n+1)*24<=N:=by omega
theorem N8{α:Type}{L:List α}(x:α){N:Nat}(h:(L.length+8)*24<=N):((L ++ [x]).length+1)*24<=N:=by
 have e:(L ++ [x]).length=L.length+1:=by simp
 omega
def glN(E:Env)(L:List Mv):Nat->List Mv
 | 0=>L
 | i+1=>(glN E L i).set i (Zl E.sol (mm L i))
theorem Ui(E:Env)(L:List Mv):∀i,(glN E L i).length=L.length
 | 0=>rfl
 | i+1=>by rw[glN,List.length_set,Ui E L i]
theorem Qr(E:Env){L:List Mv}:∀{i:Nat},i<=L.length->∀k,k<L.length->mm (glN E L i) k=if k<i then Zl E.sol (mm L k)else mm L k
 | 0,_,k,_=>by simp[glN]
 | i+1,h,k,hk=>by
  rw[glN,Qb (by rw[Ui];omega),Qr E (by omega) k hk];by_cases e:k=i
  ·subst e;simp
  ·rw[if_neg e];by_cases hki:k<i
   ·rw[if_pos hki,if_pos (by omega)]
   ·rw[if_neg hki,if_neg (by omega)]
theorem Ds(E:Env)(L:List Mv):glN E L L.length=L.map (Zl E.sol):=by
 apply List.ext_getElem
 ·rw[Ui,List.length_map]
 ·intro i h1 h2;rw[Ui]at h1;have:=Qr E (L:=L) (Nat.le_refl _) i h1;rw[if_pos h1,Uf (by rw[Ui];exact h1),Uf h1]at this;rw[this,List.getElem_map]
theorem N9{L:List Mv}{k:Nat}(h:k<(Ja.bod L).length):∃i j:Nat,pp (Ja.bod L) k=((i:Int),(j:Int))/\i<L.length/\j<L.length:=by
 have hm:pp (Ja.bod L) k∈Ja.bod L:=by
  rw[show pp (Ja.bod L) k=(Ja.bod L)[k] by simp[pp,List.getD,h]];exact List.getElem_mem h
 unfold Ja.bod at hm;split at hm
 ·obtain⟨i,j,h1,h2,_,h4,_⟩:=GV hm;exact⟨i,j,by unfold Ja.bod;rw[if_pos ‹_›];exact h4,h1,h2⟩
 ·simp at hm
theorem NA(l:List (Int × Int))(g:Gm){k:Nat}(h:k<l.length):YT (l.take (k+1)) g=ZS (YT (l.take k) g) (pp l k):=by
 unfold YT;rw[List.take_succ_eq_append_getElem h,List.foldl_append,show pp l k=l[k] by simp[pp,List.getD,h]];rfl
theorem Dt(l:List (Int × Int)):∀g:Gm,(YT l g).w.ms.length=g.w.ms.length/\(YT l g).ns.length=g.ns.length+l.length:=by
 induction l with
 | nil=>intro g;exact⟨rfl,rfl⟩
 | cons t l ih =>
  intro g;have:=ih (ZS g t);unfold YT at this⊢;rw[List.foldl_cons];refine⟨this.1.trans (by simp[ZS]),this.2.trans ?_⟩;simp[ZS];omega
theorem Rk{n m N:Nat}(e:n=m)(h:(m+1)*24<=N):(n+1)*24<=N:=by subst e;exact h
theorem Rl{α:Type}{L M:List α}{m N:Nat}(e:L=M)(h:(M.length+m+1)*24<=N):(L.length+m+1)*24<=N:=by subst e;exact h
theorem Rm{n m N:Nat}(h:(n+40)*24<=N)(hm:m<=36):(n+m+1)*24<=N:=Nat.le_trans (Nat.mul_le_mul_right 24 (by omega)) h
def Vk(E:Env)(g:Gm):Gm:=⟨{ g.w with hs:=Yq E g.w.hs },g.ns⟩
def Vl(g:Gm):Gm:=⟨{ (YD g.w.hs (sho g.w.ms g.w.hs) g).w with hs:=Yu g.w.hs (sho g.w.ms g.w.hs) },(YD g.w.hs (sho g.w.ms g.w.hs) g).ns⟩
def Xo(E:Env)(g:Gm):Gm:=⟨{ (YE g.w.ks (pic g.w.ms g.w.ks E.sp) g).w with ks:=Yu g.w.ks (pic g.w.ms g.w.ks E.sp) },(YE g.w.ks (pic g.w.ms g.w.ks E.sp) g).ns⟩
def XQ(E:Env)(f:Int)(g:Gm):Gm:=
 if g.w.nx<=1099511627776/\comes g.w.ks f (E.sp.length:Int) g.w.nx=true then
  ⟨{ g.w with ks:=g.w.ks ++ [Yr E.q f g.w.ks (E.sp.length:Int) g.w.nx],nx:=g.w.nx+1 },g.ns ++ [⟨6,(Yr E.q f g.w.ks (E.sp.length:Int) g.w.nx).sp,(Yr E.q f g.w.ks (E.sp.length:Int) g.w.nx).kd⟩]⟩
 else g
theorem Rn(H:List Sh)(g:Gm)(s:Sh)(t:Int):Yx ⟨{ g.w with hs:=H },g.ns⟩ s t=⟨{ (Yx g s t).w with hs:=H },(Yx g s t).ns⟩:=by
 unfold Yx;dsimp only;split<;>rfl
theorem NC(H F:List Sh):∀(l:List (Int × Int)) (g:Gm),YD F l ⟨{ g.w with hs:=H },g.ns⟩=⟨{ (YD F l g).w with hs:=H },(YD F l g).ns⟩
 | [],_=>rfl
 | t :: l,g=>by
  show YD F l (Yx ⟨{ g.w with hs:=H },g.ns⟩ (ss F t.1.toNat) t.2)=_;rw[Rn,NC H F l];rfl
theorem ND(E:Env)(g:Gm):X7 E g=Vl (Vk E g):=by
 exact(congrArg (fun z:Gm=>(⟨{ z.w with hs:=Yu (Yq E g.w.hs) (sho g.w.ms (Yq E g.w.hs)) },z.ns⟩:Gm)) (NC (Yq E g.w.hs) (Yq E g.w.hs) (sho g.w.ms (Yq E g.w.hs)) g)).symm
theorem Uj(Q:List Pk):∀(l:List (Int × Int)) (g:Gm),(YE Q l g).w.ks=g.w.ks/\(YE Q l g).w.nx=g.w.nx/\(YE Q l g).w.fr=g.w.fr/\(YE Q l g).w.hs=g.w.hs
 | [],_=>⟨rfl,rfl,rfl,rfl⟩
 | t :: l,g=>by
  have:=Uj Q l (Yy Q g t);exact⟨this.1,this.2.1,this.2.2.1,this.2.2.2⟩
theorem NE(E:Env)(f:Int)(g:Gm):Xm E f g=XQ E f (Xo E g):=by
 unfold Xm XQ Xo;dsimp only
theorem Ro(E:Env)(w:Wd)(l:List Cm):frame E w l=(let g1:=Zd E (YJ l ⟨w,[]⟩);let g3:=XM E (XQ E (w.fr+1) (Xo E (Vl (Vk E (YT (bod g1.w.ms) g1)))));⟨{ g3.w with fr:=w.fr+1 },g3.ns⟩):=by
 unfold frame;dsimp only;rw[ND,NE]
theorem Qs(F:List Sh):∀(l:List (Int × Int)) (g:Gm),(YD F l g).w.fr=g.w.fr/\(YD F l g).w.hs=g.w.hs/\(YD F l g).w.ks=g.w.ks/\(YD F l g).w.nx=g.w.nx
 | [],_=>⟨rfl,rfl,rfl,rfl⟩
 | t :: l,g=>by
  have h1:=EZ g (ss F t.1.toNat) t.2;have h2:=Qs F l (Yx g (ss F t.1.toNat) t.2);exact⟨h2.1.trans h1.1,h2.2.1.trans h1.2.1,h2.2.2.1.trans h1.2.2.1,h2.2.2.2.trans h1.2.2.2⟩
theorem Du{α β:Type}(f:β->α->β)(l:List α)(g:β){k:Nat}(h:k<l.length):(l.take (k+1)).foldl f g=f ((l.take k).foldl f g) l[k]:=by
 rw[List.take_succ_eq_append_getElem h,List.foldl_append];rfl
theorem JT{l:List (Int × Int)}{k:Nat}(h:k<l.length):pp l k=l[k]:=by simp[pp,List.getD,h]
end
section
open Go.RowKit
open Pu Gp Ap Vp Np Za Ka Ja Ea Ha Hi
theorem Uk(n a b:Int)(w:World):Yb 49 #[.int .i64 n,.int .i64 a,.int .i64 b] w (.bool (decide (a<=n/\n<=b))):=by
 by_cases h1:a<=n
 ·by_cases h2:n<=b
  ·rw[show decide (a<=n/\n<=b)=true by simp;omega];go_enter Tryz.func49,Tryz.ntmps49;go_wp2_with fail;go_ret;exact⟨rfl,rfl⟩
  ·rw[show decide (a<=n/\n<=b)=false by simp;omega];go_enter Tryz.func49,Tryz.ntmps49;go_wp2_with fail;go_ret;exact⟨rfl,rfl⟩
 ·rw[show decide (a<=n/\n<=b)=false by simp;omega];go_enter Tryz.func49,Tryz.ntmps49;go_wp2_with fail;go_ret;exact⟨rfl,rfl⟩
theorem Dv(n a b:Int)(w:World):Yb 41 #[.int .i64 n,.int .i64 a,.int .i64 b] w (.bool (decide (a<=n/\n<=b))):=by
 by_cases h1:a<=n
 ·by_cases h2:n<=b
  ·rw[show decide (a<=n/\n<=b)=true by simp;omega];go_enter Tryz.func41,Tryz.ntmps41;go_wp2_with fail;go_ret;exact⟨rfl,rfl⟩
  ·rw[show decide (a<=n/\n<=b)=false by simp;omega];go_enter Tryz.func41,Tryz.ntmps41;go_wp2_with fail;go_ret;exact⟨rfl,rfl⟩
 ·rw[show decide (a<=n/\n<=b)=false by simp;omega];go_enter Tryz.func41,Tryz.ntmps41;go_wp2_with fail;go_ret;exact⟨rfl,rfl⟩
def VF(l:List Int)(i:Nat):Prop:=lgs l (i-1)<lgs l i
theorem Dw{l:List Int}{i:Nat}(h:i<l.length):l[i]=lgs l i:=by simp[lgs,List.getD,h]
theorem Rp{l:List Int}(h:∀i,1<=i->i<l.length->VF l i):∀i j,i<=j->j<l.length->lgs l i<=lgs l j:=by
 intro i j;induction j with
 | zero =>
  intro h1 _;obtain rfl:i=0:=by omega
  exact Int.le_refl _
 | succ j ih =>
  intro h1 h2;by_cases e:i=j+1
  ·subst e;exact Int.le_refl _
  ·have h3:=ih (by omega) (by omega);have h4:=h (j+1) (by omega) h2;unfold VF at h4;rw[show j+1-1=j by omega]at h4;omega
theorem Rq{l:List Int}(h2:2<=l.length)(h5:l.length<=5)(h0:lgs l 0=0)(hr:∀i,1<=i->i<l.length->VF l i):Vh l ↔ lgs l (l.length-1)<48:=by
 constructor
 ·rintro⟨_,_,_,h⟩;exact(h (l.length-1) (by omega) (by omega)).2
 ·intro h;refine⟨h2,h5,h0,fun i h1 hl=>⟨hr i h1 hl,?_⟩⟩;have:=Rp hr i (l.length-1) (by omega) (by omega);omega
theorem NF(l:List Int)(lo:Option Addr)(n cap:Nat)(w:World)(hr:RdI w lo n cap l) :
  Calls Tryz.prog 50 #[.slice lo n cap] w fun e w'=>IsB e (Vh l)/\Yc w w':=by
 have hln:=hr.len;have hn:=hr.small;have HR:=hid hr;have HL:=hid hln;clear hr hln;by_cases t0:2<=(n:Int)/\(n:Int)<=5;rotate_left
 ·have HW:Hid (∀u,Yb 49 #[.int .i64 (n:Int),.int .i64 2,.int .i64 5] u (.bool false)):=hid (fun u=>by have:=Uk (n:Int) 2 5 u;rwa [decide_eq_false t0]at this);have HN:Hid (¬Vh l):=hid (fun h=>by have:=h.1;have:=h.2.1;have:=HL.o;omega);clear t0;go_enter Tryz.func50,Tryz.ntmps50;go_wp2_with fail;refine(HW.o _).mono ?_;rintro e w1 ⟨he,hw⟩;rw[he,hw];clear he hw w1;go_wp2_with fail;go_ret;exact⟨IsB.no HN.o,Fr.refl _ _⟩
 have HW:Hid (∀u,Yb 49 #[.int .i64 (n:Int),.int .i64 2,.int .i64 5] u (.bool true)):=hid (fun u=>by have:=Uk (n:Int) 2 5 u;rwa [decide_eq_true t0]at this);have hn2:2<=n:=by omega
 have hn5:n<=5:=by omega
 clear t0;obtain⟨B,o,rfl⟩:=HR.o.addr (by omega);have l0:=HR.o.byte (k:=0) (by have:=HL.o;omega);rw[Nat.add_zero,Dw (by have:=HL.o;omega)]at l0;have hpos:(0:Int)<(n:Int):=by omega
 go_enter Tryz.func50,Tryz.ntmps50;go_wp2_with fail;refine(HW.o _).mono ?_;rintro e w1 ⟨he,hw⟩;rw[he,hw];clear he hw w1;obtain⟨x0,ex0⟩:∃x,lgs l 0=x:=⟨_,rfl⟩;rw[ex0]at l0;have EX:=hid ex0;clear ex0;by_cases t6:x0=0;rotate_left
 ·have b6:(x0 != 0)=true:=by simpa using t6
  have HN:Hid (¬Vh l):=hid (fun h=>t6 (by rw[<- EX.o];exact h.2.2.1));clear t6;go_wp2_with fail;go_ret;exact⟨IsB.no HN.o,Fr.refl _ _⟩
 subst t6;go_wp2_with fail;clear l0;have HI:Hid (∀i,1<=i->i<l.length->¬VF l i->¬Vh l):=hid (fun i h1 h2 h h3=>h (h3.2.2.2 i h1 h2).1);go_loopw [3] (fun u wr=>∃i:Nat,1<=i/\i<=n/\u=.int .i64 (i:Int)/\Hid (∀j,1<=j->j<i->VF l j)/\Yc w wr) (fun u _=>n-(intOf u).toNat);case atStart=>exact⟨1,by omega,by omega,rfl,hid (fun j h1 h2=>by omega),Fr.refl _ _⟩
 case round =>
  obtain⟨i,hi1,hi2,rfl,HJ,hs⟩:=hrel;by_cases hin:i<n
  ·have hlt:(i:Int)<(n:Int):=by omega
   obtain⟨m,rfl⟩:∃m,i=m+1:=⟨i-1,by omega⟩;have la:=(HR.o.sT hs).byte (k:=m+1) (by have:=HL.o;omega);have lb:=(HR.o.sT hs).byte (k:=m) (by have:=HL.o;omega);rw[Dw (by have:=HL.o;omega)]at la lb;have HD:Hid (VF l (m+1) ↔ lgs l m<lgs l (m+1)):=hid Iff.rfl;obtain⟨x,ex⟩:∃x,lgs l (m+1)=x:=⟨_,rfl⟩;obtain⟨y,ey⟩:∃x,lgs l m=x:=⟨_,rfl⟩;rw[ex]at la HD;rw[ey]at lb HD;clear ex ey;have qa:=kC la;have qb:=kC lb;have hne:=Aft.here wr;have z1:((m:Int)+1).toNat=m+1:=by omega
   have z3:(m:Int)+1<(n:Int):=by omega
   have z4:(m:Int)<(n:Int):=by omega
   have z5:(0:Int)<=(m:Int)+1:=by omega
   have HS:=hid hs;have HY:Hid (VF l (m+1)->∀j,1<=j->j<m+1+1->VF l j):=hid (fun h j h1 h2=>by
    by_cases e:j=m+1
    ·subst e;exact h
    ·exact HJ.o j h1 (by omega))
   clear HJ hs;by_cases g1:x<=y
   ·have e1:decide (x<=y)=true:=decide_eq_true g1;have HX:=hid (HI.o (m+1) hi1 (by have:=HL.o;omega) (fun h=>by have:=HD.o.1 h;omega));clear g1;go_upto_region 6 with fail;refine Yk (by kernel_rfl) (by kernel_rfl) ?_;repeat(go_big_quiet_step (fail))
    refine wpQuiet_nil ?_;intro w3 h3;have HS3:=hid (HS.o.trans h3);clear h3 qa qb hne la lb;go_wp2_with fail
    (try rw[Exit.noGoto_ret])
    go_ret;exact⟨IsB.no HX.o,HS3.o⟩
   ·have e1:decide (x<=y)=false:=decide_eq_false g1;have HX:=hid (HY.o (HD.o.2 (by omega)));clear g1;go_upto_region 6 with fail;refine Yk (by kernel_rfl) (by kernel_rfl) ?_;repeat(go_big_quiet_step (fail))
    refine wpQuiet_nil ?_;intro w3 h3;have HS3:=hid (HS.o.trans h3);clear h3 qa qb hne la lb;go_wp2_with fail;go_roundw;case rel=>exact⟨m+1+1,by omega,by omega,by go_num,HX,HS3.o⟩
    case measure=>first|(simp[intOf];done)|(simp[intOf];omega)
  ·have hge:¬(i:Int)<(n:Int):=by omega
   obtain rfl:i=n:=by omega
   have HF:=hid (Rq (l:=l) (by have:=HL.o;omega) (by have:=HL.o;omega) EX.o (fun j h1 h2=>HJ.o j h1 (by have:=HL.o;omega)));obtain⟨m,rfl⟩:∃m,i=m+1:=⟨i-1,by omega⟩;have la:=(HR.o.sT hs).byte (k:=m) (by have:=HL.o;omega);rw[Dw (by have:=HL.o;omega)]at la;have hm1:l.length-1=m:=by have:=HL.o;omega
   rw[hm1]at HF;obtain⟨x,ex⟩:∃x,lgs l m=x:=⟨_,rfl⟩;rw[ex]at la HF;have HS:=hid hs;have z4:(m:Int)<(m:Int)+1:=by omega
   clear ex hs HJ hin hm1;by_cases g1:x<48
   ·have e1:decide (x<48)=true:=decide_eq_true g1;have HX:=hid (HF.o.2 g1);clear g1 HF;go_wp2_with fail;go_ret;exact⟨IsB.yes HX.o,HS.o⟩
   ·have e1:decide (x<48)=false:=decide_eq_false g1;have HX:=hid (fun h=>g1 (HF.o.1 h));clear g1 HF;go_wp2_with fail;go_ret;exact⟨IsB.no HX.o,HS.o⟩
abbrev cfc(F:Cf):Array Value:=#[.int .i64 F.p,.int .u64 F.q,.int .i64 F.C,.int .i64 F.R,.string F.s,F.lg]
abbrev cfv(F:Cf):Value:=.agg (cfc F)
def Cfb(w:World)(g:Nat)(F:Cf):Prop:=w.heap[g]?=some (.cells (cfc F) 27 (0,0))
theorem Cfb.sT{w w':World}{g:Nat}{F:Cf}(h:Cfb w g F)(hs:Yc w w'):Cfb w' g F:=hs.kept_still h
theorem Cfb.cells{w:World}{g:Nat}{F:Cf}(h:Cfb w g F):w.cell? ⟨g,0,none⟩=some (.int .i64 F.p)/\w.cell? ⟨g,1,none⟩=some (.int .u64 F.q)/\w.cell? ⟨g,2,none⟩=some (.int .i64 F.C)/\w.cell? ⟨g,3,none⟩=some (.int .i64 F.R)/\w.cell? ⟨g,4,none⟩=some (.string F.s)/\w.cell? ⟨g,5,none⟩=some F.lg/\∀o,w.frozen? ⟨g,o,none⟩=false:=by
 refine⟨?_,?_,?_,?_,?_,?_,fun o=>frozen_of_row w g o _ _ h⟩<;>(rw[cell_of_row _ _ _ _ _ _ h];rfl)
abbrev Vm(w:World)(F:Cf):World:=w.alloc (.cells (cfc F) 27)
theorem Xp(w:World)(F:Cf):Cfb (Vm w F) w.heap.size F:=heap_alloc_new w _
def X9(p:Int)(x:Cm):Bool:=decide (0<=x.pe) && (decide (x.pe<p) && (decide (1<=x.sq) && (YB x.v x.a x.b x.c == 0)))
theorem rgtB_iff{p:Int}{x:Cm}:X9 p x=true ↔ Rgt p.toNat x:=by
 unfold X9 Rgt;simp only[Bool.and_eq_true,decide_eq_true_eq,beq_iff_eq];constructor
 ·rintro⟨h1,h2,h3,h4⟩;exact⟨h1,by omega,h3,h4⟩
 ·rintro⟨h1,h2,h3,h4⟩;exact⟨h1,by omega,h3,h4⟩
theorem NH(F:Cf)(x:Cm)(w:World)(hk:∀u,Yc w u->Ya 117 #[od x.v x.a x.b x.c] u (.int .i64 (YB x.v x.a x.b x.c))) :
  Ya 64 #[cfv F,xv x] w (.bool (X9 F.p x)):=by
 have A0:=sA w (.cells (cfc F) 27);have A1:=sA (Vm w F) (.cells (xcs x) 63);have p0:=(Xp w F).sT A1;have q0:=Xc (Vm w F) x;simp only[size_alloc]at q0;have HS0:=hid (A0.trans A1);have HK:=hid (hk _ (A0.trans A1));have HR:Hid (X9 F.p x=(decide (0<=x.pe) && (decide (x.pe<F.p) && (decide (1<=x.sq) && (YB x.v x.a x.b x.c == 0))))):=hid rfl;obtain⟨r,er⟩:∃r,X9 F.p x=r:=⟨_,rfl⟩;rw[er]at HR⊢;obtain⟨E,eE⟩:∃E,YB x.v x.a x.b x.c=E:=⟨_,rfl⟩;rw[eE]at HK HR;obtain⟨d0,d1,d2,d3,d4,d5,d6,df⟩:=q0.cells;clear A0 A1 hk er eE;go_enter Tryz.func64,Tryz.ntmps64;go_wp2_with fail;refine HK.o.mono ?_;rintro e w1 ⟨rfl,h1⟩;have p1:=p0.sT h1;have q1:=q0.sT h1;have HS1:=hid (HS0.o.trans h1);clear d0 d1 d2 d3 d4 d5 d6 df h1 p0 q0 HS0 HK;obtain⟨c0,c1,c2,c3,c4,c5,cf⟩:=p1.cells;obtain⟨d0,d1,d2,d3,d4,d5,d6,df⟩:=q1.cells;cases b0:decide (0<=x.pe)with
 | false =>
  have b0':decide (x.pe ≥ 0)=false:=b0;rw[b0]at HR;go_wp2_with fail;go_ret;exact⟨by rw[HR.o];rfl,HS1.o⟩
 | true =>
  have b0':decide (x.pe ≥ 0)=true:=b0;cases b1:decide (x.pe<F.p)with
  | false =>
   rw[b0,b1]at HR;go_wp2_with fail;go_ret;exact⟨by rw[HR.o];rfl,HS1.o⟩
  | true =>
   cases b2:decide (1<=x.sq)with
   | false =>
    have b2':decide (x.sq ≥ 1)=false:=b2;rw[b0,b1,b2]at HR;go_wp2_with fail;go_ret;exact⟨by rw[HR.o];rfl,HS1.o⟩
   | true =>
    have b2':decide (x.sq ≥ 1)=true:=b2;cases b3:E == 0 with
    | false =>
     rw[b0,b1,b2,b3]at HR;go_wp2_with fail;go_ret;exact⟨by rw[HR.o];rfl,HS1.o⟩
    | true =>
     rw[b0,b1,b2,b3]at HR;go_wp2_with fail;go_ret;exact⟨by rw[HR.o];rfl,HS1.o⟩
def VG(p f:Int)(l:List Cm)(i:Nat):Prop:=(X9 p (cm l i)=true/\(cm l i).fr=f)/\(0<i->Y8 (cm l (i-1)) (cm l i)=true)
theorem ordA_iff{p f:Int}{l:List Cm}:(∀i,i<l.length->VG p f l i) ↔ Z1 p f l:=by
 unfold VG Z1;exact⟨fun h i hi=>⟨⟨rgtB_iff.1 (h i hi).1.1,(h i hi).1.2⟩,(h i hi).2⟩,fun h i hi=>⟨⟨rgtB_iff.2 (h i hi).1.1,(h i hi).1.2⟩,(h i hi).2⟩⟩
def Rr(p f:Int)(l:List Cm)(v:Value):Prop:=∃b:Bool,v=.bool b/\(b=true ↔ Z1 p f l)
theorem Rs(F:Cf)(f:Int)(l:List Cm)(ao:Option Addr)(n cap:Nat)(w:World)(hr:RdG KX w ao n l)(hk:∀(x:Cm) (u:World),Yc w u->Ya 117 #[od x.v x.a x.b x.c] u (.int .i64 (YB x.v x.a x.b x.c))) :
  Calls Tryz.prog 29 #[cfv F,.int .i64 f,.slice ao n cap] w fun e w'=>∃v,e=.returned v/\Rr F.p f l v/\Yc w w':=by
 have A0:=sA w (.cells (cfc F) 27);have p0:=Xp w F;have HP0:=hid p0;have HA0:=hid A0;have HR:=hid hr;have HL:=hid hr.1;have hn47:n<=281474976710656:=hr.2.1;have HR1:=hid (fun(x:Cm) (u:World) (hu:Yc w u)=>NH F x u (fun v hv=>hk x v (hu.trans hv)));clear hr hk A0 p0;go_enter Tryz.func29,Tryz.ntmps29;go_wp2_with fail;go_loopw [7] (fun u wr=>∃i:Nat,i<=n/\u=.int .i64 (i:Int)/\Hid (∀j,j<i->VG F.p f l j)/\Yc (Vm w F) wr) (fun u _=>n-(intOf u).toNat);case atStart=>exact⟨0,by omega,rfl,hid (fun j hj=>by omega),Fr.refl _ _⟩
 case round =>
  obtain⟨i,hi,rfl,HJ,hs⟩:=hrel;have HS:=hid hs;have HSw:=hid (HA0.o.trans hs);by_cases hin:i<n
  ·have hlt:(i:Int)<(n:Int):=by omega
   have hr1:=HR.o.sT HSw.o;obtain⟨B,o,rfl⟩:=hr1.at (by omega);have HX:=hid (fun u (hu:Yc wr u)=>rdX (hr1.sT hu) hin);have HY:=hid (fun u (hu:Yc wr u) (h0:0<i)=>rdX (hr1.sT hu) (i:=i-1) (by omega));have HC:=hid (fun u (hu:Yc wr u)=>((HP0.o.sT HS.o).sT hu).cells);have HRg:=hid (fun u (hu:Yc wr u)=>HR1.o (cm l i) u (HSw.o.trans hu));have HLs:=hid (fun u=>Ns (cm l (i-1)) (cm l i) u);have HNo:=hid (show ¬VG F.p f l i->¬Z1 F.p f l from fun h hc=>h (ordA_iff.2 hc i (by rw[HL.o];exact hin)));have HYes:=hid (show VG F.p f l i->∀j,j<i+1->VG F.p f l j from fun h j hj=>by
    by_cases e:j=i
    ·subst e;exact h
    ·exact HJ.o j (by omega))
   have HDf:Hid (VG F.p f l i ↔ (X9 F.p (cm l i)=true/\(cm l i).fr=f)/\(0<i->Y8 (cm l (i-1)) (cm l i)=true)):=hid Iff.rfl;obtain⟨x,ex⟩:∃x,cm l i=x:=⟨_,rfl⟩;obtain⟨y,ey⟩:∃x,cm l (i-1)=x:=⟨_,rfl⟩;rw[ex]at HX HRg HLs HDf;rw[ey]at HY HLs HDf;obtain⟨b1,eb1⟩:∃b,X9 F.p x=b:=⟨_,rfl⟩;obtain⟨b2,eb2⟩:∃b,Y8 y x=b:=⟨_,rfl⟩;rw[eb1]at HRg HDf;rw[eb2]at HLs HDf;obtain⟨x0,x1,x2,x3,x4,x5,x6⟩:=HX.o wr (Fr.refl _ _);obtain⟨c0,c1,c2,c3,c4,c5,cf⟩:=HC.o wr (Fr.refl _ _);have k0:=kC c0;have k1:=kC c1;have k2:=kC c2;have k3:=kC c3;have k4:=kC c4;have k5:=kC c5;have l0:=kC x0;have l1:=kC x1;have l2:=kC x2;have l3:=kC x3;have l4:=kC x4;have l5:=kC x5;have l6:=kC x6;have HRz:=hid (fun(z:Aft wr)=>HRg.o z.u z.s);have hne:=Aft.here wr;clear ex ey eb1 eb2 c0 c1 c2 c3 c4 c5 cf x0 x1 x2 x3 x4 x5 x6 hr1 hs;go_upto_region 4 with fail;refine Yk (by kernel_rfl) (by kernel_rfl) ?_;repeat(go_big_quiet_step ((go_at_call 64;with_reducible exact Calls.cl (HRz.o _))))
   refine wpQuiet_nil ?_;intro w2 h2;have HS2:=hid (HS.o.trans h2);have HSw2:=hid (HSw.o.trans h2);obtain⟨x0,x1,x2,x3,x4,x5,x6⟩:=HX.o w2 h2;have HY2:=hid (fun u (hu:Yc w2 u) (h0:0<i)=>HY.o u (h2.trans hu) h0);have HX2:=hid (fun u (hu:Yc w2 u)=>HX.o u (h2.trans hu));clear k0 k1 k2 k3 k4 k5 l0 l1 l2 l3 l4 l5 l6 hne h2 HC HRg HRz HX HY HS HSw;cases b1 with
   | false =>
    have HN:=hid (HNo.o (fun h=>by have:=(HDf.o.1 h).1.1;cases this));clear HNo HYes HDf;go_wp2_with fail
    (try rw[Exit.noGoto_ret])
    go_ret;exact⟨_,rfl,⟨false,rfl,⟨fun h=>(by cases h),fun h=>absurd h HN.o⟩⟩,HSw2.o⟩
   | true =>
    cases b3:x.fr != f with
    | true =>
     have HN:=hid (HNo.o (fun h=>by have:=(HDf.o.1 h).1.2;simp[this]at b3));clear HNo HYes HDf;go_wp2_with fail
     (try rw[Exit.noGoto_ret])
     go_ret;exact⟨_,rfl,⟨false,rfl,⟨fun h=>(by cases h),fun h=>absurd h HN.o⟩⟩,HSw2.o⟩
    | false =>
     have HB3:=hid (show x.fr=f by simpa using b3);by_cases h0:0<i
     ·have h0':(i:Int) > 0:=by omega
      have hlm:(i:Int)-1<(n:Int):=by omega
      go_upto_region 8 with fail;clear b3;obtain⟨y0,y1,y2,y3,y4,y5,y6⟩:=HY2.o w2 (Fr.refl _ _) h0;have l0:=kC x0;have l1:=kC x1;have l2:=kC x2;have l3:=kC x3;have l4:=kC x4;have l5:=kC x5;have l6:=kC x6;have q0:=kC y0;have q1:=kC y1;have q2:=kC y2;have q3:=kC y3;have q4:=kC y4;have q5:=kC y5;have q6:=kC y6;have hne:=Aft.here w2;clear x0 x1 x2 x3 x4 x5 x6 y0 y1 y2 y3 y4 y5 y6;have HNx:=hid (show b2=false->¬Z1 F.p f l from fun e=>HNo.o (fun h=>by have:=(HDf.o.1 h).2 h0;rw[e]at this;cases this));have HYx:=hid (show b2=true->∀j,j<i+1->VG F.p f l j from fun e=>HYes.o (HDf.o.2 ⟨⟨rfl,HB3.o⟩,fun _=>e⟩));clear HNo HYes HDf;refine Yk (by kernel_rfl) (by kernel_rfl) ?_;repeat(go_big_quiet_step ((go_at_call 40;with_reducible exact Calls.cl (HLs.o _))))
      refine wpQuiet_nil ?_;intro w3 h3;have HS3:=hid (HS2.o.trans h3);have HSw3:=hid (HSw2.o.trans h3);clear l0 l1 l2 l3 l4 l5 l6 q0 q1 q2 q3 q4 q5 q6 hne h3 HS2 HSw2 HX2 HY2 HLs;cases b2 with
      | false =>
       have HN:=hid (HNx.o rfl);clear HNx HYx;go_wp2_with fail
       (try rw[Exit.noGoto_ret])
       go_ret;exact⟨_,rfl,⟨false,rfl,⟨fun h=>(by cases h),fun h=>absurd h HN.o⟩⟩,HSw3.o⟩
      | true =>
       have HY1:=hid (HYx.o rfl);clear HNx HYx;go_wp2_with fail;go_roundw;case rel=>exact⟨i+1,by omega,by go_num,HY1,HS3.o⟩
       case measure=>first|(simp[intOf];done)|(simp[intOf];omega)
     ·have h0':¬(i:Int) > 0:=by omega
      have HY1:=hid (HYes.o (HDf.o.2 ⟨⟨rfl,HB3.o⟩,fun h=>absurd h h0⟩));clear HNo HYes HDf;go_wp2_with fail;go_roundw;case rel=>exact⟨i+1,by omega,by go_num,HY1,HS2.o⟩
      case measure=>first|(simp[intOf];done)|(simp[intOf];omega)
  ·have hge:¬(i:Int)<(n:Int):=by omega
   have HE:Hid (Z1 F.p f l):=hid (ordA_iff.1 (fun j hj=>HJ.o j (by have:=HL.o;omega)));clear hin hs;go_wp2_with fail;go_ret;exact⟨_,rfl,⟨true,rfl,⟨fun _=>HE.o,fun _=>rfl⟩⟩,HSw.o⟩
end
section
open Go.RowKit
open Pu Gp Ap Vp Np Za Ka Ja Ea Ha
theorem XA{o:Oper}{ρ:Operand->Value}{x y:Operand}{u:World}{g:Nat}{m:Mv}(ho:o.op=.store 59 x y)(hx:ρ x=.pointer (some ⟨g,0,none⟩))(hy:ρ y=mv m)(hh:u.heap[g]?=some (.cells (mcs zM) 59 (0,0))) :
  ∃u',(execOp ρ o).run Tryz.prog u=.ok .skip u'/\u'.heap[g]?=some (.cells (mcs m) 59 (0,0))/\Fr (fun i=>i=g) u u':=by
 have hb:Mb u g zM:=hh;obtain⟨d0,d1,d2,d3,d4,d5,d6,d7,d8,d9,d10,d11,d12,df⟩:=hb.cells;have hput:=hb.put m.ax m.ay m.sx m.sy m.px m.py m.fc m.hl m.en m.sh m.co m.ou m.sd;refine⟨(((((((((((((u.setCell ⟨g,0,none⟩ (.int .i64 m.ax)).setCell ⟨g,1,none⟩ (.int .i64 m.ay)).setCell ⟨g,2,none⟩ (.int .i64 m.sx)).setCell ⟨g,3,none⟩ (.int .i64 m.sy)).setCell ⟨g,4,none⟩ (.int .i64 m.px)).setCell ⟨g,5,none⟩ (.int .i64 m.py)).setCell ⟨g,6,none⟩ (.int .i64 m.fc)).setCell ⟨g,7,none⟩ (.int .i64 m.hl)).setCell ⟨g,8,none⟩ (.int .i64 m.en)).setCell ⟨g,9,none⟩ (.bool m.sh)).setCell ⟨g,10,none⟩ (.int .i64 m.co)).setCell ⟨g,11,none⟩ (.int .i64 m.ou)).setCell ⟨g,12,none⟩ (.int .i64 m.sd)),?_,hput,((((((((((((((Fr.refl (fun i=>i=g) u).setCell ⟨g,0,none⟩ (.int .i64 m.ax) (.inl rfl)).setCell ⟨g,1,none⟩ (.int .i64 m.ay) (.inl rfl)).setCell ⟨g,2,none⟩ (.int .i64 m.sx) (.inl rfl)).setCell ⟨g,3,none⟩ (.int .i64 m.sy) (.inl rfl)).setCell ⟨g,4,none⟩ (.int .i64 m.px) (.inl rfl)).setCell ⟨g,5,none⟩ (.int .i64 m.py) (.inl rfl)).setCell ⟨g,6,none⟩ (.int .i64 m.fc) (.inl rfl)).setCell ⟨g,7,none⟩ (.int .i64 m.hl) (.inl rfl)).setCell ⟨g,8,none⟩ (.int .i64 m.en) (.inl rfl)).setCell ⟨g,9,none⟩ (.bool m.sh) (.inl rfl)).setCell ⟨g,10,none⟩ (.int .i64 m.co) (.inl rfl)).setCell ⟨g,11,none⟩ (.int .i64 m.ou) (.inl rfl)).setCell ⟨g,12,none⟩ (.int .i64 m.sd) (.inl rfl))⟩;clear hput hb hh;unfold execOp;rw[ho];simp only[hx,hy];go_simp
theorem XB{o:Oper}{ρ:Operand->Value}(ho:o.op=.alloc 59)(u:World):(execOp ρ o).run Tryz.prog u=.ok (.value (.pointer (some ⟨u.heap.size,0,none⟩))) (u.alloc (.cells (mcs zM) 59 (0,0))):=by
 unfold execOp;rw[ho];go_simp;try rfl
theorem Qt{o:Oper}{ρ:Operand->Value}{x y:Operand}{u:World}{g:Nat}{m:Sh}(ho:o.op=.store 69 x y)(hx:ρ x=.pointer (some ⟨g,0,none⟩))(hy:ρ y=sv m)(hh:u.heap[g]?=some (.cells (scs zS) 69 (0,0))) :
  ∃u',(execOp ρ o).run Tryz.prog u=.ok .skip u'/\u'.heap[g]?=some (.cells (scs m) 69 (0,0))/\Fr (fun i=>i=g) u u':=by
 have hb:Sb u g zS:=hh;obtain⟨d0,d1,d2,d3,d4,d5,d6,d7,df⟩:=hb.cells;have hput:=hb.put m.no m.ow m.pw m.ax m.ay m.sx m.sy m.lf;refine⟨((((((((u.setCell ⟨g,0,none⟩ (.int .i64 m.no)).setCell ⟨g,1,none⟩ (.int .i64 m.ow)).setCell ⟨g,2,none⟩ (.int .i64 m.pw)).setCell ⟨g,3,none⟩ (.int .i64 m.ax)).setCell ⟨g,4,none⟩ (.int .i64 m.ay)).setCell ⟨g,5,none⟩ (.int .i64 m.sx)).setCell ⟨g,6,none⟩ (.int .i64 m.sy)).setCell ⟨g,7,none⟩ (.int .i64 m.lf)),?_,hput,(((((((((Fr.refl (fun i=>i=g) u).setCell ⟨g,0,none⟩ (.int .i64 m.no) (.inl rfl)).setCell ⟨g,1,none⟩ (.int .i64 m.ow) (.inl rfl)).setCell ⟨g,2,none⟩ (.int .i64 m.pw) (.inl rfl)).setCell ⟨g,3,none⟩ (.int .i64 m.ax) (.inl rfl)).setCell ⟨g,4,none⟩ (.int .i64 m.ay) (.inl rfl)).setCell ⟨g,5,none⟩ (.int .i64 m.sx) (.inl rfl)).setCell ⟨g,6,none⟩ (.int .i64 m.sy) (.inl rfl)).setCell ⟨g,7,none⟩ (.int .i64 m.lf) (.inl rfl))⟩;clear hput hb hh;unfold execOp;rw[ho];simp only[hx,hy];go_simp
theorem Qu{o:Oper}{ρ:Operand->Value}(ho:o.op=.alloc 69)(u:World):(execOp ρ o).run Tryz.prog u=.ok (.value (.pointer (some ⟨u.heap.size,0,none⟩))) (u.alloc (.cells (scs zS) 69 (0,0))):=by
 unfold execOp;rw[ho];go_simp;try rfl
theorem NI{o:Oper}{ρ:Operand->Value}{x y:Operand}{u:World}{g:Nat}{m:Scr}(ho:o.op=.store 67 x y)(hx:ρ x=.pointer (some ⟨g,0,none⟩))(hy:ρ y=cv m)(hh:u.heap[g]?=some (.cells (ccs zC) 67 (0,0))) :
  ∃u',(execOp ρ o).run Tryz.prog u=.ok .skip u'/\u'.heap[g]?=some (.cells (ccs m) 67 (0,0))/\Fr (fun i=>i=g) u u':=by
 have hb:Cb u g zC:=hh;obtain⟨d0,d1,d2,d3,df⟩:=hb.cells;have hput:=hb.put m.p m.h m.o m.k;refine⟨((((u.setCell ⟨g,0,none⟩ (.int .i64 m.p)).setCell ⟨g,1,none⟩ (.int .i64 m.h)).setCell ⟨g,2,none⟩ (.int .i64 m.o)).setCell ⟨g,3,none⟩ (.int .i64 m.k)),?_,hput,(((((Fr.refl (fun i=>i=g) u).setCell ⟨g,0,none⟩ (.int .i64 m.p) (.inl rfl)).setCell ⟨g,1,none⟩ (.int .i64 m.h) (.inl rfl)).setCell ⟨g,2,none⟩ (.int .i64 m.o) (.inl rfl)).setCell ⟨g,3,none⟩ (.int .i64 m.k) (.inl rfl))⟩;clear hput hb hh;unfold execOp;rw[ho];simp only[hx,hy];go_simp
theorem NJ{o:Oper}{ρ:Operand->Value}(ho:o.op=.alloc 67)(u:World):(execOp ρ o).run Tryz.prog u=.ok (.value (.pointer (some ⟨u.heap.size,0,none⟩))) (u.alloc (.cells (ccs zC) 67 (0,0))):=by
 unfold execOp;rw[ho];go_simp;try rfl
theorem NK{o:Oper}{ρ:Operand->Value}{x y:Operand}{u:World}{g:Nat}{m:Pk}(ho:o.op=.store 71 x y)(hx:ρ x=.pointer (some ⟨g,0,none⟩))(hy:ρ y=kv m)(hh:u.heap[g]?=some (.cells (kcs zK) 71 (0,0))) :
  ∃u',(execOp ρ o).run Tryz.prog u=.ok .skip u'/\u'.heap[g]?=some (.cells (kcs m) 71 (0,0))/\Fr (fun i=>i=g) u u':=by
 have hb:Kb u g zK:=hh;obtain⟨d0,d1,d2,df⟩:=hb.cells;have hput:=hb.put m.no m.sp m.kd;refine⟨(((u.setCell ⟨g,0,none⟩ (.int .i64 m.no)).setCell ⟨g,1,none⟩ (.int .i64 m.sp)).setCell ⟨g,2,none⟩ (.int .i64 m.kd)),?_,hput,((((Fr.refl (fun i=>i=g) u).setCell ⟨g,0,none⟩ (.int .i64 m.no) (.inl rfl)).setCell ⟨g,1,none⟩ (.int .i64 m.sp) (.inl rfl)).setCell ⟨g,2,none⟩ (.int .i64 m.kd) (.inl rfl))⟩;clear hput hb hh;unfold execOp;rw[ho];simp only[hx,hy];go_simp
theorem NM{o:Oper}{ρ:Operand->Value}(ho:o.op=.alloc 71)(u:World):(execOp ρ o).run Tryz.prog u=.ok (.value (.pointer (some ⟨u.heap.size,0,none⟩))) (u.alloc (.cells (kcs zK) 71 (0,0))):=by
 unfold execOp;rw[ho];go_simp;try rfl
structure P13 (x:World) (F:Cf) (E:Env):Prop where
 act:∀(m:Mv) (v a b c:Int) (u:World),Yc x u->Ya 170 #[mv m,od v a b c] u (.tuple #[mv (YR m v a b c),.bool (Zt m v a b c),.int .i64 (YU m v a b c)])
 fire:∀(m:Mv) (ow pw no:Int) (u:World),Yc x u->Ya 229 #[mv m,.int .i64 ow,.int .i64 pw,.int .i64 no] u (.tuple #[sv (YV m ow pw no),.int .i64 (ZQ m ow pw no)])
 gli:∀(m:Mv) (u:World),Ya 173 #[mv m,ar F.C F.R F.s] u (.tuple #[mv (Zl E.sol m),.int .i64 (YC m)])
 bod:∀(L:List Mv) (ao:Option Addr) (n cap:Nat) (u:World),RdG KM u ao n L->Calls Tryz.prog 174 #[.slice ao n cap] u fun e w'=>∃v,e=.returned (.tuple #[v,.int .i64 (Zp (Yt L))])/\OwG KT 126 w' u.heap.size v (Ja.bod L)/\Yc u w'
 apt:∀(a b:Mv) (u:World),Ya 175 #[mv a,mv b] u (.tuple #[mv (Zq a b),mv (Zq b a),.int .i64 (Zp (ZR a b))])
 fly:∀(s:Sh) (u:World),Ya 176 #[sv s,ar F.C F.R F.s] u (.tuple #[sv (Z6 E.sol s),.bool (YY E.sol s),.int .i64 (YM s)])
 sho:∀(L:List Mv) (S:List Sh) (ao:Option Addr) (n cap:Nat) (so:Option Addr) (r scap:Nat) (u:World),RdG KM u ao n L->RdG KS u so r S->Calls Tryz.prog 177 #[.slice ao n cap,.slice so r scap] u fun e w'=>∃v,e=.returned (.tuple #[v,.int .i64 (Zp (XK L S))])/\OwG KT 126 w' u.heap.size v (Ja.sho L S)/\Yc u w'
 hur:∀(m:Mv) (h:Int) (u:World),Ya 244 #[mv m,.int .i64 h] u (.tuple #[mv (Zu m h),.bool (Zh m h),.int .i64 (YX m h)])
 dmg:∀(p:Int) (u:World),Yb 245 #[.int .i64 p] u (.int .i64 (Za.dmg p))
 hit:∀(a b:Scr) (n:Int) (out:Bool) (u:World),Ya 246 #[cv a,cv b,.int .i64 n,.bool out] u (.tuple #[cv (Zb a b n out),cv (Zc a b n out),.int .i64 (Zr a b n)])
 pic:∀(L:List Mv) (Q:List Pk) (T:List (Int × Int)) (ao:Option Addr) (n cap:Nat) (po:Option Addr) (r pcap:Nat) (xo:Option Addr) (t tcap:Nat) (u:World),RdG KM u ao n L->RdK u po r Q->RdG KT u xo t T->r<=pcap->Calls Tryz.prog 180 #[.slice ao n cap,.slice po r pcap,.slice xo t tcap] u fun e w'=>∃v,e=.returned (.tuple #[v,.int .i64 (Zp (XL L Q T))])/\OwG KT 126 w' u.heap.size v (Ja.pic L Q T)/\Yc u w'
 tak:∀(m:Mv) (k:Int) (u:World),Ya 181 #[mv m,.int .i64 k] u (.tuple #[mv (Xk m k),.int .i64 (Z7 m k),.int .i64 (Zi m k)])
 gai:∀(s:Scr) (n:Int) (u:World),Ya 182 #[cv s,.int .i64 n] u (.tuple #[cv (Z8 s n),.int .i64 (Xl s n)])
 spw:∀(f s no:Int) (L:List Pk) (ao:Option Addr) (n cap:Nat) (u:World),Yc x u->RdK u ao n L->n<=cap->Ya 184 #[.int .u64 F.q,.int .i64 f,.slice ao n cap,.int .i64 s,.int .i64 no] u (.tuple #[kv (Yr E.q f L s no),.bool (comes L f s no),.int .i64 (Zo L f s no)])
 res:∀(m:Mv) (x y:Int) (u:World),Ya 185 #[mv m,pt x y] u (.tuple #[mv (ZU m x y),.bool (X5 m),.int .i64 (YC m)])
end
section
open Go.RowKit
open Pu Gp Ap Vp Np Za Ka Ja Ea Ha Hg
theorem Rt(x:World)(S:Se)(E:Env)(D:P13 x S.F E)(B g:Nat)(G:Gm)(s:Sh)(T O N:Nat)(w:World)(hB:B<=w.heap.size)(h:FmM B w g S G)(hM:G.w.ms.length=N)(hC:G.w.cs.length=N)(hT:T<N)(hO:O<N)(hso:s.ow=(O:Int))(h47:(G.ns.length+8)*24<=140737488355328) :
  Calls Tryz.prog 178 #[.pointer (some ⟨g,0,none⟩),.int .i64 (T:Int),sv s] w fun e w'=>(∃v,e=.returned v)/\FmM B w' g S (Yx G s (T:Int))/\FrT B [104,59,67,47] w w':=by
 have HD:=hid D;have H:=hid h;have hTl:(T:Int)<(N:Int):=by omega
 have hOl:(O:Int)<(N:Int):=by omega
 have A0:=sA w (.cells (scs s) 69);have p0:=Ua w s;obtain⟨va,vb,vc,vd,ve,hx⟩:=h.sT A0;obtain⟨gm,cpm,rfl,hgm,hgm2⟩:=hx.o1.head (by omega);rw[hM]at hx;have HX:=hid hx;have HA0:=hid A0;have HP0:=hid p0;have HMl:=hid hM;have HCl:=hid hC;have HLn1:=hid (N7 h47);have HLn2:=hid (N8 (⟨2,(T:Int),(O:Int)⟩:Nn) h47);have HHu:=hid (fun u=>HD.o.hur (mm G.w.ms T) (Za.dmg s.pw) u);have HDm:=hid (fun u=>(HD.o.dmg s.pw u).mono fun e w' (he:_/\_)=>And.intro he.1 (show Yc u w' from he.2 ▸ Fr.refl _ _));obtain⟨c0,c1,c2,c3,c4,c5,c6,c7,c8,c9,c10,c11,c12,c13,c14,c15,cf⟩:=hx.k.cells;obtain⟨d0,d1,d2,d3,d4,d5,d6,d7,d8,d9,d10,d11,d12,df⟩:=owM hx.o1 (i:=T) (by omega);have HHm:Hid (Yx G s (T:Int)=if(mm G.w.ms T).ou > 0 then G else⟨{ G.w with ms:=G.w.ms.set T (Zu (mm G.w.ms T) (Za.dmg s.pw)),cs:=(G.w.cs.set O (Zb (sc G.w.cs O) (sc G.w.cs T) s.pw (Zh (mm G.w.ms T) (Za.dmg s.pw)))).set T (Zc (sc G.w.cs O) (sc G.w.cs T) s.pw (Zh (mm G.w.ms T) (Za.dmg s.pw))) },G.ns ++ [⟨2,(T:Int),(O:Int)⟩] ++ (if Zh (mm G.w.ms T) (Za.dmg s.pw)then [⟨3,(T:Int),(O:Int)⟩]else [])⟩):=hid (by
  unfold Yx;rw[hso];simp only[Int.toNat_natCast])
 obtain⟨m0,em0⟩:∃m,mm G.w.ms T=m:=⟨_,rfl⟩;have EM:=hid em0;rw[em0]at d0 d1 d2 d3 d4 d5 d6 d7 d8 d9 d10 d11 d12 HHu HHm;obtain⟨dg,edg⟩:∃m,Za.dmg s.pw=m:=⟨_,rfl⟩;rw[edg]at HHu HDm HHm;clear em0 edg hx A0 p0 hM hC h47 D h hgm hgm2;by_cases hou:m0.ou > 0
 ·rw[if_pos hou]at HHm;go_enter Tryz.func178,Tryz.ntmps178;go_wp2_with fail;refine bodyPost_ret (results_none rfl _ _ _) rfl ?_;refine⟨⟨_,rfl⟩,?_,FrT.of_still HA0.o⟩;rw[HHm.o];exact H.o.sT HA0.o
 rw[if_neg hou]at HHm;obtain⟨m1,em1⟩:∃m,Zu m0 dg=m:=⟨_,rfl⟩;obtain⟨dn,edn⟩:∃m,Zh m0 dg=m:=⟨_,rfl⟩;obtain⟨e1,ee1⟩:∃m,YX m0 dg=m:=⟨_,rfl⟩;rw[em1,edn,ee1]at HHu;rw[em1,edn]at HHm;obtain⟨a0,a1,a2,a3,a4,a5,a6,a7,af⟩:=HP0.o.cells;rw[hso]at a1;clear em1 edn ee1;go_enter Tryz.func178,Tryz.ntmps178;go_upto_region 2 with fail;refine ZD 16 6 (.cells (mcs zM) 59 (0,0)) (.cells (mcs m1) 59 (0,0)) (by kernel_rfl) (by kernel_rfl) (by kernel_rfl) (by kernel_rfl) rfl rfl (fun u b=>XB rfl u) (fun u=>heap_alloc_new u _) ?_;apply Exists.intro;refine And.intro ?_ (And.intro ?_ ?_)
 ·intro u hu;obtain⟨k0,k1,k2,k3,k4,k5,k6,k7,k8,k9,k10,k11,k12,k13,k14,k15⟩:=(HX.o.sT hu).k.cl;obtain⟨l0,l1,l2,l3,l4,l5,l6,l7,l8,l9,l10,l11,l12⟩:=VE (HX.o.sT hu).o1 (i:=T) (by rw[HMl.o];exact hT) EM.o;obtain⟨n0,n1,n2,n3,n4,n5,n6,n7⟩:=(HP0.o.sT hu).cl;have hne:=Aft.here u;simp only[Y4,tkd,tkq,Nat.reduceAdd];repeat(go_big_quiet_step ((first|(go_at_call 245;with_reducible exact Calls.cl (HDm.o _))|(go_at_call 244;with_reducible exact Calls.cl (HHu.o _)))))
  exact wpQuiet_nil rfl
 ·exact fun u h hh=>XA rfl rfl rfl hh
 intro w2 g1 h2 hg1 hm1;have p2:Mb w2 g1 m1:=hm1;have HS2:=hid h2;have HX2:=hid (HX.o.sT h2);have HP2:=hid (HP0.o.sT h2);clear c0 c1 c2 c3 c4 c5 c6 c7 c8 c9 c10 c11 c12 c13 c14 c15 cf d0 d1 d2 d3 d4 d5 d6 d7 d8 d9 d10 d11 d12 df a0 a1 a2 a3 a4 a5 a6 a7 af h2 hm1 HHu HDm HX HP0;obtain⟨k0,k1,k2,k3,k4,k5,k6,k7,k8,k9,k10,k11,k12,k13,k14,k15⟩:=HX2.o.k.cl;obtain⟨l0,l1,l2,l3,l4,l5,l6,l7,l8,l9,l10,l11,l12⟩:=p2.cl;have hne:=Aft.here w2;simp only[Act.put,tks];go_upto_region 3 with fail;refine Yp 8 (by kernel_rfl) (by kernel_rfl) ?_;simp only[tkd];repeat(go_big_quiet_step (fail))
 refine wpQuiet_nil ?_;intro w3 h3;have HS3:=hid (HS2.o.trans h3);have hX3:=HX2.o.sT h3;have HP3:=hid (HP2.o.sT h3);obtain⟨d0,d1,d2,d3,d4,d5,d6,d7,d8,d9,d10,d11,d12,df⟩:=owM hX3.o1 (i:=T) (by rw[HMl.o];exact hT);rw[EM.o]at d0 d1 d2 d3 d4 d5 d6 d7 d8 d9 d10 d11 d12;obtain⟨hX4,hT4⟩:=hX3.putM (i:=T) (by rw[HMl.o];exact hT) m1;obtain⟨W4,eW4⟩:∃W,(((((((((((((w3.setCell ⟨gm,T*13,none⟩ (.int .i64 m1.ax)).setCell ⟨gm,T*13+1,none⟩ (.int .i64 m1.ay)).setCell ⟨gm,T*13+2,none⟩ (.int .i64 m1.sx)).setCell ⟨gm,T*13+3,none⟩ (.int .i64 m1.sy)).setCell ⟨gm,T*13+4,none⟩ (.int .i64 m1.px)).setCell ⟨gm,T*13+5,none⟩ (.int .i64 m1.py)).setCell ⟨gm,T*13+6,none⟩ (.int .i64 m1.fc)).setCell ⟨gm,T*13+7,none⟩ (.int .i64 m1.hl)).setCell ⟨gm,T*13+8,none⟩ (.int .i64 m1.en)).setCell ⟨gm,T*13+9,none⟩ (.bool m1.sh)).setCell ⟨gm,T*13+10,none⟩ (.int .i64 m1.co)).setCell ⟨gm,T*13+11,none⟩ (.int .i64 m1.ou)).setCell ⟨gm,T*13+12,none⟩ (.int .i64 m1.sd))=W:=⟨_,rfl⟩;have HX4:Hid (Fx B W4 g S ⟨{ G.w with ms:=G.w.ms.set T m1 },G.ns⟩ (.slice (some ⟨gm,0,none⟩) N cpm) vb vc vd ve):=hid (by rw[<- eW4];exact hX4);have HT4:Hid (FrT B [59] w3 W4):=hid (by rw[<- eW4];exact hT4);have HSb4:Hid (Sb W4 w.heap.size s):=hid (HT4.o.kept HP3.o (by decide));have HFW:Hid (FrT B [104,59,67,47] w W4):=hid ((FrT.of_still (HA0.o.trans HS3.o)).trans (HT4.o.mono (by simp)));clear h3 hne k0 k1 k2 k3 k4 k5 k6 k7 k8 k9 k10 k11 k12 k13 k14 k15 l0 l1 l2 l3 l4 l5 l6 l7 l8 l9 l10 l11 l12 hX3 hX4 hT4 HX2 HS2 HS3 HP2 HP3 p2 HA0 HT4;obtain⟨gc,cpc,rfl,hgc,hgc2⟩:=HX4.o.o2.head (by rw[HCl.o];omega);have hx4:=HX4.o;simp only[HCl.o]at hx4;have HX:=hid hx4;have HHi:=hid (fun u=>HD.o.hit (sc G.w.cs O) (sc G.w.cs T) s.pw dn u);obtain⟨x0,ex0⟩:∃m,sc G.w.cs O=m:=⟨_,rfl⟩;obtain⟨y0,ey0⟩:∃m,sc G.w.cs T=m:=⟨_,rfl⟩;have EX:=hid ex0;have EY:=hid ey0;rw[ex0]at HHi HHm;rw[ey0]at HHi HHm;obtain⟨X1,eX1⟩:∃m,Zb x0 y0 s.pw dn=m:=⟨_,rfl⟩;obtain⟨Y1,eY1⟩:∃m,Zc x0 y0 s.pw dn=m:=⟨_,rfl⟩;obtain⟨e2,ee2⟩:∃m,Zr x0 y0 s.pw=m:=⟨_,rfl⟩;rw[eX1,eY1,ee2]at HHi;rw[eX1,eY1]at HHm;clear ex0 ey0 eX1 eY1 ee2 hx4 HX4;go_upto_region 4 with fail;refine Js 38 (by kernel_rfl) (by kernel_rfl) (by kernel_rfl) ?_;apply Exists.intro;refine And.intro ?_ ?_
 ·intro u hu;obtain⟨k0,k1,k2,k3,k4,k5,k6,k7,k8,k9,k10,k11,k12,k13,k14,k15⟩:=(HX.o.sT hu).k.cl;obtain⟨l0,l1,l2,l3⟩:=Dn (HX.o.sT hu).o2 (i:=O) (by simp only[HCl.o];exact hO) EX.o;obtain⟨j0,j1,j2,j3⟩:=Dn (HX.o.sT hu).o2 (i:=T) (by simp only[HCl.o];exact hT) EY.o;obtain⟨n0,n1,n2,n3,n4,n5,n6,n7⟩:=(HSb4.o.sT hu).cl;rw[hso]at n1;have hne:=Aft.here u;simp only[List.take_succ_cons,List.take_zero];repeat(go_big_quiet_step ((first|(go_at_call 246;with_reducible exact Calls.cl (HHi.o _)))))
  exact wpQuiet_nil rfl
 intro w5 h5;simp only[List.drop_succ_cons,List.drop_zero];have hX5:=HX.o.sT h5;have HSb5:=hid (HSb4.o.sT h5);have HS5:=hid h5;obtain⟨d0,d1,d2,d3,df⟩:=owC hX5.o2 (i:=O) (by simp only[HCl.o];exact hO);obtain⟨hX6,hT6⟩:=hX5.putC (i:=O) (by simp only[HCl.o];exact hO) X1;obtain⟨W6,eW6⟩:∃W,((((w5.setCell ⟨gc,O*4,none⟩ (.int .i64 X1.p)).setCell ⟨gc,O*4+1,none⟩ (.int .i64 X1.h)).setCell ⟨gc,O*4+2,none⟩ (.int .i64 X1.o)).setCell ⟨gc,O*4+3,none⟩ (.int .i64 X1.k))=W:=⟨_,rfl⟩;have hx6:Fx B W6 g S ⟨{ G.w with ms:=G.w.ms.set T m1,cs:=G.w.cs.set O X1 },G.ns⟩ (.slice (some ⟨gm,0,none⟩) N cpm) (.slice (some ⟨gc,0,none⟩) N cpc) vc vd ve:=by rw[<- eW6];exact hX6
 have ht6:FrT B [67] w5 W6:=by rw[<- eW6];exact hT6
 obtain⟨b0,b1,b2,b3,bf⟩:=owC hx6.o2 (i:=T) (by simp only[List.length_set,HCl.o];exact hT);obtain⟨hX7,hT7⟩:=hx6.putC (i:=T) (by simp only[List.length_set,HCl.o];exact hT) Y1;obtain⟨W7,eW7⟩:∃W,((((W6.setCell ⟨gc,T*4,none⟩ (.int .i64 Y1.p)).setCell ⟨gc,T*4+1,none⟩ (.int .i64 Y1.h)).setCell ⟨gc,T*4+2,none⟩ (.int .i64 Y1.o)).setCell ⟨gc,T*4+3,none⟩ (.int .i64 Y1.k))=W:=⟨_,rfl⟩;have HX7:Hid (Fx B W7 g S ⟨{ G.w with ms:=G.w.ms.set T m1,cs:=(G.w.cs.set O X1).set T Y1 },G.ns⟩ (.slice (some ⟨gm,0,none⟩) N cpm) (.slice (some ⟨gc,0,none⟩) N cpc) vc vd ve):=hid (by rw[<- eW7];exact hX7);have HT7:Hid (FrT B [67] w5 W7):=hid (by rw[<- eW7];exact ht6.trans hT7);have HSb7:Hid (Sb W7 w.heap.size s):=hid (HT7.o.kept HSb5.o (by decide));have HFW7:Hid (FrT B [104,59,67,47] w W7):=hid ((HFW.o.then HS5.o).trans (HT7.o.mono (by simp)));clear h5 hX5 hX6 hT6 hx6 ht6 hX7 hT7 HX HSb4 HSb5 HS5 HFW HHi HT7;go_wp2_with fail;refine⟨rfl,?_⟩;have HNt:=hid (Uh B g S _ 2 (T:Int) (O:Int) W7 (by have:=HFW7.o.size;omega) ⟨_,_,_,_,_,HX7.o⟩ HLn1.o);obtain⟨b0,b1,b2,b3,b4,b5,b6,b7,bf⟩:=HSb7.o.cells;rw[hso]at b1;clear HX7;go_wp2_with fail;refine HNt.o.mono ?_;rintro e w8 ⟨⟨v8,rfl⟩,hg8,hf8⟩;have HF8:=hid (HFW7.o.trans (hf8.mono (by simp)));have HSb8:Hid (Sb w8 w.heap.size s):=hid (hf8.kept HSb7.o (by decide));have HG8:=hid hg8;clear hf8 hg8 HNt HFW7 HSb7 b0 b1 b2 b3 b4 b5 b6 b7 bf;cases dn with
 | false =>
  go_wp2_with fail;go_end0;refine⟨⟨_,rfl⟩,?_,HF8.o⟩;rw[HHm.o];simpa using HG8.o
 | true =>
  have HNt:=hid (Uh B g S _ 3 (T:Int) (O:Int) w8 (by have:=HF8.o.size;omega) HG8.o HLn2.o);obtain⟨b0,b1,b2,b3,b4,b5,b6,b7,bf⟩:=HSb8.o.cells;rw[hso]at b1;clear HG8;go_wp2_with fail;refine HNt.o.mono ?_;rintro e w9 ⟨⟨v9,rfl⟩,hg9,hf9⟩;have HF9:=hid (HF8.o.trans (hf9.mono (by simp)));have HG9:=hid hg9;clear hf9 hg9 HNt HF8 HSb8 b0 b1 b2 b3 b4 b5 b6 b7 bf;go_wp2_with fail;go_end0;refine⟨⟨_,rfl⟩,?_,HF9.o⟩;rw[HHm.o];simpa using HG9.o
theorem Ru(x:World)(S:Se)(E:Env)(D:P13 x S.F E)(B g:Nat)(G:Gm)(w:World)(h:FmM B w g S G)(h6:G.w.ms.length<=6) :
  Calls Tryz.prog 107 #[.pointer (some ⟨g,0,none⟩)] w fun e w'=>(∃v,e=.returned v)/\FmM B w' g S (Zd E G)/\FrT B [59] w w':=by
 have HD:=hid D;obtain⟨va,vb,vc,vd,ve,hx⟩:=h;obtain⟨ao,cpm,rfl,_⟩:=hx.o1.slice;obtain⟨N,eN⟩:∃n,G.w.ms.length=n:=⟨_,rfl⟩;have HN:=hid eN;rw[eN]at hx h6;have HX:=hid hx;obtain⟨c0,c1,c2,c3,c4,c5,c6,c7,c8,c9,c10,c11,c12,c13,c14,c15,cf⟩:=hx.k.cells;clear hx D eN;go_enter Tryz.func107,Tryz.ntmps107;go_wp2_with fail;clear c0 c1 c2 c3 c4 c5 c6 c7 c8 c9 c10 c11 c12 c13 c14 c15 cf;go_loopw [10] (fun u wr=>∃i:Nat,i<=N/\u=.int .i64 (i:Int)/\Fx B wr g S ⟨{ G.w with ms:=glN E G.w.ms i },G.ns⟩ (.slice ao N cpm) vb vc vd ve/\FrT B [59] w wr) (fun u _=>N-(intOf u).toNat);case atStart=>exact⟨0,by omega,rfl,by simpa[glN]using HX.o,FrT.refl _ _ _⟩
 case round =>
  obtain⟨i,hi,rfl,hx,hf⟩:=hrel;have hml:(glN E G.w.ms i).length=N:=by rw[Ui,HN.o]
  have HML:=hid hml;by_cases hin:i<N
  ·have hlt:(i:Int)<(N:Int):=by omega
   obtain⟨gm,cpm',hv,_,_⟩:=hx.o1.head (by simp only[hml];omega);simp only[Value.slice.injEq]at hv;obtain⟨rfl,hv1,hv2⟩:=hv;clear hv1 hv2;have HF:=hid hf;have HE1:Hid (mm (glN E G.w.ms i) i=mm G.w.ms i):=hid (by rw[Qr E (by rw[HN.o];omega) i (by rw[HN.o];omega)];simp);have HGl:=hid (fun u=>HD.o.gli (mm (glN E G.w.ms i) i) u);obtain⟨d0,d1,d2,d3,d4,d5,d6,d7,d8,d9,d10,d11,d12,df⟩:=owM hx.o1 (i:=i) (by simp only[hml];omega);obtain⟨m0,em0⟩:∃m,mm (glN E G.w.ms i) i=m:=⟨_,rfl⟩;have EM:=hid em0;simp only[em0]at d0 d1 d2 d3 d4 d5 d6 d7 d8 d9 d10 d11 d12;rw[em0]at HGl;obtain⟨m1,em1⟩:∃m,Zl E.sol m0=m:=⟨_,rfl⟩;obtain⟨e1,ee1⟩:∃m,YC m0=m:=⟨_,rfl⟩;rw[em1,ee1]at HGl;have HNx:Hid (glN E G.w.ms (i+1)=(glN E G.w.ms i).set i m1):=hid (by rw[glN,<- HE1.o,em0,em1]);have A1:=sA wr (.cells (mcs m0) 59);have HX1:=hid (hx.sT A1);have HP1:=hid (Va wr m0);have HA1:=hid A1;clear em0 em1 ee1 hx hf A1 HE1 hml;go_upto_region 3 with fail;refine Js 17 (by kernel_rfl) (by kernel_rfl) (by kernel_rfl) ?_;apply Exists.intro;refine And.intro ?_ ?_
   ·intro u hu;obtain⟨k0,k1,k2,k3,k4,k5,k6,k7,k8,k9,k10,k11,k12,k13,k14,k15⟩:=(HX1.o.sT hu).k.cl;obtain⟨l0,l1,l2,l3,l4,l5,l6,l7,l8,l9,l10,l11,l12⟩:=(HP1.o.sT hu).cl;have hne:=Aft.here u;simp only[List.take_succ_cons,List.take_zero];repeat(go_big_quiet_step ((first|(go_at_call 173;with_reducible exact Calls.cl (HGl.o _)))))
    exact wpQuiet_nil rfl
   intro w2 h2;simp only[List.drop_succ_cons,List.drop_zero];have hX2:=HX1.o.sT h2;have HS2:=hid (HA1.o.trans h2);clear d0 d1 d2 d3 d4 d5 d6 d7 d8 d9 d10 d11 d12 df;obtain⟨d0,d1,d2,d3,d4,d5,d6,d7,d8,d9,d10,d11,d12,df⟩:=owM hX2.o1 (i:=i) (by simp only[HML.o];omega);obtain⟨hX3,hT3⟩:=hX2.putM (i:=i) (by simp only[HML.o];omega) m1;obtain⟨W3,eW3⟩:∃W,(((((((((((((w2.setCell ⟨gm,i*13,none⟩ (.int .i64 m1.ax)).setCell ⟨gm,i*13+1,none⟩ (.int .i64 m1.ay)).setCell ⟨gm,i*13+2,none⟩ (.int .i64 m1.sx)).setCell ⟨gm,i*13+3,none⟩ (.int .i64 m1.sy)).setCell ⟨gm,i*13+4,none⟩ (.int .i64 m1.px)).setCell ⟨gm,i*13+5,none⟩ (.int .i64 m1.py)).setCell ⟨gm,i*13+6,none⟩ (.int .i64 m1.fc)).setCell ⟨gm,i*13+7,none⟩ (.int .i64 m1.hl)).setCell ⟨gm,i*13+8,none⟩ (.int .i64 m1.en)).setCell ⟨gm,i*13+9,none⟩ (.bool m1.sh)).setCell ⟨gm,i*13+10,none⟩ (.int .i64 m1.co)).setCell ⟨gm,i*13+11,none⟩ (.int .i64 m1.ou)).setCell ⟨gm,i*13+12,none⟩ (.int .i64 m1.sd))=W:=⟨_,rfl⟩;have HX3:Hid (Fx B W3 g S ⟨{ G.w with ms:=(glN E G.w.ms i).set i m1 },G.ns⟩ (.slice (some ⟨gm,0,none⟩) N cpm) vb vc vd ve):=hid (by rw[<- eW3];exact hX3);have HF3:Hid (FrT B [59] w W3):=hid ((HF.o.then HS2.o).trans (by rw[<- eW3];exact hT3));clear h2 hX2 hX3 hT3 HX1 HP1 HA1 HS2 HF HGl;go_wp2_with fail;refine⟨rfl,?_⟩;clear d0 d1 d2 d3 d4 d5 d6 d7 d8 d9 d10 d11 d12 df eW3;go_wp2_with fail;go_roundw;case rel=>exact⟨i+1,by omega,by go_num,by rw[HNx.o];exact HX3.o,HF3.o⟩
   case measure=>first|(simp[intOf];done)|(simp[intOf];omega)
  ·have hge:¬(i:Int)<(N:Int):=by omega
   obtain rfl:i=N:=by omega
   have HX1:=hid hx;have HF:=hid hf;clear hx hf hin hml;go_wp2_with fail;go_end0;refine⟨⟨_,rfl⟩,?_,HF.o⟩;have e:Zd E G=⟨{ G.w with ms:=glN E G.w.ms i },G.ns⟩:=by
    unfold Zd;rw[<- Ds,HN.o]
   rw[e];exact⟨_,_,_,_,_,HX1.o⟩
theorem NN(L:List Mv):∀k,(Zj L k).length<=k
 | 0=>by simp[Zj]
 | k+1=>by have:=NN L k;rw[Zj,List.length_append];split<;>simp<;>omega
theorem Rv(x:World)(S:Se)(E:Env)(D:P13 x S.F E)(B B0 g:Nat)(G:Gm)(w:World)(hB:B<=w.heap.size)(h:FmM B w g S G)(h6:G.w.ms.length<=6)(hst:OwG KT 57 w B0 S.st E.st)(hsl:G.w.ms.length<=E.st.length)(h47:(G.ns.length+8)*24<=140737488355328) :
  Calls Tryz.prog 113 #[.pointer (some ⟨g,0,none⟩)] w fun e w'=>(∃v,e=.returned v)/\FmM B w' g S (XM E G)/\FrT B [104,59,47] w w':=by
 have HD:=hid D;obtain⟨va,vb,vc,vd,ve,hx⟩:=h;obtain⟨ao,cpm,rfl,_⟩:=hx.o1.slice;obtain⟨N,eN⟩:∃n,G.w.ms.length=n:=⟨_,rfl⟩;have HN:=hid eN;rw[eN]at hx h6 hsl;have HX:=hid hx;have HSt:=hid hst;have HSl:=hid hsl;have HL:=hid h47;obtain⟨c0,c1,c2,c3,c4,c5,c6,c7,c8,c9,c10,c11,c12,c13,c14,c15,cf⟩:=hx.k.cells;clear hx D eN hst hsl h47;go_enter Tryz.func113,Tryz.ntmps113;go_wp2_with fail;clear c0 c1 c2 c3 c4 c5 c6 c7 c8 c9 c10 c11 c12 c13 c14 c15 cf;go_loopw [13] (fun u wr=>∃i:Nat,i<=N/\u=.int .i64 (i:Int)/\(∃vn,Fx B wr g S ⟨{ G.w with ms:=YG E G.w.ms i },G.ns ++ Zj G.w.ms i⟩ (.slice ao N cpm) vb vc vd vn)/\FrT B [104,59,47] w wr) (fun u _=>N-(intOf u).toNat);case atStart=>exact⟨0,by omega,rfl,⟨_,by simpa[YG,Zj]using HX.o⟩,FrT.refl _ _ _⟩
 case round =>
  obtain⟨i,hi,rfl,⟨vn,hx⟩,hf⟩:=hrel;have hml:(YG E G.w.ms i).length=N:=by rw[JO,HN.o]
  have HML:=hid hml;by_cases hin:i<N
  ·have hlt:(i:Int)<(N:Int):=by omega
   obtain⟨gm,cpm',hv,_,_⟩:=hx.o1.head (by simp only[hml];omega);simp only[Value.slice.injEq]at hv;obtain⟨rfl,hv1,hv2⟩:=hv;clear hv1 hv2;have hP:=HSt.o.keepT hf (by decide);obtain⟨T,eT⟩:∃n,E.st.length=n:=⟨_,rfl⟩;obtain⟨gp,cpp,hv,hv1,hv2⟩:=hP.head (by have:=HSl.o;omega);rw[eT]at hv;have HV:=hid hv;have HTl:=hid eT;have hlt2:(i:Int)<(T:Int):=by have:=HSl.o;omega
   rw[hv]at hP;have HP:=hid hP;have HF:=hid hf;have HE1:Hid (mm (YG E G.w.ms i) i=mm G.w.ms i):=hid (by rw[Qc E (by rw[HN.o];omega) i (by rw[HN.o];omega)];simp);have HRs:=hid (fun u=>HD.o.res (mm (YG E G.w.ms i) i) (pp E.st i).1 (pp E.st i).2 u);obtain⟨d0,d1,d2,d3,d4,d5,d6,d7,d8,d9,d10,d11,d12,df⟩:=owM hx.o1 (i:=i) (by simp only[hml];omega);obtain⟨m0,em0⟩:∃m,mm (YG E G.w.ms i) i=m:=⟨_,rfl⟩;have EM:=hid em0;simp only[em0]at d0 d1 d2 d3 d4 d5 d6 d7 d8 d9 d10 d11 d12;rw[em0]at HRs;obtain⟨y0,ey0⟩:∃m,pp E.st i=m:=⟨_,rfl⟩;have EY:=hid ey0;rw[ey0]at HRs;obtain⟨m1,em1⟩:∃m,ZU m0 y0.1 y0.2=m:=⟨_,rfl⟩;obtain⟨dn,ed1⟩:∃m,X5 m0=m:=⟨_,rfl⟩;obtain⟨e1,ee1⟩:∃m,YC m0=m:=⟨_,rfl⟩;rw[em1,ed1,ee1]at HRs;have HNx:Hid (YG E G.w.ms (i+1)=(YG E G.w.ms i).set i m1):=hid (by rw[YG,ey0,<- HE1.o,em0,em1]);have HBk:Hid (Zj G.w.ms (i+1)=Zj G.w.ms i ++ (if dn then [⟨4,(i:Int),0⟩]else [])):=hid (by rw[Zj,<- HE1.o,em0,ed1]);have HLn:Hid (((G.ns ++ Zj G.w.ms i).length+1)*24<=140737488355328):=hid (Nat.le_trans (Nat.mul_le_mul_right 24 (by rw[List.length_append];have:=NN G.w.ms i;omega)) HL.o);have A1:=sA wr (.cells (mcs m0) 59);have HX1:=hid (hx.sT A1);have HP1:=hid (Va wr m0);have HA1:=hid A1;clear em0 em1 ee1 ed1 ey0 hx hf A1 HE1 hml hP hv hv1 hv2 eT;go_upto_region 3 with fail;refine ZD 14 4 (.cells (mcs zM) 59 (0,0)) (.cells (mcs m1) 59 (0,0)) (by kernel_rfl) (by kernel_rfl) (by kernel_rfl) (by kernel_rfl) rfl rfl (fun u b=>XB rfl u) (fun u=>heap_alloc_new u _) ?_;apply Exists.intro;refine And.intro ?_ (And.intro ?_ ?_)
   ·intro u hu;obtain⟨k0,k1,k2,k3,k4,k5,k6,k7,k8,k9,k10,k11,k12,k13,k14,k15⟩:=(HX1.o.sT hu).k.cl;rw[HV.o]at k6;obtain⟨l0,l1,l2,l3,l4,l5,l6,l7,l8,l9,l10,l11,l12⟩:=(HP1.o.sT hu).cl;obtain⟨n0,n1⟩:=Dq ((HP.o.sT HA1.o).sT hu) (i:=i) (by rw[HTl.o];omega) EY.o;have hne:=Aft.here u;simp only[Y4,tkd,tkq,Nat.reduceAdd];repeat(go_big_quiet_step ((first|(go_at_call 185;with_reducible exact Calls.cl (HRs.o _)))))
    exact wpQuiet_nil rfl
   ·exact fun u h hh=>XA rfl rfl rfl hh
   intro w2 g1 h2 hg1 hm1;have p2:Mb w2 g1 m1:=hm1;have HS2:=hid (HA1.o.trans h2);have HX2:=hid (HX1.o.sT h2);clear d0 d1 d2 d3 d4 d5 d6 d7 d8 d9 d10 d11 d12 df h2 hm1 HRs HX1 HP1 HA1;obtain⟨k0,k1,k2,k3,k4,k5,k6,k7,k8,k9,k10,k11,k12,k13,k14,k15⟩:=HX2.o.k.cl;obtain⟨l0,l1,l2,l3,l4,l5,l6,l7,l8,l9,l10,l11,l12⟩:=p2.cl;have hne:=Aft.here w2;simp only[Act.put,tks];go_upto_region 4 with fail;refine Yp 8 (by kernel_rfl) (by kernel_rfl) ?_;simp only[tkd];repeat(go_big_quiet_step (fail))
   refine wpQuiet_nil ?_;intro w3 h3;have HS3:=hid (HS2.o.trans h3);have hX3:=HX2.o.sT h3;obtain⟨d0,d1,d2,d3,d4,d5,d6,d7,d8,d9,d10,d11,d12,df⟩:=owM hX3.o1 (i:=i) (by simp only[HML.o];omega);obtain⟨hX4,hT4⟩:=hX3.putM (i:=i) (by simp only[HML.o];omega) m1;obtain⟨W4,eW4⟩:∃W,(((((((((((((w3.setCell ⟨gm,i*13,none⟩ (.int .i64 m1.ax)).setCell ⟨gm,i*13+1,none⟩ (.int .i64 m1.ay)).setCell ⟨gm,i*13+2,none⟩ (.int .i64 m1.sx)).setCell ⟨gm,i*13+3,none⟩ (.int .i64 m1.sy)).setCell ⟨gm,i*13+4,none⟩ (.int .i64 m1.px)).setCell ⟨gm,i*13+5,none⟩ (.int .i64 m1.py)).setCell ⟨gm,i*13+6,none⟩ (.int .i64 m1.fc)).setCell ⟨gm,i*13+7,none⟩ (.int .i64 m1.hl)).setCell ⟨gm,i*13+8,none⟩ (.int .i64 m1.en)).setCell ⟨gm,i*13+9,none⟩ (.bool m1.sh)).setCell ⟨gm,i*13+10,none⟩ (.int .i64 m1.co)).setCell ⟨gm,i*13+11,none⟩ (.int .i64 m1.ou)).setCell ⟨gm,i*13+12,none⟩ (.int .i64 m1.sd))=W:=⟨_,rfl⟩;have HX4:Hid (Fx B W4 g S ⟨{ G.w with ms:=(YG E G.w.ms i).set i m1 },G.ns ++ Zj G.w.ms i⟩ (.slice (some ⟨gm,0,none⟩) N cpm) vb vc vd vn):=hid (by rw[<- eW4];exact hX4);have HF4:Hid (FrT B [104,59,47] w W4):=hid ((HF.o.then HS3.o).trans ((show FrT B [59] w3 W4 by rw[<- eW4];exact hT4).mono (by simp)));clear h3 hne k0 k1 k2 k3 k4 k5 k6 k7 k8 k9 k10 k11 k12 k13 k14 k15 l0 l1 l2 l3 l4 l5 l6 l7 l8 l9 l10 l11 l12 hX3 hX4 hT4 HX2 HS2 HS3 p2 HF;cases dn with
   | false =>
    go_wp2_with fail;go_roundw;case rel=>exact⟨i+1,by omega,by go_num,⟨_,by rw[HNx.o,HBk.o,if_neg (by decide),List.append_nil];exact HX4.o⟩,HF4.o⟩
    case measure=>first|(simp[intOf];done)|(simp[intOf];omega)
   | true =>
    have HNt:=hid (Nv B g S _ _ _ _ _ _ 4 (i:Int) 0 W4 (by have:=HF4.o.size;omega) HX4.o HLn.o);clear HX4;go_wp2_with fail;refine HNt.o.mono ?_;rintro e w5 ⟨⟨v5,rfl⟩,⟨vm,hg5⟩,hf5⟩;have HG5:=hid hg5;have HF5:=hid (HF4.o.trans (hf5.mono (by simp)));clear hg5 hf5 HNt HF4 d0 d1 d2 d3 d4 d5 d6 d7 d8 d9 d10 d11 d12 df eW4;go_wp2_with fail;go_roundw;case rel=>exact⟨i+1,by omega,by go_num,⟨_,by rw[HNx.o,HBk.o,<- List.append_assoc];exact HG5.o⟩,HF5.o⟩
    case measure=>first|(simp[intOf];done)|(simp[intOf];omega)
  ·have hge:¬(i:Int)<(N:Int):=by omega
   obtain rfl:i=N:=by omega
   have HX1:=hid hx;have HF:=hid hf;clear hx hf hin hml;go_wp2_with fail;go_end0;refine⟨⟨_,rfl⟩,?_,HF.o⟩;unfold XM;rw[HN.o];exact⟨_,_,_,_,_,HX1.o⟩
end
section
open Go.RowKit
open Pu Gp Ap Vp Np Za Ka Ja Ea Ha Hi
theorem chkM0{m:Mv}:YC m=0 ↔ May m:=by
 unfold YC;rw[<- mayB_iff];cases Yw m<;>simp
theorem chkS0{s:Sh}:YM s=0 ↔ YH s=true:=by
 unfold YM;cases YH s<;>simp
theorem chkC0{s:Scr}:YZ s=0 ↔ Ym s:=⟨fun h=>Classical.byContradiction fun hc=>(by rw[UR hc]at h;cases h),Ue⟩
theorem chkK0{L:List Pk}{s:Int}:Y5 L s=0 ↔ YW L s:=⟨fun h=>Classical.byContradiction fun hc=>(by rw[Vd hc]at h;cases h),V9⟩
def UX(p:Int)(w:Wd):Prop:=(w.ms.length:Int)=p/\(∀i,i<w.ms.length->YC (mm w.ms i)=0)/\(w.cs.length:Int)=p/\∀i,i<w.cs.length->YZ (sc w.cs i)=0
def Vn(p nx:Int)(S:List Sh)(i:Nat):Prop:=(ss S i).ow<p/\(if i=0 then 0 else(ss S (i-1)).no)<(ss S i).no/\(ss S i).no<nx
def UY(p nx:Int)(S:List Sh):Prop:=S.length<=48/\(∀i,i<S.length->YM (ss S i)=0)/\∀i,i<S.length->Vn p nx S i
def UZ(k:Nat)(nx:Int)(Q:List Pk):Prop:=(∀i,i<Q.length->(pk Q i).no<nx)/\Y5 Q (k:Int)=0
theorem Rw{p:Int}{w:Wd}(hp:0<=p):UX p w ↔ Seats p.toNat w:=by
 constructor
 ·rintro⟨h1,h2,h3,h4⟩;exact⟨by omega,fun i hi=>chkM0.1 (h2 i (by omega)),by omega,fun i hi=>chkC0.1 (h4 i (by omega))⟩
 ·rintro⟨h1,h2,h3,h4⟩;exact⟨by omega,fun i hi=>chkM0.2 (h2 i (by omega)),by omega,fun i hi=>chkC0.2 (h4 i (by omega))⟩
theorem Rx{p nx:Int}{S:List Sh}:UY p nx S ↔ Flo S/\∀s∈S,s.ow<p/\s.no<nx:=by
 constructor
 ·rintro⟨h1,h2,h3⟩;refine⟨⟨h1,fun i hi=>⟨chkS0.1 (h2 i hi),fun h0=>?_⟩⟩,fun s hs=>?_⟩
  ·have:=(h3 i hi).2.1;rwa [if_neg (by omega)]at this
  ·obtain⟨i,hi,rfl⟩:=List.mem_iff_getElem.1 hs;have:=h3 i hi;unfold Vn at this;rw[ZZ hi]at this;exact⟨this.1,this.2.2⟩
 ·rintro⟨⟨h1,h2⟩,h3⟩;refine⟨h1,fun i hi=>chkS0.2 (h2 i hi).1,fun i hi=>?_⟩;have h4:=h3 _ (List.getElem_mem hi);rw[<- ZZ hi]at h4;refine⟨h4.1,?_,h4.2⟩;split
  ·have:=(maySB_iff.1 (h2 i hi).1).1;omega
  ·exact(h2 i hi).2 (by omega)
theorem Ry{k:Nat}{nx:Int}{Q:List Pk}:UZ k nx Q ↔ YW Q (k:Int)/\∀x∈Q,x.no<nx:=by
 constructor
 ·rintro⟨h1,h2⟩;refine⟨chkK0.1 h2,fun x hx=>?_⟩;obtain⟨i,hi,rfl⟩:=List.mem_iff_getElem.1 hx;have:=h1 i hi;rwa [Z9 hi]at this
 ·rintro⟨h1,h2⟩;refine⟨fun i hi=>?_,chkK0.2 h1⟩;rw[Z9 hi];exact h2 _ (List.getElem_mem hi)
theorem Rz{p:Int}{E:Env}{w:Wd}(hp:0<=p):Z0 p E w ↔ (0<=w.fr/\w.fr<=1099511627776)/\(1<=w.nx/\w.nx<=1099511627777)/\UX p w/\UY p w.nx w.hs/\UZ E.sp.length w.nx w.ks:=by
 rw[Rw hp,Rx,Ry];have e:((p.toNat:Nat):Int)=p:=by omega
 constructor
 ·rintro⟨⟨h1,h2,h3,h4,h5,h6,h7⟩,h8,h9⟩;rw[e]at h3;exact⟨⟨h8,h9⟩,⟨h6,h7⟩,h1,⟨h2,h3⟩,h4,h5⟩
 ·rintro⟨⟨h8,h9⟩,⟨h6,h7⟩,h1,⟨h2,h3⟩,h4,h5⟩;refine⟨⟨h1,h2,?_,h4,h5,h6,h7⟩,h8,h9⟩;rw[e];exact h3
end
section
open Go.RowKit
open Pu Gp Np Ka
attribute [local go_sem] zr Y0
theorem tpw{p:Prop}(h:p:=by
  unfold Yb;go_in;go_wp2
  all_goals go_ret;exact⟨by simp_all[amg]<;>omega,rfl⟩):p:=h
theorem Qv(n l h:Int)(w:World):Yb 164 #[.int .i64 n,.int .i64 l,.int .i64 h] w (.bool (amg n l h)):=tpw
theorem R1(n:Int)(w:World):Yb 225 #[.int .i64 n] w (.bool (amg n 1 3)):=tpw
theorem Dx(n:Int)(w:World):Yb 224 #[.int .i64 n] w (.bool (amg n 1 1099511627776)):=tpw
def JU(x:Pk)(s:Int):Bool:=amg x.no 1 1099511627776 && (amg x.sp 0 (s-1) && amg x.kd 1 3)
theorem R2(x:Pk)(s:Int)(h0:0<=s)(h1:s<=16)(w:World):Ya 165 #[kv x,.int .i64 s] w (.bool (JU x s)):=by
 have k0:=hid (Dx x.no);have k1:=hid (Qv x.sp 0 (s-1));have k2:=hid (R1 x.kd);unfold JU Ya;generalize amg x.no 1 1099511627776=b0 at *
 generalize amg x.sp 0 (s-1)=b1 at *
 generalize amg x.kd 1 3=b2 at *
 go_in;go_wp2_with (first|(go_at_call 224;refine zc (Ya.of (k0.o _)) ?_;intro J n)|(go_at_call 164;refine zc (Ya.of (k1.o _)) ?_;intro J n)|(go_at_call 225;refine zc (Ya.of (k2.o _)) ?_;intro J n))
 all_goals go_ret;exact⟨by simp_all,zst⟩
def ZT(L:List Pk)(y:Int):Bool:=L.any fun x=>x.sp == y
theorem R3{L:List Pk}{k:Nat}{y:Int}(h:k<L.length):ZT (L.take (k+1)) y=(ZT (L.take k) y || (pk L k).sp == y):=by
 have:pk L k=L[k]:=by simp[pk,List.getD,h]
 rw[this];unfold ZT;rw[List.take_succ_eq_append_getElem h,List.any_append];simp
theorem lieI_iff{L:List Pk}{y:Int}:ZT L y=true ↔ ∃i,i<L.length/\(pk L i).sp=y:=by
 unfold ZT;rw[List.any_eq_true];constructor
 ·rintro⟨x,hx,h⟩;obtain⟨i,hi,rfl⟩:=List.mem_iff_getElem.1 hx;refine⟨i,hi,?_⟩;have:pk L i=L[i]:=by simp[pk,List.getD,hi]
  rw[this];simpa using h
 ·rintro⟨i,hi,h⟩;have:pk L i=L[i]:=by simp[pk,List.getD,hi]
  rw[this]at h;exact⟨L[i],List.getElem_mem hi,by simpa using h⟩
def Fk(w:World)(v:Value)(ao:Option Addr)(n cap:Nat):Prop:=∃b,v=.func (.func 267) #[] #[.pointer (some ⟨b,0,none⟩)]/\w.cell? ⟨b,0,none⟩=some (.slice ao n cap)
theorem NO(ao:Option Addr)(n cap:Nat)(w:World):Calls Tryz.prog 226 #[.slice ao n cap] w fun e w'=>∃v,e=.returned v/\Fk w' v ao n cap/\Yc w w':=by
 have hmf:∀(fn:Fn) (first cap:Array Value) (w:World),(Instr.makeFunc fn first cap).run Tryz.prog w=.ok (.func fn first cap) w:=fun _ _ _ _=>rfl;go_enter Tryz.func226,Tryz.ntmps226;go_wp2
 go_ret;refine⟨_,rfl,⟨_,rfl,?_⟩,sA w _⟩;rw[cell_of_row _ _ _ _ _ _ (heap_alloc_new w _)];rfl
theorem NP(L:List Pk)(y:Int)(ao:Option Addr)(n cap b:Nat)(w:World)(hr:RdK w ao n L)(hc:w.cell? ⟨b,0,none⟩=some (.slice ao n cap)) :
  Ya 267 #[.int .i64 y,.pointer (some ⟨b,0,none⟩)] w (.bool (!ZT L y)):=by
 have HR:=hid hr;have HL:=hid hr.1;have hn47:n<=281474976710656:=hr.2.1;clear hr;go_enter Tryz.func267,Tryz.ntmps267;go_wp2_with fail;clear hc;go_loopw [8] (fun u wr=>∃k:Nat,k<=n/\u=.int .i64 (k:Int)/\Hid (ZT (L.take k) y=false)/\Yc w wr) (fun u _=>n-(intOf u).toNat);case atStart=>exact⟨0,by omega,rfl,hid rfl,Fr.refl _ _⟩
 case round =>
  obtain⟨k,hk,rfl,HK,hs⟩:=hrel;by_cases hkn:k<n
  ·have hlt:(k:Int)<(n:Int):=by omega
   obtain⟨B,o,rfl,hcc⟩:=(HR.o.sT hs).at (by omega);obtain⟨c0,c1,c2⟩:=hcc k hkn;have HB:=hid (R3 (L:=L) (k:=k) (y:=y) (by have:=HL.o;omega));have HT:=hid (fun h=>lieI_iff.2 ⟨k,show k<L.length by have:=HL.o;omega,show(pk L k).sp=y from h⟩);obtain⟨⟨xa,xb,xc⟩,ex⟩:∃x,pk L k=x:=⟨_,rfl⟩;rw[ex]at c0 c1 c2 HB HT;have q0:=Xn wr ⟨xa,xb,xc⟩;obtain⟨d0,d1,d2,df⟩:=q0.cells;have HS1:=hid (hs.trans (sA wr (.cells (kcs ⟨xa,xb,xc⟩) 71)));simp only at c0 c1 c2 d0 d1 d2;clear hs hcc ex q0;by_cases hy:xb=y
   ·have HE:=hid (HT.o hy);have hy':(xb == y)=true:=by simpa using hy
    clear hy HT HB;go_wp2_with fail
    (try rw[Exit.noGoto_ret])
    go_ret;exact⟨by rw[HE.o];rfl,HS1.o⟩
   ·have hy':(xb == y)=false:=by simpa using hy
    have HE:Hid (ZT (L.take (k+1)) y=false):=hid (by rw[HB.o,HK.o];simpa using hy);clear hy HT HB HK;go_wp2_with fail;go_roundw;case rel=>exact⟨k+1,by omega,by go_num,HE,HS1.o⟩
    case measure=>simp[intOf];omega
  ·have hge:¬(k:Int)<(n:Int):=by omega
   have HE:Hid (ZT L y=false):=hid (by
    have:=HK.o;rw[List.take_of_length_le (by have:=HL.o;omega)]at this;exact this)
   have HS1:=hid hs;clear hs HK;go_wp2_with fail;go_ret;exact⟨by rw[HE.o];rfl,HS1.o⟩
def Jb(x:Pk)(L:List Pk):Bool:=!ZT L x.sp && (decide (L.length=0) || decide ((pk L (L.length-1)).no<x.no))
theorem R4(x:Pk)(L:List Pk)(ao:Option Addr)(n cap:Nat)(h8:n<=8)(w:World)(hr:RdK w ao n L):Ya 166 #[kv x,.slice ao n cap] w (.bool (Jb x L)):=by
 have p:=Xn w x;have HS0:=hid (sA w (.cells (kcs x) 71));have HR:=hid hr;have HU:Hid (Jb x L=(!ZT L x.sp && (decide (n=0) || decide ((pk L (n-1)).no<x.no)))):=hid (by unfold Jb;rw[hr.1]);clear hr;go_enter Tryz.func166,Tryz.ntmps166;go_wp2_with fail;refine(NO ao n cap _).mono ?_;rintro e w1 ⟨v,rfl,hf,h1⟩;have q:=p.sT h1;have HS1:=hid (HS0.o.trans h1);have HR1:=hid (HR.o.sT HS1.o);obtain⟨b,rfl,hb⟩:=hf;have HF:=hid (fun(u:World) (hu:Yc w1 u)=>NP L x.sp ao n cap b u (HR1.o.sT hu) ((hu.cell (World.block_lt_of_cell? w1 _ hb) (fun e=>e)).trans hb));clear h1 hb HS0 p;obtain⟨c0,c1,c2,cf⟩:=q.cells;have k0:=kC c0;have k1:=kC c1;have hne:=Aft.here w1;obtain⟨f,ef⟩:∃f,(!ZT L x.sp)=f:=⟨_,rfl⟩;rw[ef]at HF HU;clear ef;go_wp2_with fail;clear c0 c1 c2 cf q;cases f with
 | false =>
  refine Yk (by kernel_rfl) (by kernel_rfl) ?_;repeat(go_big_quiet_step ((go_at_call 267;exact Calls.cl (HF.o _ (Aft.s _)))))
  refine wpQuiet_nil ?_;intro w2 h2;have HS2:=hid (HS1.o.trans h2);clear h2 HS1 HR1 HF k0 k1 hne;go_wp2_with fail;go_ret;exact⟨by rw[HU.o];rfl,HS2.o⟩
 | true =>
  by_cases hn:n=0
  ·subst hn;refine Yk (by kernel_rfl) (by kernel_rfl) ?_;repeat(go_big_quiet_step ((go_at_call 267;exact Calls.cl (HF.o _ (Aft.s _)))))
   refine wpQuiet_nil ?_;intro w2 h2;have HS2:=hid (HS1.o.trans h2);clear h2 HS1 HR1 HF k0 k1 hne;go_wp2_with fail;go_ret;exact⟨by rw[HU.o];rfl,HS2.o⟩
  ·obtain⟨m,em⟩:∃m:Nat,(n:Int)-1=(m:Int):=⟨n-1,by omega⟩;rw[em];have emn:n-1=m:=by omega
   rw[emn]at HU;obtain⟨B,o,rfl,hcc⟩:=HR1.o.at (by omega);obtain⟨z0,_,_⟩:=hcc m (by omega);have k3:=kC z0;have hmn:(m:Int)<(n:Int):=by omega
   have hmd:decide ((m:Int)<0)=false:=by simp
   have HN:=hid (show decide (n=0)=false by simp[hn]);rw[HN.o]at HU;obtain⟨z,ez⟩:∃z,(pk L m).no=z:=⟨_,rfl⟩;rw[ez]at k3 HU;clear ez z0 hcc em emn hn;refine Yk (by kernel_rfl) (by kernel_rfl) ?_;repeat(go_big_quiet_step ((go_at_call 267;exact Calls.cl (HF.o _ (Aft.s _)))))
   refine wpQuiet_nil ?_;intro w2 h2;have HS2:=hid (HS1.o.trans h2);clear h2 HS1 HR1 HF k0 k1 k3 hne;go_wp2_with fail;go_ret;exact⟨by rw[HU.o];simp,HS2.o⟩
theorem JV{L:List Pk}{k i:Nat}(h:i<k):pk (L.take k) i=pk L i:=by simp[pk,List.getD,h]
theorem R5{L:List Pk}{s:Int}{k:Nat}(hk:k<L.length):Fit L s k ↔ JU (pk L k) s=true/\Jb (pk L k) (L.take k)=true:=by
 have hl:(L.take k).length=k:=by simp;omega
 unfold JU Jb Fit amg;rw[hl];simp only[Bool.and_eq_true,Bool.or_eq_true,decide_eq_true_eq,Bool.not_eq_true'];have e1:ZT (L.take k) (pk L k).sp=false ↔ ∀i,i<k->(pk L i).sp≠(pk L k).sp:=by
  rw[<- Bool.not_eq_true,lieI_iff,hl];constructor
  ·intro h i hi he;exact h ⟨i,hi,by rw[JV hi];exact he⟩
  ·rintro h ⟨i,hi,he⟩;rw[JV hi]at he;exact h i hi he
 rw[e1];constructor
 ·rintro⟨h1,h2,h3,h4,h5⟩;refine⟨⟨h1,⟨h3.1,by omega⟩,h4⟩,h5,?_⟩;by_cases h0:k=0
  ·exact .inl h0
  ·exact .inr (by rw[JV (by omega)];exact h2 (by omega))
 ·rintro⟨⟨h1,h3,h4⟩,h5,h2⟩;refine⟨h1,fun h0=>?_,⟨h3.1,by omega⟩,h4,h5⟩;rcases h2 with h2|h2
  ·omega
  ·rw[JV (by omega)]at h2;exact h2
theorem RdK.take{w:World}{ao:Option Addr}{n k:Nat}{L:List Pk}(h:RdK w ao n L)(hk:k<=n):RdK w ao k (L.take k):=by
 obtain⟨h1,h2,h3⟩:=h;refine⟨by simp;omega,by omega,?_⟩;by_cases h0:k=0
 ·exact .inl h0
 ·rcases h3 with h3|⟨B,o,e,hc⟩
  ·omega
  ·exact .inr ⟨B,o,e,fun i hi=>by rw[JV hi];exact hc i (by omega)⟩
theorem R6(L:List Pk)(s:Int)(ao:Option Addr)(n cap:Nat)(w:World)(hr:RdK w ao n L)(hcap:n<=cap)(h0:0<=s)(h1:s<=16)(h8:n<=8):Ya 100 #[.slice ao n cap,.int .i64 s] w (.int .i64 (Y5 L s)):=by
 have HH:=hid (And.intro h0 h1);have HR:=hid hr;have HL:=hid hr.1;have HCp:=hid hcap;have HW:=hid (fun w=>Qv s 0 16 w);rw[show amg s 0 16=true by unfold amg;simp;omega]at HW;have h8':decide ((8:Int)<(n:Int))=false:=by simp;omega
 clear hr hcap h0 h1;go_enter Tryz.func100,Tryz.ntmps100;go_wp2_with fail;refine(HW.o _).mono ?_;rintro e w2 ⟨he,hw⟩;rw[he,hw];clear he hw w2 HW;go_wp2_with fail;go_loopw [17] (fun u wr=>∃k:Nat,k<=n/\u=.int .i64 (k:Int)/\Hid (∀i,i<k->Fit L s i)/\Yc w wr) (fun u _=>n-(intOf u).toNat);case atStart=>exact⟨0,by omega,rfl,hid (fun i hi=>by omega),Fr.refl _ _⟩
 case round =>
  obtain⟨k,hk,rfl,HF,hs⟩:=hrel;by_cases hkn:k<n
  ·have hlt:(k:Int)<(n:Int):=by omega
   obtain⟨B,o,rfl,hc⟩:=(HR.o.sT hs).at (by omega);obtain⟨c0,c1,c2⟩:=hc k hkn;have HS1:=hid (hs.trans (sA wr (.cells (kcs (pk L k)) 71)));have q0:=Xn wr (pk L k);have HFit:=hid (R5 (L:=L) (s:=s) (k:=k) (by have:=HL.o;omega));have HNo:=hid (show ¬Fit L s k->Y5 L s=100 from fun h=>Vd (fun hm=>h (hm.2.2 k (by have:=HL.o;omega))));obtain⟨W,eW⟩:∃W,wr.alloc (.cells (kcs (pk L k)) 71)=W:=⟨_,rfl⟩;obtain⟨g,eg⟩:∃g,wr.heap.size=g:=⟨_,rfl⟩;have q1:Kb W g (pk L k):=by rw[<- eW,<- eg];exact q0
   rw[eW]at HS1;obtain⟨x,ex⟩:∃x,pk L k=x:=⟨_,rfl⟩;rw[ex]at c0 c1 c2 q1 eW HFit;have HM:=hid (fun u=>R2 x s HH.o.1 HH.o.2 u);have HU:=hid (fun(u:World) (hu:Yc W u)=>R4 x (L.take k) (some ⟨B,o,none⟩) k cap (by omega) u ((((HR.o.sT HS1.o).take (k:=k) (by omega))).sT hu));have hsl:∀u,(Instr.slice 31 (.slice (some ⟨B,o,none⟩) n cap) none (some (.int .i64 (k:Int))) none).run Tryz.prog u=.ok (.slice (some ⟨B,o,none⟩) k cap) u:=fun u=>MH u _ n cap (k:Int) (by omega) (by have:=HCp.o;omega);obtain⟨b,eb⟩:∃b,JU x s=b:=⟨_,rfl⟩;obtain⟨c,ec⟩:∃b,Jb x (L.take k)=b:=⟨_,rfl⟩;rw[eb,ec]at HFit;rw[eb]at HM;rw[ec]at HU;clear q0 hs hc ex eb ec;go_upto_region 6 with fail;clear eW eg c0 c1 c2;obtain⟨e0,e1,e2,ef⟩:=q1.cells;have k0:=kC e0;have k1:=kC e1;have k2:=kC e2;have hne:=Aft.here W;clear e0 e1 e2 ef q1;cases b with
   | false =>
    have HE:=hid (HNo.o (fun h=>by have:=(HFit.o.1 h).1;cases this));refine Yk (by kernel_rfl) (by kernel_rfl) ?_;repeat(go_big_quiet_step ((go_at_call 165;exact Calls.cl (HM.o _))))
    refine wpQuiet_nil ?_;intro w2 h2;have HS2:=hid (HS1.o.trans h2);clear h2 HS1 hne k0 k1 k2 HFit HNo HM HU hsl;go_wp2_with fail
    (try rw[Exit.noGoto_ret])
    go_ret;exact⟨by rw[HE.o];rfl,HS2.o⟩
   | true =>
    cases c with
    | false =>
     have HE:=hid (HNo.o (fun h=>by have:=(HFit.o.1 h).2;cases this));refine Yk (by kernel_rfl) (by kernel_rfl) ?_;repeat(go_big_quiet_step ((first|(go_at_call 165;exact Calls.cl (HM.o _))|(go_at_call 166;exact Calls.cl (HU.o _ (Aft.s _))))))
     refine wpQuiet_nil ?_;intro w2 h2;have HS2:=hid (HS1.o.trans h2);clear h2 HS1 hne k0 k1 k2 HFit HNo HM HU hsl;go_wp2_with fail
     (try rw[Exit.noGoto_ret])
     go_ret;exact⟨by rw[HE.o];rfl,HS2.o⟩
    | true =>
     have HE:=hid (show ∀i,i<k+1->Fit L s i from fun i hi=>by
      by_cases e:i=k
      ·subst e;exact HFit.o.2 ⟨rfl,rfl⟩
      ·exact HF.o i (by omega))
     refine Yk (by kernel_rfl) (by kernel_rfl) ?_;repeat(go_big_quiet_step ((first|(go_at_call 165;exact Calls.cl (HM.o _))|(go_at_call 166;exact Calls.cl (HU.o _ (Aft.s _))))))
     refine wpQuiet_nil ?_;intro w2 h2;have HS2:=hid (HS1.o.trans h2);clear h2 HS1 hne k0 k1 k2 HFit HNo HM HU hsl;go_wp2_with fail;go_roundw;case rel=>exact⟨k+1,by omega,by go_num,HE,HS2.o⟩
     case measure=>simp[intOf];omega
  ·have hge:¬(k:Int)<(n:Int):=by omega
   have HE:Hid (Y5 L s=0):=hid (V9 ⟨HH.o,by rw[HL.o];exact h8,fun i hi=>HF.o i (by have:=HL.o;omega)⟩);have HS1:=hid hs;clear hs;go_wp2_with fail;go_ret;exact⟨by rw[HE.o];rfl,HS1.o⟩
theorem Jc(L:List Pk)(s:Int)(ao:Option Addr)(n cap:Nat)(w:World)(hr:RdK w ao n L)(hcap:n<=cap):Ya 100 #[.slice ao n cap,.int .i64 s] w (.int .i64 (Y5 L s)):=by
 by_cases hs:0<=s/\s<=16
 ·by_cases h8:n<=8
  ·exact R6 L s ao n cap w hr hcap hs.1 hs.2 h8
  ·have HE:Hid (Y5 L s=100):=hid (Vd (fun h=>by have:=h.2.1;have:=hr.1;omega));have h8':decide ((8:Int)<(n:Int))=true:=by simp;omega
   have HW:=hid (fun w=>Qv s 0 16 w);rw[show amg s 0 16=true by unfold amg;simp;omega]at HW;clear hr hs hcap h8;go_enter Tryz.func100,Tryz.ntmps100;go_wp2_with fail;refine(HW.o _).mono ?_;rintro e w2 ⟨he,hw⟩;rw[he,hw];clear he hw w2 HW;go_wp2_with fail;go_ret;exact⟨by rw[HE.o];rfl,Fr.refl _ _⟩
 ·have HE:Hid (Y5 L s=100):=hid (Vd (fun h=>hs h.1));have HW:=hid (fun w=>Qv s 0 16 w);rw[show amg s 0 16=false by unfold amg;rw[Bool.and_eq_false_iff];simp only[decide_eq_false_iff_not];omega]at HW;clear hr hs hcap;go_enter Tryz.func100,Tryz.ntmps100;go_wp2_with fail;refine(HW.o _).mono ?_;rintro e w2 ⟨he,hw⟩;rw[he,hw];clear he hw w2 HW;go_wp2_with fail;go_ret;exact⟨by rw[HE.o];rfl,Fr.refl _ _⟩
end
section
open Go.RowKit
theorem exB(P:Prop):∃b:Bool,b=true ↔ P:=by
 by_cases h:P
 ·exact⟨true,fun _=>h,fun _=>rfl⟩
 ·exact⟨false,fun e=>(by cases e),fun p=>absurd p h⟩
theorem IsB.cv{f:Nat}{a:Array Value}{w:World}{P:Prop}{b:Bool}(hb:b=true ↔ P)(h:Calls Tryz.prog f a w fun e w'=>IsB e P/\Yc w w'):Ya f a w (.bool b):=h.mono fun e w' h=>by
 obtain⟨⟨c,rfl,hc⟩,hs⟩:=h;have:c=b:=by rw[Bool.eq_iff_iff,hc,hb]
 exact⟨by rw[this],hs⟩
theorem Ya.isB{f:Nat}{a:Array Value}{w:World}{P:Prop}{b:Bool}(hb:b=true ↔ P)(h:Ya f a w (.bool b)):Calls Tryz.prog f a w fun e w'=>IsB e P/\Yc w w':=h.mono fun _ _ h=>⟨⟨b,h.1,hb⟩,h.2⟩
theorem zlt{C N:Nat}(h:C<N):C<N/\(∀a,C<N+a)/\(∀a b,C<N+a+b)/\(∀a b c,C<N+a+b+c)/\(∀a b c d,C<N+a+b+c+d)/\(∀a b c d e,C<N+a+b+c+d+e)/\(∀a b c d e f,C<N+a+b+c+d+e+f)/\(∀a b c d e f g,C<N+a+b+c+d+e+f+g)/\∀a b c d e f g i,C<N+a+b+c+d+e+f+g+i:=by
 refine⟨h,?_,?_,?_,?_,?_,?_,?_,?_⟩<;>intros<;>omega
end
section
open Go.RowKit
open Pu Gp Ap Vp Np Ka
attribute [local go_sem] zr Y0
theorem Dy{p:Prop}(h:p:=by
    unfold Ya;go_in;go_wp2_with (first|(go_at_call 95;refine zc (HC.o _) ?_;intro J n)|go_in)
    all_goals
      first
        | (exfalso;simp_all;omega)
        | (refine bodyPost_ret (Y9 zbk rfl rfl) rfl ⟨?_, zst⟩
           go_tidy
           clear HC;simp[Xk,Z7,HE.o,KW,zM, *];try ((repeat' split)<;>first|omega|(exfalso;omega)|(simp_all<;>omega)))):p:=h
theorem R7(m:Mv)(k:Int)(w:World):Ya 181 #[mv m,.int .i64 k] w (.tuple #[mv (Xk m k),.int .i64 (Z7 m k),.int .i64 (Zi m k)]):=by
 have HC:=hid (V5 m);rcases Xt m with⟨HM,e⟩|⟨HM,e,hm⟩<;>rw[e]at HC<;>clear e
 ·have HE:Hid (Zi m k=80):=hid (by unfold Zi;rw[HM.o];rfl);exact Dy
 obtain⟨-,-,-,-,⟨a1,a2⟩,⟨b1,b2⟩,-,⟨o1,o2⟩,-,-,-⟩:=hm;by_cases hk:1<=k/\k<=3
 ·have HE:Hid (Zi m k=0):=hid (by unfold Zi;rw[if_pos HM.o,if_pos hk]);obtain rfl|rfl|rfl:k=1\/k=2\/k=3:=by omega
  all_goals clear hk;exact Dy
 ·have HE:Hid (Zi m k=1):=hid (by unfold Zi;rw[if_pos HM.o,if_neg hk]);exact Dy
end
section
open Go.RowKit
open Pu Gp Np Ka
theorem R8(L:List Pk)(j:Nat):fre L (j+1)=fre L j ++ (if ZT L (j:Int)then []else [(j:Int)]):=rfl
theorem R9(L:List Pk)(S:Nat)(hS:S<=16)(v:Value)(ao:Option Addr)(n cap:Nat)(w:World)(hr:RdK w ao n L)(hv:Fk w v ao n cap) :
  Calls Tryz.prog 253 #[v,.int .i64 (S:Int)] w fun e w'=>∃bo m cp,e=.returned (.slice bo m cp)/\OwI 3 w' bo m cp (fre L S)/\Yc w w'/\∀a,bo=some a->w.heap.size<=a.block:=by
 obtain⟨i0,hi,hz,hz1,hz2⟩:=info_parts En;obtain⟨b,rfl,hb⟩:=hv;have HF:=hid (fun(j:Nat) (u:World) (hu:Yc w u)=>NP L (j:Int) ao n cap b u (hr.sT hu) ((hu.cell (World.block_lt_of_cell? w _ hb) (fun e=>e)).trans hb));clear hr hb;go_enter Tryz.func253,Tryz.ntmps253;go_wp2_with fail;go_loopw [5,8] (fun v u wr=>∃(j:Nat) (bo:Option Addr) (m cp:Nat),j<=S/\v=.slice bo m cp/\u=.int .i64 (j:Int)/\OwI 3 wr bo m cp (fre L j)/\Yc w wr/\∀a,bo=some a->w.heap.size<=a.block) (fun _ u _=>S-(intOf u).toNat);case atStart=>exact⟨0,none,0,0,Nat.zero_le _,rfl,rfl,OwI.empty _ _,Fr.refl _ _,fun _ h=>by cases h⟩
 case round =>
  obtain⟨j,bo,m,cp,hj,rfl,rfl,ho,hst,hbo⟩:=hrel;by_cases hjS:j<S
  ·have hlt:(j:Int)<(S:Int):=by omega
   have HO:=hid (And.intro ho hbo);have HS1:=hid hst;have HC:=hid (HF.o j wr hst);have HFr:=hid (R8 L j);have hml:m<=16:=by have:=ho.rd.len;have:=KV L j;omega
   obtain⟨f,ef⟩:∃f,ZT L (j:Int)=f:=⟨_,rfl⟩;rw[ef]at HC HFr;clear ho hst hbo ef;go_wp2_with fail;refine HC.o.mono ?_;rintro e w2 ⟨rfl,h2⟩;have HS2:=hid (HS1.o.trans h2);have HO2:=hid (And.intro (HO.o.1.sT h2) HO.o.2);clear h2 HS1 HO HC;cases f with
   | true =>
    rw[show(!true)=false from rfl];go_wp2_with fail;go_roundw;case rel=>exact⟨j+1,bo,m,cp,by omega,rfl,by go_num,by rw[HFr.o];simpa using HO2.o.1,HS2.o,HO2.o.2⟩
    case measure=>simp[intOf];omega
   | false =>
    rw[show(!false)=true from rfl];go_wp2_with (at_builtin;refine Uc _ rfl _ _ 25 rfl 3 i0 Tryz.underlying25 hi hz hz1 hz2 bo (some ⟨w2.heap.size,0,none⟩) m cp 1 1 (fre L j) [(j:Int)] rfl rfl (HO2.o.1.alloc _) (OwI.one _ w2 _).rd (by omega) ?_;intro bo' cp' w3 ho' hf' hn' _);obtain⟨hst',hbo'⟩:=GP HS2.o HO2.o.2 hf' hn';go_roundw;case rel=>exact⟨j+1,bo',m+1,cp',by omega,rfl,by go_num,by rw[HFr.o];exact ho',hst',hbo'⟩
    case measure=>simp[intOf];omega
  ·have hge:¬(j:Int)<(S:Int):=by omega
   obtain rfl:j=S:=by omega
   have HO:=hid (And.intro ho (And.intro hst hbo));clear hi hz hz1 hz2 ho hst hbo hj hjS;go_wp2_with fail;go_ret;exact⟨bo,m,cp,rfl,HO.o.1,HO.o.2.1,HO.o.2.2⟩
theorem RA(w:World):Calls Tryz.prog 256 #[] w fun e w'=>∃g,e=.returned (.slice (some ⟨g,0,none⟩) 3 3)/\RdI w' (some ⟨g,0,none⟩) 3 3 [5,3,2]/\Yc w w':=by
 go_enter Tryz.func256,Tryz.ntmps256;go_wp2_with fail;go_ret;refine⟨_,rfl,?_,sA w _⟩;exact(OwI.fresh (e:=3) w _ 3 3 [5,3,2] rfl (Nat.le_refl _) (by unfold maxLen;omega) rfl (fun t ht=>by
  simp at ht;rcases(show t=0\/t=1\/t=2 by omega)with rfl|rfl|rfl<;>rfl)).rd
theorem RB(q f s no:Int)(L:List Pk)(ao:Option Addr)(n cap:Nat)(w:World)(hr:RdK w ao n L)(hcap:n<=cap)(hm:ZW L s=false):Ya 184 #[.int .u64 q,.int .i64 f,.slice ao n cap,.int .i64 s,.int .i64 no] w (.tuple #[kv zK,.bool false,.int .i64 100]):=by
 have A0:=sA w (.cells (kcs zK) 71);have p0:=Xn w zK;have H:=hid (Jc L s ao n cap _ (hr.sT A0) hcap);rw[show Y5 L s=100 by unfold Y5;rw[hm];rfl]at H;have HS0:=hid A0;clear hm hr A0 hcap;go_enter Tryz.func184,Tryz.ntmps184;go_wp2_with fail;refine H.o.mono ?_;rintro e w1 ⟨rfl,h1⟩;have p1:=p0.sT h1;have HS1:=hid (HS0.o.trans h1);clear h1 HS0 p0 H;obtain⟨c0,c1,c2,cf⟩:=p1.cells;go_wp2_with fail;refine bodyPost_ret (Kb.rest3 (Kb.put p1 _ _ _) rfl _ _ _ rfl rfl rfl) rfl ⟨rfl,?_⟩;repeat(first|refine Zv ?_ _ _ _ (by omega)|with_reducible exact HS1.o)
theorem RC(q f s no:Int)(L:List Pk)(ao:Option Addr)(n cap:Nat)(w:World)(hr:RdK w ao n L)(hcap:n<=cap)(hm:ZW L s=true)(ha:VA f no=false):Ya 184 #[.int .u64 q,.int .i64 f,.slice ao n cap,.int .i64 s,.int .i64 no] w (.tuple #[kv zK,.bool false,.int .i64 1]):=by
 have HA:Hid (¬f<0->¬f > 1099511627776->amg no 1 1099511627776=false):=hid (fun h1 h2=>by
  cases h:amg no 1 1099511627776 with
  | false=>rfl
  | true =>
   have h6:1<=no/\no<=1099511627776:=by unfold amg at h;simpa using h
   have:=argK_iff.2 (show(0<=f/\f<=1099511627776)/\1<=no/\no<=1099511627776 by omega);rw[this]at ha;cases ha)
 have HI:=hid (fun w=>Dx no w);have A0:=sA w (.cells (kcs zK) 71);have p0:=Xn w zK;have H:=hid (Jc L s ao n cap _ (hr.sT A0) hcap);rw[show Y5 L s=0 by unfold Y5;rw[hm];rfl]at H;have HS0:=hid A0;clear hm hr A0 ha hcap;go_enter Tryz.func184,Tryz.ntmps184;go_wp2_with fail;refine H.o.mono ?_;rintro e w1 ⟨rfl,h1⟩;have p1:=p0.sT h1;have HS1:=hid (HS0.o.trans h1);clear h1 HS0 p0 H;obtain⟨c0,c1,c2,cf⟩:=p1.cells;by_cases g0:f<0
 ·go_wp2_with fail;refine bodyPost_ret (Kb.rest3 (Kb.put p1 _ _ _) rfl _ _ _ rfl rfl rfl) rfl ⟨rfl,?_⟩;repeat(first|refine Zv ?_ _ _ _ (by omega)|with_reducible exact HS1.o)
 ·by_cases g1:f > 1099511627776
  ·go_wp2_with fail;refine bodyPost_ret (Kb.rest3 (Kb.put p1 _ _ _) rfl _ _ _ rfl rfl rfl) rfl ⟨rfl,?_⟩;repeat(first|refine Zv ?_ _ _ _ (by omega)|with_reducible exact HS1.o)
  ·rw[HA.o (by omega) (by omega)]at HI;have g1':decide (1099511627776<f)=false:=by simpa using g1
   clear g1;go_wp2_with fail;refine(HI.o _).mono ?_;rintro e w2 ⟨he,hw⟩;rw[he,hw];clear he hw w2;go_wp2_with fail;refine bodyPost_ret (Kb.rest3 (Kb.put p1 _ _ _) rfl _ _ _ rfl rfl rfl) rfl ⟨rfl,?_⟩;repeat(first|refine Zv ?_ _ _ _ (by omega)|with_reducible exact HS1.o)
theorem RD(q f no:Int)(S:Nat)(L:List Pk)(ao:Option Addr)(n cap:Nat)(w:World)(ht:DTab w)(hr:RdK w ao n L)(hcap:n<=cap)(hm:YW L (S:Int))(a0:¬f<0)(a1:decide (1099511627776<f)=false)(a2:amg no 1 1099511627776=true)(D:Bool)(X Y Z:Int)
  (hD:(f % 16≠0\/n=8\/(fre L S).length=0)->D=false/\X=0/\Y=0/\Z=0) (hD2:f % 16=0->n≠8->(fre L S).length≠0->D=true/\X=no/\Y=(fre L S).getD (bel (atI q f 1) ((fre L S).length:Int)).toNat 0/\Z=wgt (atI q f 2) [5,3,2]+1) :
  Ya 184 #[.int .u64 q,.int .i64 f,.slice ao n cap,.int .i64 (S:Int),.int .i64 no] w (.tuple #[kv ⟨X,Y,Z⟩,.bool D,.int .i64 0]):=by
 have A0:=sA w (.cells (kcs zK) 71);have p0:=Xn w zK;have H:=hid (Jc L (S:Int) ao n cap _ (hr.sT A0) hcap);rw[V9 hm]at H;have HI:=hid (fun w=>Dx no w);rw[a2]at HI;have HS0:=hid A0;have HR:=hid hr;have HT:=hid ht;have HM:=hid (show S<=16/\n<=8/\L.length=n by have:=hm.1;have:=hm.2.1;have:=hr.1;omega);have HD:=hid (And.intro hD hD2);have hn8:n<=8:=HM.o.2.1;have hf0:0<=f/\f<=1099511627776:=by simp at a1;omega
 clear hm hr A0 hD hD2 a2 hcap ht;go_enter Tryz.func184,Tryz.ntmps184;go_wp2_with fail;refine H.o.mono ?_;rintro e w1 ⟨rfl,h1⟩;have p1:=p0.sT h1;have HS1:=hid (HS0.o.trans h1);clear h1 HS0 p0 H;go_wp2_with fail;refine(HI.o _).mono ?_;rintro e w2 ⟨he,hw⟩;rw[he,hw];clear he hw w2 HI a0 a1;obtain⟨c0,c1,c2,cf⟩:=p1.cells;by_cases z0:f % 16=0
 ·have z0':f.tmod 16=0:=by rw[Int.tmod_eq_emod_of_nonneg (by omega)];exact z0
  have HZ:=hid z0;clear z0;by_cases z1:n=8
  ·have z1':((n:Int) == 8)=true:=by simp;omega
   have HE:=hid (HD.o.1 (.inr (.inl z1)));clear z1;go_wp2_with fail;obtain⟨rfl,rfl,rfl,rfl⟩:=HE.o;refine bodyPost_ret (Kb.rest3 (Kb.put p1 _ _ _) rfl _ _ _ rfl rfl rfl) rfl ⟨rfl,?_⟩;repeat(first|refine Zv ?_ _ _ _ (by omega)|with_reducible exact HS1.o)
  ·have z1':((n:Int) == 8)=false:=by simp;omega
   have HZ1:=hid z1;clear z1 c0 c1 c2 cf;go_wp2_with fail;refine(NO ao n cap _).mono ?_;rintro e w2 ⟨v,rfl,hv,h2⟩;have p2:=p1.sT h2;have HS2:=hid (HS1.o.trans h2);have HC:=hid (R9 L S HM.o.1 v ao n cap w2 (HR.o.sT HS2.o) hv);obtain⟨bv,rfl,_⟩:=hv;clear h2 HS1 p1;go_wp2_with fail;refine HC.o.mono ?_;rintro e w3 ⟨bo,m,cp,rfl,ho,h3,_⟩;have p3:=p2.sT h3;have HS3:=hid (HS2.o.trans h3);have HO:=hid ho;have HL:=hid ho.rd.len;have hm16:m<=16:=by have:=HL.o;have:=KV L S;have:=HM.o;omega
   clear h3 ho HS2 p2 HC;obtain⟨c0,c1,c2,cf⟩:=p3.cells;by_cases z2:m=0
   ·have z2':((m:Int) == 0)=true:=by simp;omega
    have HE:=hid (HD.o.1 (.inr (.inr (by have:=HL.o;omega))));clear z2;go_wp2_with fail;obtain⟨rfl,rfl,rfl,rfl⟩:=HE.o;refine bodyPost_ret (Kb.rest3 (Kb.put p3 _ _ _) rfl _ _ _ rfl rfl rfl) rfl ⟨rfl,?_⟩;repeat(first|refine Zv ?_ _ _ _ (by omega)|with_reducible exact HS3.o)
   ·have z2':((m:Int) == 0)=false:=by simp;omega
    have HE:=hid (HD.o.2 HZ.o HZ1.o (by have:=HL.o;omega));rw[show(fre L S).length=m from HL.o]at HE;have HZ2:=hid (show 0<m by omega);clear z2 c0 c1 c2 cf;go_wp2_with fail;refine(LW q f 1 (m:Int) (by omega) _ (HT.o.sT HS3.o)).mono ?_;rintro e w4 ⟨rfl,h4⟩;have p4:=p3.sT h4;have HS4:=hid (HS3.o.trans h4);have HO4:=hid (HO.o.sT h4);clear h4 HS3 HO p3;have hb:=GQ (n:=atI q f 1) (k:=m) HZ2.o;obtain⟨A,eA⟩:∃A:Nat,bel (atI q f 1) (m:Int)=(A:Int):=⟨(bel (atI q f 1) (m:Int)).toNat,by omega⟩;rw[eA]at hb HE⊢;have hA:A<m:=by omega
    clear eA hb;obtain⟨E4,eE4⟩:∃E,X6 (m:Int)=E:=⟨_,rfl⟩;rw[eE4];clear eE4;go_wp2_with fail;refine(RA _).mono ?_;rintro e w5 ⟨gw,rfl,hw,h5⟩;have p5:=p4.sT h5;have HS5:=hid (HS4.o.trans h5);have HO5:=hid (HO4.o.sT h5);have HW:=hid hw;clear h5 HS4 HO4 p4 hw;go_wp2_with fail;refine(Mh q f 2 _ 3 3 [5,3,2] _ HW.o (HT.o.sT HS5.o)).mono ?_;rintro e w6 ⟨rfl,h6⟩;have p6:=p5.sT h6;have HS6:=hid (HS5.o.trans h6);have HO6:=hid (HO5.o.sT h6);clear h6 HS5 HO5 p5 HW;have hk3:=GS q f;unfold Vf at hk3;obtain⟨K,eK⟩:∃K,wgt (atI q f 2) [5,3,2]=K:=⟨_,rfl⟩;rw[eK]at HE hk3⊢;rw[GR];clear eK;obtain⟨c0,c1,c2,cf⟩:=p6.cells;obtain⟨g,rfl⟩:=HO6.o.head (by omega);have d0:=HO6.o.rd.byte (k:=A) (by rw[HL.o];exact hA);rw[Nat.zero_add]at d0;rw[show(fre L S).getD (A:Int).toNat 0=(fre L S)[A]'(by rw[HL.o];exact hA) by simp[List.getD,show A<(fre L S).length by rw[HL.o];exact hA]]at HE;obtain⟨V,eV⟩:∃V,(fre L S)[A]'(by rw[HL.o];exact hA)=V:=⟨_,rfl⟩;rw[eV]at d0 HE;clear eV;have hAi:(A:Int)<(m:Int):=by omega
    go_wp2_with fail;obtain⟨rfl,rfl,rfl,rfl⟩:=HE.o;rw[show K+1=1+K by omega];refine bodyPost_ret (Kb.rest3 (Kb.put p6 _ _ _) rfl _ _ _ rfl rfl rfl) rfl ⟨rfl,?_⟩;repeat(first|refine Zv ?_ _ _ _ (by omega)|with_reducible exact HS6.o)
 ·have HE:=hid (HD.o.1 (.inl z0));have z0':¬f.tmod 16=0:=by rw[Int.tmod_eq_emod_of_nonneg (by omega)];exact z0
  go_wp2_with fail;obtain⟨rfl,rfl,rfl,rfl⟩:=HE.o;refine bodyPost_ret (Kb.rest3 (Kb.put p1 _ _ _) rfl _ _ _ rfl rfl rfl) rfl ⟨rfl,?_⟩;repeat(first|refine Zv ?_ _ _ _ (by omega)|with_reducible exact HS1.o)
theorem RE(q f s no:Int)(L:List Pk)(ao:Option Addr)(n cap:Nat)(w:World)(ht:DTab w)(hr:RdK w ao n L)(hcap:n<=cap):Ya 184 #[.int .u64 q,.int .i64 f,.slice ao n cap,.int .i64 s,.int .i64 no] w (.tuple #[kv (Yr q f L s no),.bool (comes L f s no),.int .i64 (Zo L f s no)]):=by
 cases hm:ZW L s with
 | false =>
  have e:Zo L f s no=100:=by unfold Zo;rw[hm];rfl
  have e1:comes L f s no=false:=by unfold comes;rw[e];rfl
  have e2:Yr q f L s no=zK:=by unfold Yr;rw[e1];rfl
  rw[e,e1,e2];exact RB q f s no L ao n cap w hr hcap hm
 | true =>
  cases ha:VA f no with
  | false =>
   have e:Zo L f s no=1:=by unfold Zo;rw[hm,ha];rfl
   have e1:comes L f s no=false:=by unfold comes;rw[e];rfl
   have e2:Yr q f L s no=zK:=by unfold Yr;rw[e1];rfl
   rw[e,e1,e2];exact RC q f s no L ao n cap w hr hcap hm ha
  | true =>
   have e:Zo L f s no=0:=by unfold Zo;rw[hm,ha];rfl
   have hM:=mayK_iff.1 hm;have hA:=argK_iff.1 ha;rw[e];obtain⟨S,rfl⟩:∃S:Nat,s=(S:Int):=⟨s.toNat,by have:=hM.1;omega⟩;refine RD q f no S L ao n cap w ht hr hcap hM (by omega) (by simp;omega) (by unfold amg;simp;omega) (comes L f S no) (Yr q f L S no).no (Yr q f L S no).sp (Yr q f L S no).kd (fun h=>?_) (fun h1 h2 h3=>?_)
   ·have e1:comes L f S no=false:=by
     unfold comes;rw[e,Int.toNat_natCast];have hl:=hr.1;rcases h with h|h|h
     ·simp[h]
     ·rw[hl,h];simp
     ·rw[h];simp
    have e2:Yr q f L S no=zK:=by unfold Yr;rw[e1];rfl
    rw[e2];exact⟨e1,rfl,rfl,rfl⟩
   ·have e1:comes L f S no=true:=by
     unfold comes;rw[e,Int.toNat_natCast,hr.1];simp[h1,h2,h3]
    have e2:Yr q f L S no=⟨no,ZX q f L S,Vf q f⟩:=by unfold Yr;rw[e1];rfl
    rw[e2];refine⟨e1,rfl,?_,rfl⟩;show ZX q f L S=_;unfold ZX;rw[Int.toNat_natCast]
end
section
open Go.RowKit
open Pu Gp Ap Vp Np Za Ka Ja
theorem NQ:Yl 1280 0 2147483647=1280:=by decide
theorem NR:Yl 768 0 2147483647=768:=by decide
theorem Dz(m:Mv)(w:World):Ya 236 #[mv m] w (.bool (m.ou == 0)):=by
 have HS:=hid (sA w (.cells (mcs m) 59));obtain⟨c0,c1,c2,c3,c4,c5,c6,c7,c8,c9,c10,c11,c12,cf⟩:=(Va w m).cells;go_enter Tryz.func236,Tryz.ntmps236;go_wp2_with fail;go_ret;exact⟨rfl,HS.o⟩
theorem D0(m:Mv)(w:World):Ya 235 #[mv m] w (.bool (Yw m)):=by
 have HS:=hid (sA w (.cells (mcs m) 59));have HC:=hid (fun w=>V5 m w);unfold YC at HC;obtain⟨c0,c1,c2,c3,c4,c5,c6,c7,c8,c9,c10,c11,c12,cf⟩:=(Va w m).cells;cases hb:Yw m with
 | true =>
  rw[hb]at HC;clear hb;go_enter Tryz.func235,Tryz.ntmps235;go_wp2_with fail;refine(HC.o _).mono ?_;rintro e w1 ⟨rfl,h1⟩;have HS1:=hid (HS.o.trans h1);clear h1 HS HC c0 c1 c2 c3 c4 c5 c6 c7 c8 c9 c10 c11 c12 cf;go_wp2_with fail;go_ret;exact⟨rfl,HS1.o⟩
 | false =>
  rw[hb]at HC;clear hb;go_enter Tryz.func235,Tryz.ntmps235;go_wp2_with fail;refine(HC.o _).mono ?_;rintro e w1 ⟨rfl,h1⟩;have HS1:=hid (HS.o.trans h1);clear h1 HS HC c0 c1 c2 c3 c4 c5 c6 c7 c8 c9 c10 c11 c12 cf;go_wp2_with fail;go_ret;exact⟨rfl,HS1.o⟩
theorem Qw(m:Mv)(w:World):Ya 234 #[mv m] w (bx (Ye m.ax 1280) (Ye m.ay 1280) (Yd m.ax 1280) (Yd m.ay 1280)):=by
 have A0:=sA w (.cells (mcs m) 59);have A1:=sA (XZ w m) (.cells #[.int .i64 0,.int .i64 0,.int .i64 0,.int .i64 0] 172);have p0:=(Va w m).sT A1;have q0:=Xy (XZ w m) 0 0 0 0;simp only[size_alloc]at q0;have HS0:=hid (A0.trans A1);have HA:=hid (fun w=>Gq m.ax m.ay 1280 w);rw[NQ]at HA;obtain⟨x,ex⟩:∃x,Ye m.ax 1280=x:=⟨_,rfl⟩;obtain⟨y,ey⟩:∃x,Ye m.ay 1280=x:=⟨_,rfl⟩;obtain⟨z,ez⟩:∃x,Yd m.ax 1280=x:=⟨_,rfl⟩;obtain⟨u,eu⟩:∃x,Yd m.ay 1280=x:=⟨_,rfl⟩;rw[ex,ey,ez,eu]at HA⊢;clear A0 A1 ex ey ez eu;obtain⟨c0,c1,c2,c3,c4,c5,c6,c7,c8,c9,c10,c11,c12,cf⟩:=p0.cells;go_enter Tryz.func234,Tryz.ntmps234;go_wp2_with fail;refine(HA.o _).mono ?_;rintro e w1 ⟨rfl,h1⟩;have q1:=q0.sT h1;have HS1:=hid (HS0.o.trans h1);clear h1 HS0 p0 q0 c0 c1 c2 c3 c4 c5 c6 c7 c8 c9 c10 c11 c12 cf HA;obtain⟨k0,k1,k2,k3,kf⟩:=q1.cells;go_wp2_with fail;refine bodyPost_ret ((q1.set x y z u).res rfl _ rfl) rfl ⟨rfl,?_⟩;repeat(first|refine Zv ?_ _ _ _ (by omega)|with_reducible exact HS1.o)
theorem Jd(L:List Mv)(ao:Option Addr)(n cap:Nat)(w:World)(hr:RdG KM w ao n L):Ya 231 #[.slice ao n cap] w (.bool (Yt L)):=by
 have HL:=hid hr.1;have HR:=hid hr;by_cases h6:6<n
 ·have HE:Hid (Yt L=false):=hid (by
   cases e:Yt L with
   | false=>rfl
   | true=>have:=(togB_iff.1 e).1;rw[HL.o]at this;omega)
  have h6':(n:Int) > 6:=by omega
  clear hr;go_enter Tryz.func231,Tryz.ntmps231;go_wp2_with fail;go_ret;exact⟨by rw[HE.o];rfl,Fr.refl _ _⟩
 ·have h6':decide ((6:Int)<(n:Int))=false:=by simp;omega
  have hn6:n<=6:=by omega
  clear hr h6;go_enter Tryz.func231,Tryz.ntmps231;go_wp2_with fail;clear h6';go_loopw [10] (fun u wr=>∃k:Nat,k<=n/\u=.int .i64 (k:Int)/\Hid (∀i,i<k->Yw (mm L i)=true)/\Yc w wr) (fun u _=>n-(intOf u).toNat);case atStart=>exact⟨0,by omega,rfl,hid (fun i hi=>by omega),Fr.refl _ _⟩
  case round =>
   obtain⟨k,hk,rfl,HF,hs⟩:=hrel;have HS:=hid hs;by_cases hkn:k<n
   ·have hlt:(k:Int)<(n:Int):=by omega
    obtain⟨B,o,rfl⟩:=(HR.o.sT HS.o).at (by omega);obtain⟨c0,c1,c2,c3,c4,c5,c6,c7,c8,c9,c10,c11,c12⟩:=rdM (HR.o.sT HS.o) hkn;have HM:=hid (fun w=>D0 (mm L k) w);have HNo:=hid (fun h=>ED (L:=L) (i:=k) (by rw[HL.o];exact hkn) h);have HYes:=hid (show Yw (mm L k)=true->∀i,i<k+1->Yw (mm L i)=true from fun h i hi=>by
     by_cases e:i=k
     ·subst e;exact h
     ·exact HF.o i (by omega))
    obtain⟨x,ex⟩:∃x,mm L k=x:=⟨_,rfl⟩;rw[ex]at c0 c1 c2 c3 c4 c5 c6 c7 c8 c9 c10 c11 c12 HM HNo HYes;obtain⟨b,eb⟩:∃b,Yw x=b:=⟨_,rfl⟩;rw[eb]at HM HNo HYes;clear ex eb;have HS1:=hid (hs.trans (sA wr (.cells (mcs x) 59)));obtain⟨d0,d1,d2,d3,d4,d5,d6,d7,d8,d9,d10,d11,d12,df⟩:=(Va wr x).cells;clear hs HS;go_wp2_with fail;refine(HM.o _).mono ?_;rintro e w2 ⟨rfl,h2⟩;have HS2:=hid (HS1.o.trans h2);clear h2 HS1 c0 c1 c2 c3 c4 c5 c6 c7 c8 c9 c10 c11 c12 HM d0 d1 d2 d3 d4 d5 d6 d7 d8 d9 d10 d11 d12 df;cases b with
    | true =>
     have HY:=hid (HYes.o rfl);clear HYes HNo;go_wp2_with fail;go_roundw;case rel=>exact⟨k+1,by omega,by go_num,HY,HS2.o⟩
     case measure=>simp[intOf];omega
    | false =>
     have HN:=hid (HNo.o rfl);clear HYes HNo;go_wp2_with fail
     (try rw[Exit.noGoto_ret])
     go_ret;exact⟨by rw[HN.o];rfl,HS2.o⟩
   ·have hge:¬(k:Int)<(n:Int):=by omega
    have HE:Hid (Yt L=true):=hid (togB_iff.2 ⟨by rw[HL.o];exact hn6,fun i hi=>HF.o i (by have:=HL.o;omega)⟩);clear hkn hk hs;go_wp2_with fail;go_ret;exact⟨by rw[HE.o];rfl,HS.o⟩
end
end Go.Proofs.YtcgmohldcokccaaGreatDoor
