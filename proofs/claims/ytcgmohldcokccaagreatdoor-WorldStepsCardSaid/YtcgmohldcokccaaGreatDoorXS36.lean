import Derived.Test.YtcgmohldcokccaaGreatDoorXS11
set_option linter.unusedVariables false
set_option maxHeartbeats 4000000
namespace Go.Proofs.YtcgmohldcokccaaGreatDoor
open Go.RowKit
open Pu Gp Ap Vp Np Za Ka Ja
set_option maxRecDepth 100000
theorem YaK(L:List Mv)(Q:List Pk)(T:List (Int × Int))(ao:Option Addr)(n cap:Nat)(po:Option Addr)(r pcap:Nat)(xo:Option Addr)(t tcap:Nat)(w:World)(hr:RdG KM w ao n L)(hq:RdK w po r Q)(htt:RdG KT w xo t T)(ht:Yt L=true)(hf:YU Q (t:Int)):Calls Tryz.prog 74 #[.slice ao n cap,.slice po r pcap,.slice xo t tcap] w fun e w'=>∃v,e=.returned (.tuple #[v,.int .i64 0])/\OwG KT 126 w' w.heap.size v (Yj (fun i k=>hP L (pp T (pk Q i).sp.toNat) k) n r)/\Yc w w':=by
 have HL:=hid hr.1;have HR:=hid hr;have HRQ:=hid hq;have HRT:=hid htt;have hn6:n<=6:=by have:=(togB_iff.1 ht).1;have:=hr.1;omega
 have hr8:r<=8:=by have:=hf.2.1;have:=hq.1;omega
 have ht16:t<=16:=by have:=hf.1;omega
 have HSp:=hid (show ∀i,i<r->0<=(pk Q i).sp/\(pk Q i).sp<(t:Int)from fun i hi=>(hf.2.2 i (by rw[hq.1];exact hi)).2.2.1);have H:=hid (Um L ao n cap w hr);have H2:=hid (fun u hu=>UZ Q (t:Int) po r pcap u hu);rw[ht]at H;rw[V8 hf]at H2;clear hr ht hq htt hf;obtain⟨P,eP⟩:∃P,(fun i k=>hP L (pp T (pk Q i).sp.toNat) k)=P:=⟨_,rfl⟩;have HP:=hid (show ∀i k,P i k=hP L (pp T (pk Q i).sp.toNat) k from fun i k=>by rw[<- eP]);rw[eP];clear eP;go_enter Tryz.func74,Tryz.ntmps74;go_wp2_with fail;refine H.o.mono ?_;rintro e w0 ⟨rfl,h0⟩;have HS0:=hid h0;clear h0 H;go_wp2_with fail;refine(H2.o _ (HRQ.o.still HS0.o)).mono ?_;rintro e w1 ⟨rfl,h1⟩;have HS1:=hid (HS0.o.trans h1);have HZ:=hid HS1.o.size;clear h1 H2 HS0;go_wp2_with fail;go_loopw [10,11] (fun v u wr=>∃i:Nat,i<=r/\u=.int .i64 (i:Int)/\OwG KT 126 wr w1.heap.size v (Yj P n i)/\Yc w1 wr) (fun _ u _=>r-(intOf u).toNat);case atStart=>exact⟨0,by omega,rfl,OwG.nil _ _,Fr.refl _ _⟩
 case round =>
  obtain⟨i,hi,rfl,ho,hs⟩:=hrel;have HS2:=hid hs;have HO2:=hid ho;clear hs;obtain⟨ao2,cap2,rfl,_⟩:=ho.slice;clear ho;have HLn:=hid (show(Yj P n i).length<=100000 by have:=Ub P n i;omega);obtain⟨m2,em2⟩:∃m,(Yj P n i).length=m:=⟨_,rfl⟩;rw[em2]at HO2⊢;clear em2;by_cases hin:i<r
  ·have hlt:(i:Int)<(r:Int):=by omega
   have HRow:Hid (Yj P n (i+1)=Yj P n i ++ (if 0<=lo (P i) 0 n then [((i:Int),lo (P i) 0 n)]else [])):=hid rfl;have HRq:=hid ((HRQ.o.still HS1.o).still HS2.o);have HRt:=hid ((HRT.o.still HS1.o).still HS2.o);obtain⟨sp,esp⟩:∃c:Nat,(pk Q i).sp=(c:Int):=⟨(pk Q i).sp.toNat,by have:=(HSp.o i hin).1;omega⟩;have hspt:sp<t:=by have:=(HSp.o i hin).2;omega
   have hspi:(sp:Int)<(t:Int):=by omega
   obtain⟨B2,o2,rfl⟩:∃B o,po=some ⟨B,o,none⟩:=by
    obtain⟨B,o,e,_⟩:=HRq.o.at (by omega);exact⟨B,o,e⟩
   obtain⟨B3,o3,rfl⟩:=HRt.o.at (by omega);obtain⟨_,q1,_⟩:=HRq.o.get hin;obtain⟨t0,t1⟩:=rdP HRt.o hspt;rw[esp]at q1;have HPi:Hid (∀k,P i k=(((mm L k).ou == 0) && ov (mm L k) (pp T sp).1 (pp T sp).2 768)):=hid (fun k=>by rw[HP.o i k,esp,Int.toNat_natCast];rfl);have HA:=hid (fun w=>Ge (pp T sp).1 (pp T sp).2 768 w);rw[NC]at HA;obtain⟨px,ex⟩:∃z,(pp T sp).1=z:=⟨_,rfl⟩;obtain⟨py,ey⟩:∃z,(pp T sp).2=z:=⟨_,rfl⟩;rw[ex]at t0 HPi HA;rw[ey]at t1 HPi HA;clear esp ex ey;have HOv:Hid (∀k,ov (mm L k) px py 768=mt (Yf (mm L k).ax 1280) (Yf (mm L k).ay 1280) (Yd (mm L k).ax 1280) (Yd (mm L k).ay 1280) (Yf px 768) (Yf py 768) (Yd px 768) (Yd py 768)):=hid (fun k=>rfl);obtain⟨y1,e1⟩:∃z,Yf px 768=z:=⟨_,rfl⟩;obtain⟨y2,e2⟩:∃z,Yf py 768=z:=⟨_,rfl⟩;obtain⟨y3,e3⟩:∃z,Yd px 768=z:=⟨_,rfl⟩;obtain⟨y4,e4⟩:∃z,Yd py 768=z:=⟨_,rfl⟩;rw[e1,e2,e3,e4]at HA HOv;clear e1 e2 e3 e4;go_wp2_with fail;refine(HA.o _).mono ?_;rintro e w2 ⟨rfl,h2⟩;have A2:=sA w2 (.cells #[.int .i64 y1,.int .i64 y2,.int .i64 y3,.int .i64 y4] 172);have bb:=Xw w2 y1 y2 y3 y4;have HS3:=hid ((HS2.o.trans h2).trans A2);have HO3:=hid ((HO2.o.still h2).still A2);clear h2 A2 HS2 HO2 q1 t0 t1 HA HRq HRt;obtain⟨g,eg⟩:∃g,w2.heap.size=g:=⟨_,rfl⟩;have HBB:Hid (Bb (w2.alloc (.cells #[.int .i64 y1,.int .i64 y2,.int .i64 y3,.int .i64 y4] 172)) g y1 y2 y3 y4):=hid (by rw[<- eg];exact bb);clear bb;go_wp2_with fail;clear eg;go_loopw [12,14] (fun v u wr=>∃j:Nat,j<=n/\v=.int .i64 (lo (P i) j (n-j))/\u=.int .i64 ((j:Int)-1)/\Bb wr g y1 y2 y3 y4/\OwG KT 126 wr w1.heap.size (.slice ao2 m2 cap2) (Yj P n i)/\Yc w1 wr) (fun _ u _=>(intOf u+1).toNat);case atStart=>exact⟨n,Nat.le_refl _,by rw[Nat.sub_self];rfl,by go_num,HBB.o,HO3.o,HS3.o⟩
   case round =>
    clear HO3 HS3 HBB;obtain⟨j,hj,rfl,rfl,bb,ho,hs⟩:=hrel;have HS2:=hid hs;have HO2:=hid ho;clear hs ho;by_cases hj0:0<j
    ·obtain⟨k,rfl⟩:∃k,j=k+1:=⟨j-1,by omega⟩;rw[show((k+1:Nat):Int)-1=(k:Int) by omega];have hkn:k<n:=by omega
     have hlt2:(k:Int)<(n:Int):=by omega
     have HLo:=hid (E7 (P i) hkn);obtain⟨at0,eat⟩:∃z,lo (P i) (k+1) (n-(k+1))=z:=⟨_,rfl⟩;rw[eat]at HLo⊢;clear eat;have HRr:=hid ((HR.o.still HS1.o).still HS2.o);obtain⟨B,o,rfl⟩:=HRr.o.at (by omega);obtain⟨c0,c1,c2,c3,c4,c5,c6,c7,c8,c9,c10,c11,c12⟩:=rdM HRr.o hkn;obtain⟨b0,b1,b2,b3,bf⟩:=bb.cells;have HC:=hid (fun u (hu:Yc wr u)=>(rdM (HRr.o.still hu) hkn).2.2.2.2.2.2.2.2.2.2.2.1);have HB1:=hid (fun w=>Qu (mm L k) w);have HT2:=hid (HPi.o k);rw[HOv.o k]at HT2;obtain⟨x,ex⟩:∃x,mm L k=x:=⟨_,rfl⟩;rw[ex]at c0 c1 c2 c3 c4 c5 c6 c7 c8 c9 c10 c11 c12 HC HB1 HT2;clear ex;have HV:=hid (fun w=>WO (Yf x.ax 1280) (Yf x.ay 1280) (Yd x.ax 1280) (Yd x.ay 1280) y1 y2 y3 y4 w);obtain⟨bo,ebo⟩:∃b,mt (Yf x.ax 1280) (Yf x.ay 1280) (Yd x.ax 1280) (Yd x.ay 1280) y1 y2 y3 y4=b:=⟨_,rfl⟩;rw[ebo]at HV HT2;clear ebo;obtain⟨x1,e1⟩:∃z,Yf x.ax 1280=z:=⟨_,rfl⟩;obtain⟨x2,e2⟩:∃z,Yf x.ay 1280=z:=⟨_,rfl⟩;obtain⟨x3,e3⟩:∃z,Yd x.ax 1280=z:=⟨_,rfl⟩;obtain⟨x4,e4⟩:∃z,Yd x.ay 1280=z:=⟨_,rfl⟩;rw[e1,e2,e3,e4]at HB1 HV;clear e1 e2 e3 e4;have k0:=kC c0;have k1:=kC c1;have k2:=kC c2;have k3:=kC c3;have k4:=kC c4;have k5:=kC c5;have k6:=kC c6;have k7:=kC c7;have k8:=kC c8;have k9:=kC c9;have k10:=kC c10;have k11:=kC c11;have k12:=kC c12;have l0:=kC b0;have l1:=kC b1;have l2:=kC b2;have l3:=kC b3;have hne:=Aft.here wr;clear c0 c1 c2 c3 c4 c5 c6 c7 c8 c9 c10 c11 c12 b0 b1 b2 b3 bf;go_wp2_with fail;refine Yk (by kernel_rfl) (by kernel_rfl) ?_;repeat(go_big_quiet_step ((first|(go_at_call 126;with_reducible exact Calls.cl (HB1.o _))|(go_at_call 125;with_reducible exact Calls.cl (HV.o _)))))
     refine wpQuiet_nil ?_;intro w3 h3;have c:=HC.o _ h3;have HS3:=hid (HS2.o.trans h3);have HO3:=hid (HO2.o.still h3);have HBB:=hid (bb.still h3);clear h3 hne k0 k1 k2 k3 k4 k5 k6 k7 k8 k9 k10 k11 k12 l0 l1 l2 l3 HS2 HO2 HB1 HV HC HRr bb;obtain⟨p,ep⟩:∃p,x.ou=p:=⟨_,rfl⟩;rw[ep]at c HT2;clear ep;have HK0:Hid (P i k=false->lo (P i) k (n-k)=at0):=hid (fun h=>by rw[HLo.o,h];rfl);have HK1:Hid (P i k=true->lo (P i) k (n-k)=(k:Int)):=hid (fun h=>by rw[HLo.o,h];rfl);cases hp:p == 0 with
     | false =>
      have HK:=hid (HK0.o (by rw[HT2.o,hp];rfl));clear HK0 HK1 HT2 HLo;go_wp2_with fail;go_roundw;case rel=>exact⟨k,by omega,by rw[HK.o],by go_num,HBB.o,HO3.o,HS3.o⟩
      case measure=>first|(simp[intOf];done)|(simp[intOf];omega)
     | true =>
      cases bo with
      | false =>
       have HK:=hid (HK0.o (by rw[HT2.o,hp];rfl));clear HK0 HK1 HT2 HLo;go_wp2_with fail;go_roundw;case rel=>exact⟨k,by omega,by rw[HK.o],by go_num,HBB.o,HO3.o,HS3.o⟩
       case measure=>first|(simp[intOf];done)|(simp[intOf];omega)
      | true =>
       have HK:=hid (HK1.o (by rw[HT2.o,hp];rfl));clear HK0 HK1 HT2 HLo;go_wp2_with fail;go_roundw;case rel=>exact⟨k,by omega,by rw[HK.o],by go_num,HBB.o,HO3.o,HS3.o⟩
       case measure=>first|(simp[intOf];done)|(simp[intOf];omega)
    ·obtain rfl:j=0:=by omega
     rw[show((0:Nat):Int)-1=-1 by omega,Nat.sub_zero];obtain⟨z,ez⟩:∃z,lo (P i) 0 n=z:=⟨_,rfl⟩;rw[ez]at HRow⊢;clear ez hj0 bb;have hz3:w1.heap.size<=wr.heap.size:=HS2.o.size;by_cases hz0:0<=z
     ·have hz1:z ≥ 0:=hz0;have HK:Hid (Yj P n (i+1)=Yj P n i ++ [((i:Int),z)]):=hid (by rw[HRow.o,if_pos hz0]);have A4:=sA wr (.cells #[.int .i64 (i:Int),.int .i64 z] 126);have HS4:=hid (HS2.o.trans A4);have HO4:=hid (HO2.o.still A4);have HX4:Hid ((wr.alloc (.cells #[.int .i64 (i:Int),.int .i64 z] 126)).heap[wr.heap.size]?=some (.cells #[.int .i64 (i:Int),.int .i64 z] 126 (0,0))):=hid (heap_alloc_new wr _);have HB4:=hid (show w1.heap.size<=(wr.alloc (.cells #[.int .i64 (i:Int),.int .i64 z] 126)).heap.size by rw[size_alloc];omega);clear A4 HRow;go_wp2_with (at_builtin;refine UQ _ rfl _ _ rfl w1.heap.size wr.heap.size _ (Yj P n i) (i:Int) z rfl rfl HO4.o HX4.o HLn.o HB4.o ?_;intro v' w' ho' hf');go_roundw;case rel=>exact⟨i+1,by omega,by go_num,by rw[HK.o];exact ho',Vd HS4.o HO4.o hf' (Nat.le_refl _)⟩
      case measure=>first|(simp[intOf];done)|(simp[intOf];omega)
     ·have hz1:¬z ≥ 0:=hz0;have HK:Hid (Yj P n (i+1)=Yj P n i):=hid (by rw[HRow.o,if_neg hz0,List.append_nil]);clear HRow;go_wp2_with fail;go_roundw;case rel=>exact⟨i+1,by omega,by go_num,by rw[HK.o];exact HO2.o,HS2.o⟩
      case measure=>first|(simp[intOf];done)|(simp[intOf];omega)
  ·have hge:¬(i:Int)<(r:Int):=by omega
   have HE:Hid (Yj P n r=Yj P n i):=hid (by congr;omega);clear hin;go_wp2_with fail;go_ret2
   exact⟨_,rfl,by rw[HE.o];exact HO2.o.less HZ.o,HS1.o.trans HS2.o⟩
theorem YaL(L:List Mv)(Q:List Pk)(T:List (Int × Int))(ao:Option Addr)(n cap:Nat)(po:Option Addr)(r pcap:Nat)(xo:Option Addr)(t tcap:Nat)(w:World)(hr:RdG KM w ao n L)(hq:RdK w po r Q)(htt:RdG KT w xo t T):Calls Tryz.prog 74 #[.slice ao n cap,.slice po r pcap,.slice xo t tcap] w fun e w'=>∃v,e=.returned (.tuple #[v,.int .i64 (Zo (XK L Q T))])/\OwG KT 126 w' w.heap.size v (pic L Q T)/\Yc w w':=by
 have htl:=htt.1;cases he:XK L Q T with
 | true =>
  have h:=he;unfold XK at h;rw[Bool.and_eq_true,htl]at h;have e:pic L Q T=Yj (fun i k=>hP L (pp T (pk Q i).sp.toNat) k) n r:=by unfold pic;rw[he,hr.1,hq.1];rfl
  rw[e];exact YaK L Q T ao n cap po r pcap xo t tcap w hr hq htt h.1 (mayK_iff.1 h.2)
 | false =>
  have HE:Hid (pic L Q T=[]):=hid (by unfold pic;rw[he];rfl);have H:=hid (Um L ao n cap w hr);have H2:=hid (fun u hu=>UZ Q (t:Int) po r pcap u hu);have HRQ:=hid hq;have ht48:=htt.2.1;have HB:Hid ((Yt L && ZU Q (t:Int))=false):=hid (by rw[<- htl];exact he);obtain⟨a,ea⟩:∃b,Yt L=b:=⟨_,rfl⟩;obtain⟨E,eE⟩:∃E,Y4 Q (t:Int)=E:=⟨_,rfl⟩;have HE2:Hid (a=true->E=100):=hid (fun h=>by
   have hb:=HB.o;rw[ea,h,Bool.true_and]at hb;rw[<- eE];unfold Y4;rw[hb];rfl)
  rw[ea]at H;rw[eE]at H2;clear he hr hq htt ea eE htl HB;go_enter Tryz.func74,Tryz.ntmps74;go_wp2_with fail;refine H.o.mono ?_;rintro e w1 ⟨rfl,h1⟩;have HS1:=hid h1;clear h1 H;go_wp2_with fail;refine(H2.o _ (HRQ.o.still HS1.o)).mono ?_;rintro e w2 ⟨rfl,h2⟩;have HS2:=hid (HS1.o.trans h2);clear h2 H2 HS1;cases a with
  | false =>
   clear HE2;go_wp2_with fail;go_ret2
   exact⟨_,rfl,by rw[HE.o];exact OwG.nil _ _,HS2.o⟩
  | true =>
   obtain rfl:=HE2.o rfl;clear HE2;go_wp2_with fail;go_ret2
   exact⟨_,rfl,by rw[HE.o];exact OwG.nil _ _,HS2.o⟩
end Go.Proofs.YtcgmohldcokccaaGreatDoor
