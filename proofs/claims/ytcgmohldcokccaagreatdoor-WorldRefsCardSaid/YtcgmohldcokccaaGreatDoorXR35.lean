import Derived.Test.YtcgmohldcokccaaGreatDoorXR19
import Derived.Test.YtcgmohldcokccaaGreatDoorXR34
set_option linter.unusedVariables false
set_option maxHeartbeats 16000000
namespace Go.Proofs.YtcgmohldcokccaaGreatDoor
open Go.RowKit
open Pu Gp Ap Vp Np Za Ka Ja Ea Ha Hg Hi
set_option maxRecDepth 100000
theorem YaL(w:World):Calls Tryz.prog 150 #[.int .u64 0] w fun e w'=>(∃l:Int,e=.returned (.int .i64 l))/\w'=w:=by
 go_enter Tryz.func150,Tryz.ntmps150;go_wp2_with fail;go_ret;exact⟨⟨_,rfl⟩,rfl⟩
theorem YaM(w:World):Calls Tryz.prog 87 #[.int .u64 0] w fun e w'=>(∃l:Int,e=.returned (.int .i64 l))/\w'=w:=by
 go_enter Tryz.func87,Tryz.ntmps87;go_wp2_with fail;refine(YaL _).mono ?_;rintro e w1 ⟨⟨l,rfl⟩,rfl⟩;go_wp2_with fail;go_ret;exact⟨⟨_,rfl⟩,rfl⟩
theorem YaN(ao:Option Addr)(cap:Nat)(fv:Value)(w:World):Yb 141 #[.slice ao 0 cap,.int .i64 0,.int .i64 0,fv] w (.tuple #[]):=by
 go_enter Tryz.func141,Tryz.ntmps141;go_wp2_with fail;refine wp_loop_rounds 1 ?_;rw[rounds_succ];go_wp2_with fail;go_end0;exact⟨rfl,rfl⟩
theorem YaO(ao:Option Addr)(cap:Nat)(lim:Int)(fv:Value)(w:World):Yb 86 #[.slice ao 0 cap,.int .i64 0,.int .i64 0,.int .i64 lim,fv] w (.tuple #[]):=by
 have H:=hid (fun w=>YaN ao cap fv w);go_enter Tryz.func86,Tryz.ntmps86;go_wp2_with fail;refine wp_loop_rounds 1 ?_;rw[rounds_succ];go_wp2_with fail;refine(H.o _).mono ?_;rintro e w1 ⟨rfl,rfl⟩;go_wp2_with fail
 (try simp only[Exit.inBlock,Exit.then])
 refine bodyPost_ret (results_none rfl _ _ _) rfl ?_;exact⟨rfl,rfl⟩
theorem YaP(ao:Option Addr)(cap:Nat)(fv:Value)(w:World):Yb 43 #[.slice ao 0 cap,fv] w (.tuple #[]):=by
 have H:=hid (fun lim w=>YaO ao cap lim fv w);go_enter Tryz.func43,Tryz.ntmps43;go_wp2_with fail;refine(YaM _).mono ?_;rintro e w1 ⟨⟨l,rfl⟩,rfl⟩;go_wp2_with fail;refine(H.o _ _).mono ?_;rintro e w2 ⟨rfl,rfl⟩;go_wp2_with fail;go_end0;exact⟨rfl,rfl⟩
theorem YaQ(L:List Cm)(B:Nat)(v:Value)(hn:L.length<=281474976710656)(w:World)(ho:OwG KX xcT w B v L):Calls Tryz.prog 43 #[v,.func (.func 44) #[] #[]] w fun e w'=>e=.returned (.tuple #[])/\∃L',L'.Perm L/\L'.Pairwise (fun x y=>¬Y8 y x=true)/\OwG KX xcT w' B v L'/\Fr (fun k=>v.ownBlock=some k) w w':=by
 rcases ho.2 with⟨rfl,h0⟩|⟨g,cap,cur,rfl,_⟩
 ·refine(YaP none 0 _ w).mono ?_;rintro e w' ⟨he,hw⟩;rw[hw];have hl:L=[]:=List.eq_nil_of_length_eq_zero h0;subst hl;exact⟨he,[],List.Perm.refl _,List.Pairwise.nil,ho,Fr.refl _ _⟩
 ·refine(PS L B g L.length cap hn rfl w ho).mono ?_;rintro e w' ⟨he,L',h1,h2,h3,h4⟩;exact⟨he,L',h1,h2,h3,h4.mono (fun k _ e=>by subst e;rfl)⟩
structure Fs (B:Nat) (wr:World) (gf f:Nat) (vs:List Value) (L:List Cm):Prop where
 bk:wr.heap[gf]?=some (.cells vs.toArray xsT (0,0))
 len:vs.length=f
 ow:∀k,k<f->OwG KX xcT wr B (vs.getD k Zz) (ofC L ((k:Int)+1))
theorem Fs.sT{B:Nat}{wr w':World}{gf f:Nat}{vs:List Value}{L:List Cm}(h:Fs B wr gf f vs L)(hs:Yc wr w'):Fs B w' gf f vs L:=⟨hs.kept_still h.bk,h.len,fun k hk=>(h.ow k hk).sT hs⟩
theorem Fs.keepB{B:Nat}{wr w':World}{gf f:Nat}{vs:List Value}{L:List Cm}(h:Fs B wr gf f vs L){F:Nat->Prop}(hf:Fr F wr w')(hg:B<=gf)(hF:∀k,F k->k<B):Fs B w' gf f vs L:=⟨hf.kept h.bk (fun e=>by have:=hF _ e;omega),h.len,fun k hk=>(h.ow k hk).keepB hf hF⟩
theorem Fs.cell{B:Nat}{wr:World}{gf f:Nat}{vs:List Value}{L:List Cm}(h:Fs B wr gf f vs L){k:Nat}(hk:k<f):∃ao m cp,wr.cell? ⟨gf,k,none⟩=some (.slice ao m cp)/\m=(ofC L ((k:Int)+1)).length/\OwG KX xcT wr B (.slice ao m cp) (ofC L ((k:Int)+1)):=by
 obtain⟨ao,cp,ev,_⟩:=(h.ow k hk).slice;refine⟨ao,_,cp,?_,rfl,by rw[<- ev];exact h.ow k hk⟩;rw[cell_of_row _ _ _ _ _ _ h.bk,<- ev];have:k<vs.length:=by rw[h.len];exact hk
 simp[List.getD,this]
theorem YaR{F:Nat->Prop}{x w':World}{J:Array Obj}{n:Nat}(hf:Fr F (more x J n) w')(hF:∀k,F k->x.heap.size<=k):∃J n,w'=more x J n:=(Fr.trans still_more hf (fun k hk e=>by have:=hF k e;omega)).more
theorem YaS{N:Nat}{E:Env}{W:Wd}(h:Ha.Good N E W)(hN:N<=6):Ky W:=
 ⟨by have:=h.1.1;omega,by have:=h.1.2.2.1;omega,by have:=(flo_pw.1 h.2.1).1;omega,by have:=(mayK_pw.1 h.2.2.2.1).2.1;omega⟩
attribute [local go_sem] zr Y0
theorem YaT(N:Nat)(q C R:Int)(s:ByteArray)(lo:Option Addr)(ln lc:Nat)(E:Env)(l:List Int)(w:World)(v0:Int)(Q:Q13 w ⟨(N:Int),q,C,R,s,.slice lo ln lc⟩ v0 E.st E.sp)(D:P13 w ⟨(N:Int),q,C,R,s,.slice lo ln lc⟩ E)(hr:RdI w lo ln lc l)(hc:Zl (N:Int) v0 E.st.length l)(hs16:E.sp.length<=16)(fI:Int)(xo:Option Addr)(n xcp:Nat)(L:List Cm)(hx:RdG KX w xo n L)(hcx:xo=none->xcp=0)(h47:56*n<=140737488351232)
  (ok:Bool) (hok:ok=true ↔ (∀x∈L,Rgt N x)/\Dst L) (X:Wd) (Er:Int) (hE:Er=Xk 0 fI (!ok)) (hX:X=if Er=0 then ZX E N L fI.toNat else oWd) :
  Calls Tryz.prog 19 #[.agg #[.int .i64 (N:Int),.int .u64 q,.int .i64 C,.int .i64 R,.string s,.slice lo ln lc],.int .i64 fI,.slice xo n xcp] w fun e w'=>NwS w w' X Er e:=by
 have HOp:=hid (fun u (hu:Yc w u)=>Jo N q C R s lo ln lc E l u v0 (Q.sT hu) (hr.sT hu) hc _ _ rfl rfl);have HN:=hid (show N<=6/\N<=E.st.length by have:=hc.2.1;have:=hc.2.2.2.1;omega);have HD:=hid D;have HX:=hid hx;have H16:=hid hs16;have HE:=hid (And.intro hE hX);have HK:=hid hok;clear Q D hr hc hx hs16 hE hX hok;go_in;go_wp2_with fail
 refine(HOp.o _ zst).mono ?_;rintro e w1 ⟨ao,ac,bo,bc,rfl,o1,o2,h1⟩;obtain⟨J1,n1,rfl⟩:=h1.more;have O1:=hid o1;have O2:=hid o2;clear o1 o2 h1;go_wp2_with fail;refine(D3 fI 0 4096 _).mono ?_;rintro e w2 ⟨rfl,rfl⟩;by_cases hf:0<=fI/\fI<=4096;rotate_left
 ·obtain rfl:Er=1:=by rw[HE.o.1,Xk,if_pos rfl,if_pos (by omega)]
  obtain rfl:X=oWd:=by rw[HE.o.2,if_neg (by decide)]
  clear HE;rw[decide_eq_false hf];go_wp2_with fail;exact bodyPost_ret (YF zbk rfl rfl) rfl (VQ ⟨rfl,zst⟩)
 rw[decide_eq_true hf];obtain⟨F,rfl⟩:∃F:Nat,fI=(F:Int):=⟨fI.toNat,by omega⟩;have hF4:F<=4096:=by omega
 clear hf;go_wp2_with fail;refine(FD L xo n xcp _ (HX.o.sT zst) hcx (by omega)).mono ?_;rintro e w3 ⟨xv,rfl,ox,h3⟩;have hLn:=HX.o.1;obtain⟨xo3,xc3,rfl,_⟩:=ox.slice;rw[hLn]at ox⊢;obtain⟨J3,n3,rfl⟩:=h3.more;have OX:=hid ox;clear h3 ox;go_wp2_with fail;refine(YaQ L _ _ (by omega) _ (OX.o.sT zsd)).mono ?_;rintro e w4 ⟨rfl,S,hperm,hsrt,ho4,hf4⟩;have hSl:S.length=n:=by rw[hperm.length_eq,hLn]
 have HRS:=hid (show RdG KX w4 xo3 n S by have h:=Ze ho4 (by omega);rw[hSl]at h;exact h);obtain⟨J4,n4,rfl⟩:=YaR hf4 (fun k e=>(OX.o.block e).1);have HO:Hid (ok=true ↔ Km N S):=hid (HK.o.trans ((SG hsrt).trans ⟨fun h=>⟨fun x hx=>h.1 x (hperm.mem_iff.2 hx),DG hperm h.2⟩,fun h=>⟨fun x hx=>h.1 x (hperm.mem_iff.1 hx),DG hperm.symm h.2⟩⟩).symm);have HPm:=hid (And.intro hperm hsrt);clear ho4 hf4 OX hperm hsrt hSl;go_wp2_with fail;refine zc (IsB.cv HO.o (FC ⟨⟨(N:Int),q,C,R,s,.slice lo ln lc⟩,.slice ao E.st.length ac,.slice bo E.sp.length bc,.slice none 0 0⟩ N rfl HN.o.1 S xo3 n xc3 _ (HRS.o.sT zst))) ?_;intro J5 n5
 cases ok with
 | false =>
  obtain rfl:Er=132:=by rw[HE.o.1,Xk,if_pos rfl,if_neg (by omega)];rfl
  obtain rfl:X=oWd:=by rw[HE.o.2,if_neg (by decide)]
  clear HE;go_wp2_with fail;exact bodyPost_ret (YF zbk rfl rfl) rfl (VQ ⟨rfl,zst⟩)
 | true =>
  obtain rfl:Er=0:=by rw[HE.o.1,Xk,if_pos rfl,if_neg (by omega)];rfl
  obtain rfl:X=ZX E N L F:=by rw[HE.o.2,if_pos rfl];rfl
  obtain⟨hrg,hds⟩:=HK.o.1 rfl;have HGd:=hid (DH (E:=E) HN.o.1 (QM H16.o) hrg);have HRg:=hid hrg;have HDs:=hid hds;clear HE HK HO hrg hds;go_wp2_with fail;refine(DY N q C R s lo ln lc ao _ ac bo _ bc E _ _ (O1.o.sT zst) HN.o.1 HN.o.2).mono ?_;rintro e w6 ⟨u,rfl,hw,h6⟩;obtain⟨⟨f1,x1,a1,l1,ca1,b1,m1,cb1,c1,k1,cc1,d1,j1,cd1⟩,rfl,o⟩:=Ga hw;obtain⟨J6,n6,rfl⟩:=h6.more;have OB:=hid o;clear h6 hw o;go_wp2_with fail;refine(PK S xo3 n xc3 F (by omega) (by omega) _ (HRS.o.sT zst)).mono ?_;rintro e w8 ⟨gf,vs,rfl,hbf⟩;have hFs:Fs _ w8 gf F vs L:=⟨hbf.bk,hbf.len,fun k hk=>by have h:=hbf.ow k hk;rw[show ofF S k=ofC L ((k:Int)+1)from SF HPm.o.1 HPm.o.2 HDs.o _]at h;exact h⟩;have HG:=hid hbf.lo;obtain⟨J8,n8,rfl⟩:=hbf.st.more;simp only[World.size_alloc,zr]at hFs HG;have HF:=hid hFs;clear hbf hFs HPm HRS;obtain⟨B,eB⟩:∃B,w.heap.size+1+1+J1.size+1+J4.size+J5.size+J6.size+1=B:=⟨_,rfl⟩;rw[eB]at HF HG;have HB:=hid eB;clear eB;go_wp2_with fail;go_loopw [41] (fun u wr=>∃(k:Nat) (X1:Ws),k<=F/\u=.int .i64 (k:Int)/\On4 wr (w.heap.size+1+1) (ZX E N L k) X1/\Fs B wr gf F vs L/\Yc (more ((more (more (more ((more ((w.alloc (.cells #[.int .i64 (N:Int),.int .u64 q,.int .i64 C,.int .i64 R,.string s,.slice lo ln lc] 27)).alloc (.cells (Yf 0 0 (.slice none 0 0) (.slice none 0 0) (.slice none 0 0) (.slice none 0 0)) 33)) J1 n1).alloc (.cells #[.int .i64 (N:Int),.int .u64 q,.int .i64 C,.int .i64 R,.string s,.slice lo ln lc,.slice ao E.st.length ac,.slice bo E.sp.length bc] 74)) J4 n4) J5 n5) J6 n6).alloc (.cells X1.cs 33)) J8 n8) wr) (fun u _=>F-(intOf u).toNat);case atStart=>exact⟨0,_,by omega,rfl,(OB.o.sT zst).less zsz,HF.o,Fr.refl _ _⟩
  case round =>
   clear OB HF;obtain⟨k,⟨f1,x1,a1,l1,ca1,b1,m1,cb1,c1,k1,cc1,d1,j1,cd1⟩,hk,rfl,o1,hF,hs⟩:=hrel;have HO:=hid o1;have HF:=hid hF;obtain⟨K,k',rfl⟩:=hs.more;clear hs o1 hF;by_cases hkf:k<F
   ·have hlt:(k:Int)<(F:Int):=by omega
    obtain⟨co,mc,cc,hcell,hmc,hoc⟩:=HF.o.cell hkf;have HC:=hid hoc;have hml:mc<=n:=by
     rw[hmc,(Qo L _).length_eq,<- hLn];exact List.length_filter_le _ _
    have HM:=hid hmc;clear hoc hmc;go_wp2_with fail;refine(DX (N:Int) q C R s lo ln lc ao _ ac bo _ bc co mc cc E _ (HD.o.sT zst) _ (ZX E N L k) N (ofC L ((k:Int)+1)) (by have h:=Ze (HC.o.sT zst) (by have:=HM.o;omega);rw[<- HM.o]at h;exact h) (O1.o.sT zst) (O2.o.sT zst) HN.o.1 HN.o.2 H16.o (HGd.o k).1 (by rw[(HGd.o k).2];omega) (fun y hy=>HRg.o y (ofC_mem.1 hy).1) (by omega) _ ((HO.o.rd (YaS (HGd.o k).1 HN.o.1)).sT zst)).mono ?_;rintro e w9 ⟨h9,u,nv,rfl,hW,hnv⟩;obtain⟨⟨f3,x3,a3,l3,ca3,b3,m3,cb3,c3,k3,cc3,d3,j3,cd3⟩,rfl,o3⟩:=Ga hW;obtain⟨y5,r5,rfl,_⟩:=hnv.slice;obtain⟨K9,k9,rfl⟩:=h9.more;have O3:=hid o3;clear h9 hW hnv o3 hcell;go_wp2_with fail;go_roundw;case rel =>
     refine⟨k+1,⟨f3,x3,a3,l3,ca3,b3,m3,cb3,c3,k3,cc3,d3,j3,cd3⟩,by omega,by go_num,?_,?_,zst⟩
     ·exact On4.go (F:=fun k=>k=w.heap.size+1+1+J1.size+1+J4.size+J5.size+J6.size) O3.o zgo zlo zsz
     ·exact Fs.keepB (F:=fun k=>k=w.heap.size+1+1+J1.size+1+J4.size+J5.size+J6.size) (HF.o.sT zst) zgo HG.o (fun k hk=>by have:=HB.o;omega)
    case measure=>first|(simp[intOf];done)|(simp[intOf];omega)
   ·have hge:¬(k:Int)<(F:Int):=by omega
    obtain rfl:k=F:=by omega
    go_wp2_with fail;exact bodyPost_ret (YF zbk rfl rfl) rfl ⟨_,rfl,On4.go (F:=fun k=>k=w.heap.size+1) HO.o zgo (fun k hk=>by omega) zsz,zst⟩
theorem YaU(p q C R:Int)(s:ByteArray)(lo:Option Addr)(ln lc:Nat)(E:Env)(l:List Int)(w:World)(v:Int)(Q:Q13 w ⟨p,q,C,R,s,.slice lo ln lc⟩ v E.st E.sp)(hr:RdI w lo ln lc l)(hc:¬Zl p v E.st.length l)(fI:Int)(xo:Option Addr)(n xcp:Nat) :
  Calls Tryz.prog 19 #[.agg #[.int .i64 p,.int .u64 q,.int .i64 C,.int .i64 R,.string s,.slice lo ln lc],.int .i64 fI,.slice xo n xcp] w fun e w'=>NwS w w' oWd 130 e:=by
 have HOp:=hid (fun u (hu:Yc w u)=>Cv p q C R s lo ln lc E l u v (Q.sT hu) (hr.sT hu) hc);clear Q hr hc;go_in;go_wp2_with (go_at_call 24;refine zc (HOp.o _ zst) ?_;intro J n0)
 exact bodyPost_ret (YF zbk rfl rfl) rfl (VQ ⟨rfl,zst⟩)
end Go.Proofs.YtcgmohldcokccaaGreatDoor
