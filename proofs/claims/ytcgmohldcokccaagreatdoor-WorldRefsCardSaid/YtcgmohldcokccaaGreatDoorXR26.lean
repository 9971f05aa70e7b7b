import Derived.Test.YtcgmohldcokccaaGreatDoorXR25
import Derived.Test.YtcgmohldcokccaaGreatDoorXR17
import Derived.Test.YtcgmohldcokccaaGreatDoorXR19
set_option linter.unusedVariables false
set_option maxHeartbeats 4000000
set_option maxRecDepth 100000
namespace Go.Proofs.YtcgmohldcokccaaGreatDoor
open Go.RowKit
open Pu Gp Ap Vp Np Za Ka Ja Ea Ha Hg Hi
attribute [local go_sem] zr Y0
theorem PM(S:Se)(N:Nat)(hp:S.F.p=(N:Int))(W:Wd)(v:Value)(w:World)(hv:RdW w v W) :
  Calls Tryz.prog 54 #[.agg (sec S),v] w fun e w'=>IsB e (UX (N:Int) W)/\Yc w w':=by
 obtain⟨a,b,c,d,rfl,⟨ao,ac,rfl,-,-,ha⟩,⟨bo,bc,rfl,-,-,hb⟩,⟨co,cc,rfl,-,-,-⟩,⟨so,dc,rfl,-,-,-⟩⟩:=hv;obtain⟨x,hx⟩:=exB (∀i,i<W.ms.length->YC (mm W.ms i)=0);obtain⟨y,hy⟩:=exB (∀i,i<W.cs.length->YZ (sc W.cs i)=0);obtain⟨r,hr⟩:=exB (UX (N:Int) W);refine Ya.isB hr ?_;have HM:=hid (fun u (hu:Yc w u)=>IsB.cv hx (PJ W.ms ao _ ac u (ha.sT hu)));have HC:=hid (fun u (hu:Yc w u)=>IsB.cv hy (PK W.cs bo _ bc u (hb.sT hu)));have HR:Hid (r=(decide ((W.ms.length:Int)=(N:Int)) && (x && (decide ((W.cs.length:Int)=(N:Int)) && y)))):=hid (by rw[Bool.eq_iff_iff,hr];unfold UX;simp only[Bool.and_eq_true,decide_eq_true_eq,hx,hy]);rw[<- hp]at HR;clear hx hy hr hp ha hb;unfold Ya;go_in
 go_wp2_with (first|(go_at_call 94;refine zc (HM.o _ zst) ?_;intro J n)|(go_at_call 96;refine zc (HC.o _ zst) ?_;intro J n));all_goals go_ret;exact⟨by rw[HR.o];simp_all,zst⟩
theorem PN(S:Se)(N:Nat)(hp:S.F.p=(N:Int))(W:Wd)(v:Value)(w:World)(hv:RdW w v W) :
    Calls Tryz.prog 55 #[.agg (sec S),v] w fun e w'=>IsB e (UY (N:Int) W.nx W.hs)/\Yc w w':=by
  obtain⟨a,b,c,d,rfl,⟨ao,ac,rfl,-,-,-⟩,⟨bo,bc,rfl,-,-,-⟩,⟨co,cc,rfl,-,-,hc⟩,⟨so,dc,rfl,-,-,-⟩⟩:=hv;rw[<- hp];clear hp;obtain⟨x,hx⟩:=exB (∀i,i<W.hs.length->YM (ss W.hs i)=0);obtain⟨r,hr⟩:=exB (UY S.F.p W.nx W.hs);refine Ya.isB hr ?_;have HS:=hid (fun u (hu:Yc w u)=>IsB.cv hx (PL W.hs co _ cc u (hc.sT hu)));unfold UY at hr;rw[<- hx]at hr;have HN:Hid (¬(W.hs.length<=48/\x=true/\∀i,i<W.hs.length->Vn S.F.p W.nx W.hs i)->r=false):=hid fun h=>by
    cases r
    · rfl
    · exact absurd (hr.1 rfl) h
  have HY:=hid hr.2;have hsz:=hc.2.1;have HRd:=hid hc;generalize W.hs.length=n at *
  clear hx hr hc;unfold Ya;cases x
  · go_in
    go_wp2_with (go_at_call 98;refine zc (HS.o _ zst) ?_;intro J n0);all_goals go_ret;exact⟨by rw[HN.o (fun g=>by cases g.2.1)];rfl,zst⟩
  go_in
  go_wp2_with (go_at_call 98;refine zc (HS.o _ zst) ?_;intro J n0);all_goals try (go_ret;exact⟨by rw[HN.o (fun g=>by omega)];rfl,zst⟩)
  refine gw ?_;intro X eX
  go_loopw [5,21] (fun a u wr=>∃k:Nat,k<=n/\u=.int .i64 (k:Int)/\a=.int .i64 (if k=0 then 0 else(ss W.hs (k-1)).no)/\Hid (∀j,j<k->Vn S.F.p W.nx W.hs j)/\Yc X wr) (fun _ u _=>n-(intOf u).toNat);case atStart=>exact⟨0,by omega,rfl,rfl,hid (fun j h=>by omega),Fr.refl _ _⟩
  case round =>
    obtain⟨k,hk,rfl,rfl,HJ,hs⟩:=hrel;obtain⟨K,m,rfl⟩:=hs.more;clear hs;obtain⟨ab,eab⟩:∃a,(if k=0 then 0 else(ss W.hs (k-1)).no)=a:=⟨_,rfl⟩;rw[eab];by_cases hkn:k<n
    · obtain⟨C,o,rfl⟩:=HRd.o.at (by omega)
      obtain⟨q0,q1,q2,q3,q4,q5,q6,q7⟩:=rdS HRd.o hkn;have hC:=zlt (World.block_lt_of_cell? w _ q0);have HF:Hid (¬Vn S.F.p W.nx W.hs k->r=false):=hid fun h=>HN.o fun g=>h (g.2.2 k hkn);have HT:Hid (Vn S.F.p W.nx W.hs k->∀j,j<k+1->Vn S.F.p W.nx W.hs j):=hid (fun h j hj=>by
        by_cases e:j=k
        · subst e;exact h
        · exact HJ.o j (by omega))
      have HX:Hid ((if k+1=0 then 0 else(ss W.hs (k+1-1)).no)=(ss W.hs k).no):=hid (by rw[if_neg (by omega),show k+1-1=k by omega]);have HA:Hid (Vn S.F.p W.nx W.hs k ↔ (ss W.hs k).ow<S.F.p/\ab<(ss W.hs k).no/\(ss W.hs k).no<W.nx):=hid (by unfold Vn;rw[eab]);clear eab HJ;subst eX;go_wp2_with fail;all_goals first
        | ((try rw[Exit.noGoto_ret]);go_ret;exact⟨by rw[HF.o (fun h=>by have:=HA.o.1 h;omega)];rfl,zst⟩)
        | (go_roundw
           case rel=>exact⟨k+1,by omega,by go_num,by rw[HX.o],hid (HT.o (HA.o.2 ⟨by omega,by omega,by omega⟩)),zst⟩
           case measure=>first|(simp[intOf];done)|(simp[intOf];omega))
    · subst eX
      go_wp2_with fail;go_ret;exact⟨by rw[HY.o ⟨by omega,by trivial,fun i hi=>HJ.o i (by omega)⟩];rfl,zst⟩
theorem PO(S:Se)(N:Nat)(_hp:S.F.p=(N:Int))(K:Nat)(po:Option Addr)(pcp:Nat)(hsp:S.sp=.slice po K pcp)(W:Wd)(v:Value)(w:World)(hv:RdW w v W) :
    Calls Tryz.prog 56 #[.agg (sec S),v] w fun e w'=>IsB e (UZ K W.nx W.ks)/\Yc w w':=by
  obtain⟨a,b,c,d,rfl,⟨ao,ac,rfl,-,-,-⟩,⟨bo,bc,rfl,-,-,-⟩,⟨co,cc,rfl,-,-,-⟩,⟨so,dc,rfl,hcap,-,hd⟩⟩:=hv;obtain⟨r,hr⟩:=exB (UZ K W.nx W.ks);refine Ya.isB hr ?_;have HS:=hid (fun u (hu:Yc w u)=>Jc W.ks (K:Int) so _ dc u (UU (hd.sT hu)) hcap);unfold UZ at hr;have HN:Hid (¬((∀i,i<W.ks.length->(pk W.ks i).no<W.nx)/\Y5 W.ks (K:Int)=0)->r=false):=hid fun h=>by
    cases r
    · rfl
    · exact absurd (hr.1 rfl) h
  have HY:=hid hr.2;have hsz:=hd.2.1;have HRd:=hid hd;generalize Y5 W.ks (K:Int)=z at *
  generalize W.ks.length=n at *
  clear hr hd;unfold Ya;go_in
  go_wp2_with fail;refine gw ?_;intro X eX
  go_loopw [10] (fun u wr=>∃k:Nat,k<=n/\u=.int .i64 (k:Int)/\Hid (∀j,j<k->(pk W.ks j).no<W.nx)/\Yc X wr) (fun u _=>n-(intOf u).toNat);case atStart=>exact⟨0,by omega,rfl,hid (fun j h=>by omega),Fr.refl _ _⟩
  case round =>
    obtain⟨k,hk,rfl,HJ,hs⟩:=hrel;obtain⟨J,m,rfl⟩:=hs.more;clear hs;by_cases hkn:k<n
    · obtain⟨C,o,rfl⟩:=HRd.o.at (by omega)
      obtain⟨q0,q1,q2⟩:=rdQ HRd.o hkn;have hC:=zlt (World.block_lt_of_cell? w _ q0);have HF:Hid (¬(pk W.ks k).no<W.nx->r=false):=hid fun h=>HN.o fun g=>h (g.1 k hkn);have HT:Hid ((pk W.ks k).no<W.nx->∀j,j<k+1->(pk W.ks j).no<W.nx):=hid (fun h j hj=>by
        by_cases e:j=k
        · subst e;exact h
        · exact HJ.o j (by omega))
      clear HJ;subst eX;go_wp2_with fail;all_goals first
        | ((try rw[Exit.noGoto_ret]);go_ret;exact⟨by rw[HF.o (by omega)];rfl,zst⟩)
        | (go_roundw
           case rel=>exact⟨k+1,by omega,by go_num,hid (HT.o (by omega)),zst⟩
           case measure=>first|(simp[intOf];done)|(simp[intOf];omega))
    · subst eX
      go_wp2_with (go_at_call 100;refine zc (HS.o _ zst) ?_;intro J1 n1);have HE:Hid (r=(z == 0)):=hid (by
        cases h:z == 0
        · exact HN.o (fun g=>by simp[g.2]at h)
        · exact HY.o ⟨fun i hi=>HJ.o i (by omega),by simpa using h⟩)
      go_ret;exact⟨by rw[HE.o];rfl,zst⟩
attribute [local go_sem] zr Y0
theorem FM(S:Se)(E:Env)(N:Nat)(hp:S.F.p=(N:Int))(po:Option Addr)(pcp:Nat)(hsp:S.sp=.slice po E.sp.length pcp)(W:Wd)(v:Value)(w:World)(hv:RdW w v W) :
  Ya 25 #[.agg (sec S),v] w (.int .i64 (Xv (N:Int) E W)):=by
 have HV:=hid hv;obtain⟨x,hx⟩:=exB (UX (N:Int) W);obtain⟨y,hy⟩:=exB (UY (N:Int) W.nx W.hs);obtain⟨z,hz⟩:=exB (UZ E.sp.length W.nx W.ks);obtain⟨a,b,c,d,rfl,-⟩:=hv;have HW1:=hid (fun u=>Ya.of (Dv W.fr 0 1099511627776 u));have HW2:=hid (fun u=>Ya.of (Uk W.nx 1 1099511627777 u));have HPl:=hid (fun u (hu:Yc w u)=>IsB.cv hx (PM S N hp W _ u (HV.o.sT hu)));have HFl:=hid (fun u (hu:Yc w u)=>IsB.cv hy (PN S N hp W _ u (HV.o.sT hu)));have HLi:=hid (fun u (hu:Yc w u)=>IsB.cv hz (PO S N hp E.sp.length po pcp hsp W _ u (HV.o.sT hu)));have HR:Hid (Xv (N:Int) E W=if decide (0<=W.fr/\W.fr<=1099511627776) && (decide (1<=W.nx/\W.nx<=1099511627777) && (x && (y && z)))then 0 else 131):=hid (by
  have h:=Rz (p:=(N:Int)) (E:=E) (w:=W) (by omega);rw[<- hx,<- hy,<- hz]at h;by_cases k:Z0 (N:Int) E W
  ·rw[JP k,if_pos (by simpa[and_assoc]using h.1 k)]
  ·rw[Qg k,if_neg (fun g=>k (h.2 (by simpa[and_assoc]using g)))])
 clear hx hy hz hp hsp HV;generalize decide (0<=W.fr/\W.fr<=1099511627776)=b1 at *
 generalize decide (1<=W.nx/\W.nx<=1099511627777)=b2 at *
 unfold Ya;go_in
 go_wp2_with (first|(go_at_call 41;refine zc (HW1.o _) ?_;intro J n)|(go_at_call 49;refine zc (HW2.o _) ?_;intro J n)|(go_at_call 54;refine zc (HPl.o _ zst) ?_;intro J n)|(go_at_call 55;refine zc (HFl.o _ zst) ?_;intro J n)|(go_at_call 56;refine zc (HLi.o _ zst) ?_;intro J n));all_goals go_ret;exact⟨by rw[HR.o];simp_all,zst⟩
attribute [local go_sem] zr Y0
theorem Q13.sT{x y:World}{F:Cf}{v:Int}{st sp:List (Int × Int)}(h:Q13 x F v st sp)(hs:Yc x y):Q13 y F v st sp:=⟨fun u hu=>h.chk u (hs.trans hu),fun u hu=>h.sts u (hs.trans hu),fun u hu=>h.sps u (hs.trans hu)⟩
theorem P13.sT{x y:World}{F:Cf}{E:Env}(h:P13 x F E)(hs:Yc x y):P13 y F E:={ h with act:=fun m v a b c u hu=>h.act m v a b c u (hs.trans hu),fire:=fun m ow pw no u hu=>h.fire m ow pw no u (hs.trans hu),spw:=fun f s no L ao n cap u hu=>h.spw f s no L ao n cap u (hs.trans hu) }
theorem Ko(N:Nat)(q C R:Int)(s:ByteArray)(lo:Option Addr)(ln lc:Nat)(E:Env)(l:List Int)(w:World)(v:Int)(Q:Q13 w ⟨(N:Int),q,C,R,s,.slice lo ln lc⟩ v E.st E.sp)(hr:RdI w lo ln lc l)(hc:Zm (N:Int) v E.st.length l)(n1 n2:Nat)(e1:E.st.length=n1)(e2:E.sp.length=n2) :
  Calls Tryz.prog 24 #[.agg #[.int .i64 (N:Int),.int .u64 q,.int .i64 C,.int .i64 R,.string s,.slice lo ln lc]] w fun e w'=>∃ao ac bo bc,e=.returned (.tuple #[.agg #[.int .i64 (N:Int),.int .u64 q,.int .i64 C,.int .i64 R,.string s,.slice lo ln lc,.slice ao n1 ac,.slice bo n2 bc],.int .i64 0])/\OwG KT 57 w' w.heap.size (.slice ao n1 ac) E.st/\OwG KT 57 w' w.heap.size (.slice bo n2 bc) E.sp/\Yc w w':=by
 obtain⟨h1,h2,rfl,h4,h5⟩:=hc;refine(F8 _ q C R s E.st E.sp l lo ln lc w Q hr ⟨h1,h2⟩ h5).mono ?_;rintro e w' ⟨hs,hy,_⟩;obtain⟨ao,ac,bo,bc,o1,o2,rfl⟩:=hy h4;subst e1 e2;exact⟨ao,ac,bo,bc,rfl,o1,o2,hs⟩
theorem PP(p q C R:Int)(s:ByteArray)(lo:Option Addr)(ln lc:Nat)(E:Env)(l:List Int)(w:World)(v:Int)(Q:Q13 w ⟨p,q,C,R,s,.slice lo ln lc⟩ v E.st E.sp)(hr:RdI w lo ln lc l)(hc:¬Zm p v E.st.length l) :
  Ya 24 #[.agg #[.int .i64 p,.int .u64 q,.int .i64 C,.int .i64 R,.string s,.slice lo ln lc]] w (.tuple #[.agg #[.int .i64 0,.int .u64 0,.int .i64 0,.int .i64 0,.string ByteArray.empty,.slice none 0 0,.slice none 0 0,.slice none 0 0],.int .i64 130]):=by
 by_cases h:(2<=p/\p<=6)/\Vh l/\v=0
 ·obtain⟨⟨h1,h2⟩,h5,rfl⟩:=h;refine(F8 _ q C R s E.st E.sp l lo ln lc w Q hr ⟨h1,h2⟩ h5).mono ?_;rintro e w' ⟨hs,_,hn⟩;exact⟨hn (fun h4=>hc ⟨h1,h2,rfl,h4,h5⟩),hs⟩
 ·exact S2 ⟨p,q,C,R,s,.slice lo ln lc⟩ v E.st E.sp l lo ln lc rfl w Q hr h
theorem PQ(N:Nat)(q C R:Int)(s:ByteArray)(lo:Option Addr)(ln lc:Nat)(E:Env)(l:List Int)(w:World)(v:Int)(Q:Q13 w ⟨(N:Int),q,C,R,s,.slice lo ln lc⟩ v E.st E.sp)(hr:RdI w lo ln lc l)(hc:Zm (N:Int) v E.st.length l) :
  Ya 22 #[.agg #[.int .i64 (N:Int),.int .u64 q,.int .i64 C,.int .i64 R,.string s,.slice lo ln lc]] w (.int .i64 0):=by
 have HOp:=hid (fun u (hu:Yc w u)=>Ko N q C R s lo ln lc E l u v (Q.sT hu) (hr.sT hu) hc _ _ rfl rfl);clear Q hr hc;unfold Ya;go_in;go_wp2_with (go_at_call 24;refine(HOp.o _ zst).mono ?_;rintro e w1 ⟨ao,ac,bo,bc,rfl,-,-,h1⟩;obtain⟨J,n0,rfl⟩:=h1.more)
 go_ret;exact⟨rfl,zst⟩
theorem PR(N:Nat)(q C R:Int)(s:ByteArray)(lo:Option Addr)(ln lc:Nat)(E:Env)(l:List Int)(w:World)(v:Int)(Q:Q13 w ⟨(N:Int),q,C,R,s,.slice lo ln lc⟩ v E.st E.sp)(hr:RdI w lo ln lc l)(hc:Zm (N:Int) v E.st.length l) :
  Calls Tryz.prog 16 #[.agg #[.int .i64 (N:Int),.int .u64 q,.int .i64 C,.int .i64 R,.string s,.slice lo ln lc]] w fun e w'=>∃u,e=.returned (.tuple #[u,.int .i64 0])/\OwW w' w.heap.size u (nw0 E N)/\Yc w w':=by
 have HOp:=hid (fun u (hu:Yc w u)=>Ko N q C R s lo ln lc E l u v (Q.sT hu) (hr.sT hu) hc _ _ rfl rfl);have HN:=hid (show N<=6/\N<=E.st.length by have:=hc.2.1;have:=hc.2.2.2.1;omega);clear Q hr hc;go_in;go_wp2_with (first|(go_at_call 24;refine(HOp.o _ zst).mono ?_;rintro e w1 ⟨ao,ac,bo,bc,rfl,o1,-,h1⟩;obtain⟨J,n0,rfl⟩:=h1.more)|(go_at_call 36;refine(FJ N q C R s lo ln lc ao _ ac bo _ bc E _ _ (o1.sT zst) HN.o.1 HN.o.2).mono ?_;rintro e w2 ⟨u,rfl,⟨a,b,c,d,rfl,q1,q2,q3,q4⟩,h2⟩;obtain⟨xa,ya,rfl,-⟩:=q1.slice;obtain⟨xb,yb,rfl,-⟩:=q2.slice;obtain⟨xc,yc,rfl,-⟩:=q3.slice;obtain⟨xd,yd,rfl,-⟩:=q4.slice;obtain⟨K,k,rfl⟩:=h2.more))
 refine bodyPost_ret (YF zbk rfl rfl) rfl ⟨_,rfl,⟨_,_,_,_,rfl,?_,?_,?_,?_⟩,zst⟩
 ·exact q1.to (z:=w.heap.size+1) zfs zsz zsz
 ·exact q2.to (z:=w.heap.size+1) zfs zsz zsz
 ·exact q3.to (z:=w.heap.size+1) zfs zsz zsz
 ·exact q4.to (z:=w.heap.size+1) zfs zsz zsz
theorem PS(N:Nat)(q C R:Int)(s:ByteArray)(lo:Option Addr)(ln lc:Nat)(E:Env)(l:List Int)(w:World)(v0:Int)(Q:Q13 w ⟨(N:Int),q,C,R,s,.slice lo ln lc⟩ v0 E.st E.sp)(hr:RdI w lo ln lc l)(hc:Zm (N:Int) v0 E.st.length l)(W:Wd)(v:Value)(hv:RdW w v W) :
  Ya 23 #[.agg #[.int .i64 (N:Int),.int .u64 q,.int .i64 C,.int .i64 R,.string s,.slice lo ln lc],v] w (.int .i64 (Xv (N:Int) E W)):=by
 have HOp:=hid (fun u (hu:Yc w u)=>Ko N q C R s lo ln lc E l u v0 (Q.sT hu) (hr.sT hu) hc _ _ rfl rfl);have HC:=hid (fun u (hu:Yc w u) ao ac bo bc=>FM ⟨⟨(N:Int),q,C,R,s,.slice lo ln lc⟩,.slice ao E.st.length ac,.slice bo E.sp.length bc,.slice none 0 0⟩ E N rfl bo bc rfl W v u (hv.sT hu));obtain⟨a,b,c,d,rfl,-⟩:=hv;clear Q hr hc;unfold Ya;go_in;go_wp2_with (first|(go_at_call 24;refine(HOp.o _ zst).mono ?_;rintro e w1 ⟨ao,ac,bo,bc,rfl,-,-,h1⟩;obtain⟨J,n0,rfl⟩:=h1.more)|(go_at_call 25;refine zc (HC.o _ zst _ _ _ _) ?_;intro J2 n2))
 go_ret;exact⟨rfl,zst⟩
noncomputable def stE(p v0:Int)(E:Env)(l:List Int)(W:Wd)(cs:List Cm):Int:=
 open Classical in if ¬ Zm p v0 E.st.length l then 130 else if ¬ Z0 p E W then 131 else if W.fr=1099511627776 then 133 else if ¬ Z1 p (W.fr+1) cs then 132 else 0
def PT(w w':World)(n:Int)(e:Ending):Prop:=e=.returned (.tuple #[.agg (Yf 0 0 (.slice none 0 0) (.slice none 0 0) (.slice none 0 0) (.slice none 0 0)),.slice none 0 0,.int .i64 n])/\Yc w w'
def FN(w w':World)(E:Env)(W:Wd)(cs:List Cm)(e:Ending):Prop:=(∃u nv,e=.returned (.tuple #[u,nv,.int .i64 0])/\OwW w' w.heap.size u (frame E W cs).w/\OwG KN 47 w' w.heap.size nv (frame E W cs).ns)/\Yc w w'
def StQ(w w':World)(E:Env)(W:Wd)(cs:List Cm)(n:Int)(e:Ending):Prop:=(n=0->FN w w' E W cs e)/\(n≠0->PT w w' n e)
theorem FO{N:Nat}{f:Int}{l:List Cm}(h:Z1 (N:Int) f l):∀y∈l,Rgt N y:=fun y hy=>by
 obtain⟨i,hi,rfl⟩:=List.mem_iff_getElem.1 hy;have:=(h i hi).1.1;rw[List.getD_eq_getElem?_getD,List.getElem?_eq_getElem hi]at this;simpa using this
theorem PU(N:Nat)(q C R:Int)(s:ByteArray)(lo:Option Addr)(ln lc:Nat)(E:Env)(l:List Int)(w:World)(v0:Int)(Q:Q13 w ⟨(N:Int),q,C,R,s,.slice lo ln lc⟩ v0 E.st E.sp)(D:P13 w ⟨(N:Int),q,C,R,s,.slice lo ln lc⟩ E)(hr:RdI w lo ln lc l)(hc:Zm (N:Int) v0 E.st.length l)(hs16:E.sp.length<=16)(W:Wd)(v:Value)(hv:RdW w v W)(xo:Option Addr)(n xcp:Nat)(cs:List Cm)(hx:RdG KX w xo n cs)(h47:(n+300)*24<=140737488355328) :
    Calls Tryz.prog 9 #[.agg #[.int .i64 (N:Int),.int .u64 q,.int .i64 C,.int .i64 R,.string s,.slice lo ln lc],v,.slice xo n xcp] w fun e w'=>StQ w w' E W cs (stE (N:Int) v0 E l W cs) e:=by
  have HOp:=hid (fun u (hu:Yc w u)=>Ko N q C R s lo ln lc E l u v0 (Q.sT hu) (hr.sT hu) hc _ _ rfl rfl);have HN:=hid (show N<=6/\N<=E.st.length by have:=hc.2.1;have:=hc.2.2.2.1;omega);obtain⟨r,hr'⟩:=exB (Z1 (N:Int) (W.fr+1) cs);have HE:Hid (stE (N:Int) v0 E l W cs=open Classical in if ¬Z0 (N:Int) E W then 131 else if(W.fr == 1099511627776)=true then 133 else if r=false then 132 else 0):=hid (by
    unfold stE;rw[if_neg (not_not_intro hc)]
    simp only[beq_iff_eq];congr 3
    rw[<- hr',Bool.not_eq_true])
  have HC:=hid (fun u (hu:Yc w u) ao ac bo bc=>FM ⟨⟨(N:Int),q,C,R,s,.slice lo ln lc⟩,.slice ao E.st.length ac,.slice bo E.sp.length bc,.slice none 0 0⟩ E N rfl bo bc rfl W v u (hv.sT hu));have HR:=hid (fun u (hu:Yc w u) ao ac bo bc=>IsB.cv hr' (S3 ⟨⟨(N:Int),q,C,R,s,.slice lo ln lc⟩,.slice ao E.st.length ac,.slice bo E.sp.length bc,.slice none 0 0⟩ N rfl HN.o.1 (W.fr+1) cs xo n xcp u (hx.sT hu)));have HS:=hid (fun(hF:Z0 (N:Int) E W) (hm:W.fr<1099511627776) (hO:Z1 (N:Int) (W.fr+1) cs) u (hu:Yc w u) ao ac bo bc B o1 o2=>FB (N:Int) q C R s lo ln lc ao E.st.length ac bo E.sp.length bc xo n xcp E u (D.sT hu) B W N cs (hx.sT hu) o1 o2 HN.o.1 HN.o.2 hs16 (by have:=hF.1;rw[Int.toNat_natCast]at this;exact this) ⟨hF.2.1,hm⟩ (FO hO) h47 v (hv.sT hu));obtain⟨a,b,c,d,rfl,-⟩:=hv;clear Q hr hc D hx h47 hs16;by_cases hF:Z0 (N:Int) E W;rotate_left
  · rw[show stE (N:Int) v0 E l W cs=131 from by rw[HE.o,if_pos hF]]
    rw[Qg hF]at HC;clear HS HR HE hr' hF;go_in;go_wp2_with (first|(go_at_call 24;refine(HOp.o _ zst).mono ?_;rintro e w1 ⟨ao,ac,bo,bc,rfl,-,-,h1⟩;obtain⟨J,n0,rfl⟩:=h1.more)|(go_at_call 25;refine zc (HC.o _ zst _ _ _ _) ?_;intro J2 n2))
    exact bodyPost_ret (Y9 zbk rfl rfl) rfl ⟨fun h=>absurd h (by decide),fun _=>⟨rfl,zst⟩⟩
  have HE1:Hid (stE (N:Int) v0 E l W cs=open Classical in if(W.fr == 1099511627776)=true then 133 else if r=false then 132 else 0):=hid (by rw[HE.o,if_neg (not_not_intro hF)]);have hfr:=hF.2;rw[JP hF]at HC;cases hm:W.fr == 1099511627776;rotate_left
  · rw[show stE (N:Int) v0 E l W cs=133 from by rw[HE1.o,if_pos hm]]
    clear HS HR HE HE1 hr' hF;go_in;go_wp2_with (first|(go_at_call 24;refine(HOp.o _ zst).mono ?_;rintro e w1 ⟨ao,ac,bo,bc,rfl,-,-,h1⟩;obtain⟨J,n0,rfl⟩:=h1.more)|(go_at_call 25;refine zc (HC.o _ zst _ _ _ _) ?_;intro J2 n2))
    exact bodyPost_ret (Y9 zbk rfl rfl) rfl ⟨fun h=>absurd h (by decide),fun _=>⟨rfl,zst⟩⟩
  have hlt:W.fr<1099511627776:=by have:W.fr≠1099511627776:=(by simpa using hm);omega
  cases r
  · rw[show stE (N:Int) v0 E l W cs=132 from by rw[HE1.o,if_neg (by simp[hm]),if_pos rfl]]
    clear HS HE HE1 hr' hF hlt;go_in;go_wp2_with (first|(go_at_call 24;refine(HOp.o _ zst).mono ?_;rintro e w1 ⟨ao,ac,bo,bc,rfl,-,-,h1⟩;obtain⟨J,n0,rfl⟩:=h1.more)|(go_at_call 25;refine zc (HC.o _ zst _ _ _ _) ?_;intro J2 n2)|(go_at_call 26;refine zc (HR.o _ zst _ _ _ _) ?_;intro J3 n3))
    exact bodyPost_ret (Y9 zbk rfl rfl) rfl ⟨fun h=>absurd h (by decide),fun _=>⟨rfl,zst⟩⟩
  · have hO:=hr'.1 rfl
    rw[show stE (N:Int) v0 E l W cs=0 from by rw[HE1.o,if_neg (by simp[hm]),if_neg (by simp)]];have HS2:=hid (HS.o hF hlt hO);clear HS HE HE1 hr' hF hlt hO;go_in;go_wp2_with (first|(go_at_call 24;refine(HOp.o _ zst).mono ?_;rintro e w1 ⟨ao,ac,bo,bc,rfl,o1,o2,h1⟩;obtain⟨J,n0,rfl⟩:=h1.more)|(go_at_call 25;refine zc (HC.o _ zst _ _ _ _) ?_;intro J2 n2)|(go_at_call 26;refine zc (HR.o _ zst _ _ _ _) ?_;intro J3 n3)|(go_at_call 27;refine(HS2.o _ zst _ _ _ _ _ (o1.sT zst) (o2.sT zst)).mono ?_;rintro e w4 ⟨h4,u,nv,rfl,⟨a',b',c',d',rfl,q1,q2,q3,q4⟩,q5⟩;obtain⟨xa,ya,rfl,-⟩:=q1.slice;obtain⟨xb,yb,rfl,-⟩:=q2.slice;obtain⟨xc,yc,rfl,-⟩:=q3.slice;obtain⟨xd,yd,rfl,-⟩:=q4.slice;obtain⟨xe,ye,rfl,-⟩:=q5.slice;obtain⟨K,k,rfl⟩:=h4.more))
    refine bodyPost_ret (Y9 zbk rfl rfl) rfl ⟨fun _=>⟨⟨_,_,rfl,⟨_,_,_,_,rfl,?_,?_,?_,?_⟩,?_⟩,zst⟩,fun h=>absurd rfl h⟩
    · exact OwG.sT (OwG.to (z:=w.heap.size+1+1) q1 zfs zsz zsz) (Fr.alloc (Fr.refl _ _) _)
    · exact OwG.sT (OwG.to (z:=w.heap.size+1+1) q2 zfs zsz zsz) (Fr.alloc (Fr.refl _ _) _)
    · exact OwG.sT (OwG.to (z:=w.heap.size+1+1) q3 zfs zsz zsz) (Fr.alloc (Fr.refl _ _) _)
    · exact OwG.sT (OwG.to (z:=w.heap.size+1+1) q4 zfs zsz zsz) (Fr.alloc (Fr.refl _ _) _)
    · exact OwG.sT (OwG.to (z:=w.heap.size+1+1) q5 zfs zsz zsz) (Fr.alloc (Fr.refl _ _) _)
theorem FP(st:List (Int × Int)):∀k i,i<k->May (mm (nwM st k) i)
 | 0,i,h=>by omega
 | k+1,i,h=>by
  have hl:=Vi st k;rw[nwM];by_cases e:i=k
  ·subst e;rw[Uf (by simp[hl])];simp[List.getElem_append_right,hl,BN]
  ·have hi:i<k:=by omega
   have:=FP st k i hi;rw[Uf (by simp[hl];omega),List.getElem_append_left (by rw[hl];exact hi)];rwa [Uf (by rw[hl];exact hi)]at this
theorem DM{E:Env}{N:Nat}(hs:E.sp.length<=16):Ha.Good N E (nw0 E N):=by
 refine⟨⟨Vi _ _,fun i hi=>FP _ _ i hi,by simp[nw0,nwC],fun i hi=>?_⟩,flo_pw.2 ⟨by simp[nw0],by simp[nw0],by simp[nw0]⟩,by simp[nw0],mayK_pw.2 ⟨⟨by omega,by omega⟩,by simp[nw0],by simp[nw0],by simp[nw0],by simp[nw0]⟩,by simp[nw0],by simp[nw0],by simp[nw0]⟩;have e:sc (nw0 E N).cs i=zC:=by simp[nw0,nwC,sc,List.getD,hi]
 rw[e];exact chkC0.1 (by kernel_rfl)
theorem OwG.sl{α:Type}{K:Kd α}{e:TypeId}{w:World}{B:Nat}{v:Value}{L:List α}(h:OwG K e w B v L)(hm:L.length<=281474976710656):Sl K w v L:=by
 obtain⟨ao,cap,rfl,_⟩:=h.slice;refine⟨ao,cap,rfl,(Kj h).2,fun e0=>?_,Zn h hm⟩;subst e0;rcases h.2 with⟨h1,_⟩|⟨g,c,cur,h1,_⟩
 ·injection h1
 ·injection h1 with h2;cases h2
theorem OwW.rd{w:World}{B:Nat}{v:Value}{W:Wd}(h:OwW w B v W)(h1:W.ms.length<=281474976710656)(h2:W.cs.length<=281474976710656)(h3:W.hs.length<=281474976710656)(h4:W.ks.length<=281474976710656):RdW w v W:=by
 obtain⟨a,b,c,d,rfl,o1,o2,o3,o4⟩:=h;exact⟨a,b,c,d,rfl,o1.sl h1,o2.sl h2,o3.sl h3,o4.sl h4⟩
end Go.Proofs.YtcgmohldcokccaaGreatDoor
