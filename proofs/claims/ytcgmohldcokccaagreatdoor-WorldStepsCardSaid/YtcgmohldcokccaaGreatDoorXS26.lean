import Derived.Test.YtcgmohldcokccaaGreatDoorXS25
import Derived.Test.YtcgmohldcokccaaGreatDoorXS19
import Derived.Test.YtcgmohldcokccaaGreatDoorXS18
set_option linter.unusedVariables false
set_option maxHeartbeats 8000000
namespace Go.Proofs.YtcgmohldcokccaaGreatDoor
open Go.RowKit
open Pu Gp Ap Vp Np Za Ka Ja Ea Ha Hg Hi
set_option maxRecDepth 100000
attribute [local go_sem] zr Y8
theorem PM(S:Se)(N:Nat)(hp:S.F.p=(N:Int))(W:Wd)(v:Value)(w:World)(hv:RdW w v W) :
  Calls Tryz.prog 54 #[.agg (sec S),v] w fun e w'=>IsB e (UT (N:Int) W)/\Yc w w':=by
 obtain⟨a,b,c,d,rfl,⟨ao,ac,rfl,-,-,ha⟩,⟨bo,bc,rfl,-,-,hb⟩,⟨co,cc,rfl,-,-,-⟩,⟨so,dc,rfl,-,-,-⟩⟩:=hv;obtain⟨x,hx⟩:=exB (∀i,i<W.ms.length->YA (mm W.ms i)=0);obtain⟨y,hy⟩:=exB (∀i,i<W.cs.length->YX (sc W.cs i)=0);obtain⟨r,hr⟩:=exB (UT (N:Int) W);refine Ya.isB hr ?_;have HM:=hid (fun u (hu:Yc w u)=>IsB.cv hx (PJ W.ms ao _ ac u (ha.still hu)));have HC:=hid (fun u (hu:Yc w u)=>IsB.cv hy (PK W.cs bo _ bc u (hb.still hu)));have HR:Hid (r=(decide ((W.ms.length:Int)=(N:Int)) && (x && (decide ((W.cs.length:Int)=(N:Int)) && y)))):=hid (by rw[Bool.eq_iff_iff,hr];unfold UT;simp only[Bool.and_eq_true,decide_eq_true_eq,hx,hy]);rw[<- hp]at HR;clear hx hy hr hp ha hb;unfold Ya;go_in
 go_wp2_with (first|(go_at_call 94;refine zc (HM.o _ zst) ?_;intro J n)|(go_at_call 96;refine zc (HC.o _ zst) ?_;intro J n));all_goals go_ret;exact⟨by rw[HR.o];simp_all,zst⟩
theorem PN(S:Se)(N:Nat)(hp:S.F.p=(N:Int))(W:Wd)(v:Value)(w:World)(hv:RdW w v W) :
    Calls Tryz.prog 55 #[.agg (sec S),v] w fun e w'=>IsB e (UU (N:Int) W.nx W.hs)/\Yc w w':=by
  obtain⟨a,b,c,d,rfl,⟨ao,ac,rfl,-,-,-⟩,⟨bo,bc,rfl,-,-,-⟩,⟨co,cc,rfl,-,-,hc⟩,⟨so,dc,rfl,-,-,-⟩⟩:=hv;rw[<- hp];clear hp;obtain⟨x,hx⟩:=exB (∀i,i<W.hs.length->YK (ss W.hs i)=0);obtain⟨r,hr⟩:=exB (UU S.F.p W.nx W.hs);refine Ya.isB hr ?_;have HS:=hid (fun u (hu:Yc w u)=>IsB.cv hx (PL W.hs co _ cc u (hc.still hu)));unfold UU at hr;rw[<- hx]at hr;have HN:Hid (¬(W.hs.length<=48/\x=true/\∀i,i<W.hs.length->Vi S.F.p W.nx W.hs i)->r=false):=hid fun h=>by
    cases r
    · rfl
    · exact absurd (hr.1 rfl) h
  have HY:=hid hr.2;have hsz:=hc.2.1;have HRd:=hid hc;generalize W.hs.length=n at *
  clear hx hr hc;unfold Ya;cases x
  · go_in
    go_wp2_with (go_at_call 98;refine zc (HS.o _ zst) ?_;intro J n0);all_goals go_ret;exact⟨by rw[HN.o (fun g=>by cases g.2.1)];rfl,zst⟩
  go_in
  go_wp2_with (go_at_call 98;refine zc (HS.o _ zst) ?_;intro J n0);all_goals try (go_ret;exact⟨by rw[HN.o (fun g=>by omega)];rfl,zst⟩)
  refine gw ?_;intro X eX
  go_loopw [5,21] (fun a u wr=>∃k:Nat,k<=n/\u=.int .i64 (k:Int)/\a=.int .i64 (if k=0 then 0 else(ss W.hs (k-1)).no)/\Hid (∀j,j<k->Vi S.F.p W.nx W.hs j)/\Yc X wr) (fun _ u _=>n-(intOf u).toNat);case atStart=>exact⟨0,by omega,rfl,rfl,hid (fun j h=>by omega),Fr.refl _ _⟩
  case round =>
    obtain⟨k,hk,rfl,rfl,HJ,hs⟩:=hrel;obtain⟨K,m,rfl⟩:=hs.more;clear hs;obtain⟨ab,eab⟩:∃a,(if k=0 then 0 else(ss W.hs (k-1)).no)=a:=⟨_,rfl⟩;rw[eab];by_cases hkn:k<n
    · obtain⟨C,o,rfl⟩:=HRd.o.at (by omega)
      obtain⟨q0,q1,q2,q3,q4,q5,q6,q7⟩:=rdS HRd.o hkn;have hC:=zlt (World.block_lt_of_cell? w _ q0);have HF:Hid (¬Vi S.F.p W.nx W.hs k->r=false):=hid fun h=>HN.o fun g=>h (g.2.2 k hkn);have HT:Hid (Vi S.F.p W.nx W.hs k->∀j,j<k+1->Vi S.F.p W.nx W.hs j):=hid (fun h j hj=>by
        by_cases e:j=k
        · subst e;exact h
        · exact HJ.o j (by omega))
      have HX:Hid ((if k+1=0 then 0 else(ss W.hs (k+1-1)).no)=(ss W.hs k).no):=hid (by rw[if_neg (by omega),show k+1-1=k by omega]);have HA:Hid (Vi S.F.p W.nx W.hs k ↔ (ss W.hs k).ow<S.F.p/\ab<(ss W.hs k).no/\(ss W.hs k).no<W.nx):=hid (by unfold Vi;rw[eab]);clear eab HJ;subst eX;go_wp2_with fail;all_goals first
        | ((try rw[Exit.noGoto_ret]);go_ret;exact⟨by rw[HF.o (fun h=>by have:=HA.o.1 h;omega)];rfl,zst⟩)
        | (go_roundw
           case rel=>exact⟨k+1,by omega,by go_num,by rw[HX.o],hid (HT.o (HA.o.2 ⟨by omega,by omega,by omega⟩)),zst⟩
           case measure=>first|(simp[intOf];done)|(simp[intOf];omega))
    · subst eX
      go_wp2_with fail;go_ret;exact⟨by rw[HY.o ⟨by omega,by trivial,fun i hi=>HJ.o i (by omega)⟩];rfl,zst⟩
theorem PO(S:Se)(N:Nat)(_hp:S.F.p=(N:Int))(K:Nat)(po:Option Addr)(pcp:Nat)(hsp:S.sp=.slice po K pcp)(W:Wd)(v:Value)(w:World)(hv:RdW w v W) :
    Calls Tryz.prog 56 #[.agg (sec S),v] w fun e w'=>IsB e (UV K W.nx W.ks)/\Yc w w':=by
  obtain⟨a,b,c,d,rfl,⟨ao,ac,rfl,-,-,-⟩,⟨bo,bc,rfl,-,-,-⟩,⟨co,cc,rfl,-,-,-⟩,⟨so,dc,rfl,hcap,-,hd⟩⟩:=hv;obtain⟨r,hr⟩:=exB (UV K W.nx W.ks);refine Ya.isB hr ?_;have HS:=hid (fun u (hu:Yc w u)=>UX W.ks (K:Int) so _ dc u (US (hd.still hu)) hcap);unfold UV at hr;have HN:Hid (¬((∀i,i<W.ks.length->(pk W.ks i).no<W.nx)/\Y4 W.ks (K:Int)=0)->r=false):=hid fun h=>by
    cases r
    · rfl
    · exact absurd (hr.1 rfl) h
  have HY:=hid hr.2;have hsz:=hd.2.1;have HRd:=hid hd;generalize Y4 W.ks (K:Int)=z at *
  generalize W.ks.length=n at *
  clear hr hd;unfold Ya;go_in
  go_wp2_with fail;refine gw ?_;intro X eX
  go_loopw [10] (fun u wr=>∃k:Nat,k<=n/\u=.int .i64 (k:Int)/\Hid (∀j,j<k->(pk W.ks j).no<W.nx)/\Yc X wr) (fun u _=>n-(intOf u).toNat);case atStart=>exact⟨0,by omega,rfl,hid (fun j h=>by omega),Fr.refl _ _⟩
  case round =>
    obtain⟨k,hk,rfl,HJ,hs⟩:=hrel;obtain⟨J,m,rfl⟩:=hs.more;clear hs;by_cases hkn:k<n
    · obtain⟨C,o,rfl⟩:=HRd.o.at (by omega)
      obtain⟨q0,q1,q2⟩:=rdQ HRd.o hkn;have hC:=zlt (World.block_lt_of_cell? w _ q0);have HF:Hid (¬(pk W.ks k).no<W.nx->r=false):=hid fun h=>HN.o fun g=>h (g.1 k hkn);have HT:Hid ((pk W.ks k).no<W.nx->∀j,j<k+1->(pk W.ks j).no<W.nx):=hid (fun h j hj=>by
        by_cases e:j=k
        · subst e;exact h
        · exact HJ.o j (by omega))
      clear HJ;subst eX;go_wp2_with fail;all_goals first
        | ((try rw[Exit.noGoto_ret]);go_ret;exact⟨by rw[HF.o (by omega)];rfl,zst⟩)
        | (go_roundw
           case rel=>exact⟨k+1,by omega,by go_num,hid (HT.o (by omega)),zst⟩
           case measure=>first|(simp[intOf];done)|(simp[intOf];omega))
    · subst eX
      go_wp2_with (go_at_call 100;refine zc (HS.o _ zst) ?_;intro J1 n1);have HE:Hid (r=(z == 0)):=hid (by
        cases h:z == 0
        · exact HN.o (fun g=>by simp[g.2]at h)
        · exact HY.o ⟨fun i hi=>HJ.o i (by omega),by simpa using h⟩)
      go_ret;exact⟨by rw[HE.o];rfl,zst⟩
attribute [local go_sem] zr Y8
theorem F7(S:Se)(E:Env)(N:Nat)(hp:S.F.p=(N:Int))(po:Option Addr)(pcp:Nat)(hsp:S.sp=.slice po E.sp.length pcp)(W:Wd)(v:Value)(w:World)(hv:RdW w v W) :
  Ya 25 #[.agg (sec S),v] w (.int .i64 (Xs (N:Int) E W)):=by
 have HV:=hid hv;obtain⟨x,hx⟩:=exB (UT (N:Int) W);obtain⟨y,hy⟩:=exB (UU (N:Int) W.nx W.hs);obtain⟨z,hz⟩:=exB (UV E.sp.length W.nx W.ks);obtain⟨a,b,c,d,rfl,-⟩:=hv;have HW1:=hid (fun u=>Ya.of (MT W.fr 0 1099511627776 u));have HW2:=hid (fun u=>Ya.of (Uj W.nx 1 1099511627777 u));have HPl:=hid (fun u (hu:Yc w u)=>IsB.cv hx (PM S N hp W _ u (HV.o.still hu)));have HFl:=hid (fun u (hu:Yc w u)=>IsB.cv hy (PN S N hp W _ u (HV.o.still hu)));have HLi:=hid (fun u (hu:Yc w u)=>IsB.cv hz (PO S N hp E.sp.length po pcp hsp W _ u (HV.o.still hu)));have HR:Hid (Xs (N:Int) E W=if decide (0<=W.fr/\W.fr<=1099511627776) && (decide (1<=W.nx/\W.nx<=1099511627777) && (x && (y && z)))then 0 else 131):=hid (by
  have h:=Rh (p:=(N:Int)) (E:=E) (w:=W) (by omega);rw[<- hx,<- hy,<- hz]at h;by_cases k:Zz (N:Int) E W
  ·rw[JX k,if_pos (by simpa[and_assoc]using h.1 k)]
  ·rw[Ql k,if_neg (fun g=>k (h.2 (by simpa[and_assoc]using g)))])
 clear hx hy hz hp hsp HV;generalize decide (0<=W.fr/\W.fr<=1099511627776)=b1 at *
 generalize decide (1<=W.nx/\W.nx<=1099511627777)=b2 at *
 unfold Ya;go_in
 go_wp2_with (first|(go_at_call 41;refine zc (HW1.o _) ?_;intro J n)|(go_at_call 49;refine zc (HW2.o _) ?_;intro J n)|(go_at_call 54;refine zc (HPl.o _ zst) ?_;intro J n)|(go_at_call 55;refine zc (HFl.o _ zst) ?_;intro J n)|(go_at_call 56;refine zc (HLi.o _ zst) ?_;intro J n));all_goals go_ret;exact⟨by rw[HR.o];simp_all,zst⟩
attribute [local go_sem] zr Y8
theorem Q13.still{x y:World}{F:Cf}{v:Int}{st sp:List (Int × Int)}(h:Q13 x F v st sp)(hs:Yc x y):Q13 y F v st sp:=⟨fun u hu=>h.chk u (hs.trans hu),fun u hu=>h.sts u (hs.trans hu),fun u hu=>h.sps u (hs.trans hu)⟩
theorem P13.still{x y:World}{F:Cf}{E:Env}(h:P13 x F E)(hs:Yc x y):P13 y F E:={ h with act:=fun m v a b c u hu=>h.act m v a b c u (hs.trans hu),fire:=fun m ow pw no u hu=>h.fire m ow pw no u (hs.trans hu),spw:=fun f s no L ao n cap u hu=>h.spw f s no L ao n cap u (hs.trans hu) }
theorem Ko(N:Nat)(q C R:Int)(s:ByteArray)(lo:Option Addr)(ln lc:Nat)(E:Env)(l:List Int)(w:World)(v:Int)(Q:Q13 w ⟨(N:Int),q,C,R,s,.slice lo ln lc⟩ v E.st E.sp)(hr:RdI w lo ln lc l)(hc:Zx (N:Int) v E.st.length l)(n1 n2:Nat)(e1:E.st.length=n1)(e2:E.sp.length=n2) :
  Calls Tryz.prog 24 #[.agg #[.int .i64 (N:Int),.int .u64 q,.int .i64 C,.int .i64 R,.string s,.slice lo ln lc]] w fun e w'=>∃ao ac bo bc,e=.returned (.tuple #[.agg #[.int .i64 (N:Int),.int .u64 q,.int .i64 C,.int .i64 R,.string s,.slice lo ln lc,.slice ao n1 ac,.slice bo n2 bc],.int .i64 0])/\OwG KT 57 w' w.heap.size (.slice ao n1 ac) E.st/\OwG KT 57 w' w.heap.size (.slice bo n2 bc) E.sp/\Yc w w':=by
 obtain⟨h1,h2,rfl,h4,h5⟩:=hc;refine(Fw _ q C R s E.st E.sp l lo ln lc w Q hr ⟨h1,h2⟩ h5).mono ?_;rintro e w' ⟨hs,hy,_⟩;obtain⟨ao,ac,bo,bc,o1,o2,rfl⟩:=hy h4;subst e1 e2;exact⟨ao,ac,bo,bc,rfl,o1,o2,hs⟩
theorem PP(p q C R:Int)(s:ByteArray)(lo:Option Addr)(ln lc:Nat)(E:Env)(l:List Int)(w:World)(v:Int)(Q:Q13 w ⟨p,q,C,R,s,.slice lo ln lc⟩ v E.st E.sp)(hr:RdI w lo ln lc l)(hc:¬Zx p v E.st.length l) :
  Ya 24 #[.agg #[.int .i64 p,.int .u64 q,.int .i64 C,.int .i64 R,.string s,.slice lo ln lc]] w (.tuple #[.agg #[.int .i64 0,.int .u64 0,.int .i64 0,.int .i64 0,.string ByteArray.empty,.slice none 0 0,.slice none 0 0,.slice none 0 0],.int .i64 130]):=by
 by_cases h:(2<=p/\p<=6)/\Ve l/\v=0
 ·obtain⟨⟨h1,h2⟩,h5,rfl⟩:=h;refine(Fw _ q C R s E.st E.sp l lo ln lc w Q hr ⟨h1,h2⟩ h5).mono ?_;rintro e w' ⟨hs,_,hn⟩;exact⟨hn (fun h4=>hc ⟨h1,h2,rfl,h4,h5⟩),hs⟩
 ·exact SU ⟨p,q,C,R,s,.slice lo ln lc⟩ v E.st E.sp l lo ln lc rfl w Q hr h
theorem PQ(N:Nat)(q C R:Int)(s:ByteArray)(lo:Option Addr)(ln lc:Nat)(E:Env)(l:List Int)(w:World)(v:Int)(Q:Q13 w ⟨(N:Int),q,C,R,s,.slice lo ln lc⟩ v E.st E.sp)(hr:RdI w lo ln lc l)(hc:Zx (N:Int) v E.st.length l) :
  Ya 22 #[.agg #[.int .i64 (N:Int),.int .u64 q,.int .i64 C,.int .i64 R,.string s,.slice lo ln lc]] w (.int .i64 0):=by
 have HOp:=hid (fun u (hu:Yc w u)=>Ko N q C R s lo ln lc E l u v (Q.still hu) (hr.still hu) hc _ _ rfl rfl);clear Q hr hc;unfold Ya;go_in;go_wp2_with (go_at_call 24;refine(HOp.o _ zst).mono ?_;rintro e w1 ⟨ao,ac,bo,bc,rfl,-,-,h1⟩;obtain⟨J,n0,rfl⟩:=h1.more)
 go_ret;exact⟨rfl,zst⟩
theorem PR(N:Nat)(q C R:Int)(s:ByteArray)(lo:Option Addr)(ln lc:Nat)(E:Env)(l:List Int)(w:World)(v:Int)(Q:Q13 w ⟨(N:Int),q,C,R,s,.slice lo ln lc⟩ v E.st E.sp)(hr:RdI w lo ln lc l)(hc:Zx (N:Int) v E.st.length l) :
  Calls Tryz.prog 16 #[.agg #[.int .i64 (N:Int),.int .u64 q,.int .i64 C,.int .i64 R,.string s,.slice lo ln lc]] w fun e w'=>∃u,e=.returned (.tuple #[u,.int .i64 0])/\OwW w' w.heap.size u (nw0 E N)/\Yc w w':=by
 have HOp:=hid (fun u (hu:Yc w u)=>Ko N q C R s lo ln lc E l u v (Q.still hu) (hr.still hu) hc _ _ rfl rfl);have HN:=hid (show N<=6/\N<=E.st.length by have:=hc.2.1;have:=hc.2.2.2.1;omega);clear Q hr hc;go_in;go_wp2_with (first|(go_at_call 24;refine(HOp.o _ zst).mono ?_;rintro e w1 ⟨ao,ac,bo,bc,rfl,o1,-,h1⟩;obtain⟨J,n0,rfl⟩:=h1.more)|(go_at_call 36;refine(Fv N q C R s lo ln lc ao _ ac bo _ bc E _ _ (o1.still zst) HN.o.1 HN.o.2).mono ?_;rintro e w2 ⟨u,rfl,⟨a,b,c,d,rfl,q1,q2,q3,q4⟩,h2⟩;obtain⟨xa,ya,rfl,-⟩:=q1.slice;obtain⟨xb,yb,rfl,-⟩:=q2.slice;obtain⟨xc,yc,rfl,-⟩:=q3.slice;obtain⟨xd,yd,rfl,-⟩:=q4.slice;obtain⟨K,k,rfl⟩:=h2.more))
 refine bodyPost_ret (Zd zbk rfl rfl) rfl ⟨_,rfl,⟨_,_,_,_,rfl,?_,?_,?_,?_⟩,zst⟩
 ·exact q1.to (z:=w.heap.size+1) zfs zsz zsz
 ·exact q2.to (z:=w.heap.size+1) zfs zsz zsz
 ·exact q3.to (z:=w.heap.size+1) zfs zsz zsz
 ·exact q4.to (z:=w.heap.size+1) zfs zsz zsz
theorem PS(N:Nat)(q C R:Int)(s:ByteArray)(lo:Option Addr)(ln lc:Nat)(E:Env)(l:List Int)(w:World)(v0:Int)(Q:Q13 w ⟨(N:Int),q,C,R,s,.slice lo ln lc⟩ v0 E.st E.sp)(hr:RdI w lo ln lc l)(hc:Zx (N:Int) v0 E.st.length l)(W:Wd)(v:Value)(hv:RdW w v W) :
  Ya 23 #[.agg #[.int .i64 (N:Int),.int .u64 q,.int .i64 C,.int .i64 R,.string s,.slice lo ln lc],v] w (.int .i64 (Xs (N:Int) E W)):=by
 have HOp:=hid (fun u (hu:Yc w u)=>Ko N q C R s lo ln lc E l u v0 (Q.still hu) (hr.still hu) hc _ _ rfl rfl);have HC:=hid (fun u (hu:Yc w u) ao ac bo bc=>F7 ⟨⟨(N:Int),q,C,R,s,.slice lo ln lc⟩,.slice ao E.st.length ac,.slice bo E.sp.length bc,.slice none 0 0⟩ E N rfl bo bc rfl W v u (hv.still hu));obtain⟨a,b,c,d,rfl,-⟩:=hv;clear Q hr hc;unfold Ya;go_in;go_wp2_with (first|(go_at_call 24;refine(HOp.o _ zst).mono ?_;rintro e w1 ⟨ao,ac,bo,bc,rfl,-,-,h1⟩;obtain⟨J,n0,rfl⟩:=h1.more)|(go_at_call 25;refine zc (HC.o _ zst _ _ _ _) ?_;intro J2 n2))
 go_ret;exact⟨rfl,zst⟩
noncomputable def stE(p v0:Int)(E:Env)(l:List Int)(W:Wd)(cs:List Cm):Int:=
 open Classical in if ¬ Zx p v0 E.st.length l then 130 else if ¬ Zz p E W then 131 else if W.fr=1099511627776 then 133 else if ¬ Z8 p (W.fr+1) cs then 132 else 0
def Q5(w w':World)(n:Int)(e:Ending):Prop:=e=.returned (.tuple #[.agg (Ye 0 0 (.slice none 0 0) (.slice none 0 0) (.slice none 0 0) (.slice none 0 0)),.slice none 0 0,.int .i64 n])/\Yc w w'
def F8(w w':World)(E:Env)(W:Wd)(cs:List Cm)(e:Ending):Prop:=(∃u nv,e=.returned (.tuple #[u,nv,.int .i64 0])/\OwW w' w.heap.size u (frame E W cs).w/\OwG KN 47 w' w.heap.size nv (frame E W cs).ns)/\Yc w w'
def StQ(w w':World)(E:Env)(W:Wd)(cs:List Cm)(n:Int)(e:Ending):Prop:=(n=0->F8 w w' E W cs e)/\(n≠0->Q5 w w' n e)
theorem D7{N:Nat}{f:Int}{l:List Cm}(h:Z8 (N:Int) f l):∀y∈l,Rgt N y:=fun y hy=>by
 obtain⟨i,hi,rfl⟩:=List.mem_iff_getElem.1 hy;have:=(h i hi).1.1;rw[List.getD_eq_getElem?_getD,List.getElem?_eq_getElem hi]at this;simpa using this
theorem PT(p q C R:Int)(s:ByteArray)(lo:Option Addr)(ln lc:Nat)(E:Env)(l:List Int)(w:World)(v0:Int)(Q:Q13 w ⟨p,q,C,R,s,.slice lo ln lc⟩ v0 E.st E.sp)(hr:RdI w lo ln lc l)(hc:¬Zx p v0 E.st.length l)(W:Wd)(v:Value)(hv:RdW w v W)(xo:Option Addr)(n xcp:Nat) :
  Calls Tryz.prog 9 #[.agg #[.int .i64 p,.int .u64 q,.int .i64 C,.int .i64 R,.string s,.slice lo ln lc],v,.slice xo n xcp] w fun e w'=>Q5 w w' 130 e:=by
 have HOp:=hid (fun u (hu:Yc w u)=>PP p q C R s lo ln lc E l u v0 (Q.still hu) (hr.still hu) hc);clear Q hr hc;obtain⟨a,b,c,d,rfl,-⟩:=hv;go_in;go_wp2_with (go_at_call 24;refine zc (HOp.o _ zst) ?_;intro J n0)
 exact bodyPost_ret (Y3 zbk rfl rfl) rfl ⟨rfl,zst⟩
theorem F9(N:Nat)(q C R:Int)(s:ByteArray)(lo:Option Addr)(ln lc:Nat)(E:Env)(l:List Int)(w:World)(v0:Int)(Q:Q13 w ⟨(N:Int),q,C,R,s,.slice lo ln lc⟩ v0 E.st E.sp)(D:P13 w ⟨(N:Int),q,C,R,s,.slice lo ln lc⟩ E)(hr:RdI w lo ln lc l)(hc:Zx (N:Int) v0 E.st.length l)(hs16:E.sp.length<=16)(W:Wd)(v:Value)(hv:RdW w v W)(xo:Option Addr)(n xcp:Nat)(cs:List Cm)(hx:RdG KX w xo n cs)(h47:(n+300)*24<=140737488355328) :
    Calls Tryz.prog 9 #[.agg #[.int .i64 (N:Int),.int .u64 q,.int .i64 C,.int .i64 R,.string s,.slice lo ln lc],v,.slice xo n xcp] w fun e w'=>StQ w w' E W cs (stE (N:Int) v0 E l W cs) e:=by
  have HOp:=hid (fun u (hu:Yc w u)=>Ko N q C R s lo ln lc E l u v0 (Q.still hu) (hr.still hu) hc _ _ rfl rfl);have HN:=hid (show N<=6/\N<=E.st.length by have:=hc.2.1;have:=hc.2.2.2.1;omega);obtain⟨r,hr'⟩:=exB (Z8 (N:Int) (W.fr+1) cs);have HE:Hid (stE (N:Int) v0 E l W cs=open Classical in if ¬Zz (N:Int) E W then 131 else if(W.fr == 1099511627776)=true then 133 else if r=false then 132 else 0):=hid (by
    unfold stE;rw[if_neg (not_not_intro hc)]
    simp only[beq_iff_eq];congr 3
    rw[<- hr',Bool.not_eq_true])
  have HC:=hid (fun u (hu:Yc w u) ao ac bo bc=>F7 ⟨⟨(N:Int),q,C,R,s,.slice lo ln lc⟩,.slice ao E.st.length ac,.slice bo E.sp.length bc,.slice none 0 0⟩ E N rfl bo bc rfl W v u (hv.still hu));have HR:=hid (fun u (hu:Yc w u) ao ac bo bc=>IsB.cv hr' (SW ⟨⟨(N:Int),q,C,R,s,.slice lo ln lc⟩,.slice ao E.st.length ac,.slice bo E.sp.length bc,.slice none 0 0⟩ N rfl HN.o.1 (W.fr+1) cs xo n xcp u (hx.still hu)));have HS:=hid (fun(hF:Zz (N:Int) E W) (hm:W.fr<1099511627776) (hO:Z8 (N:Int) (W.fr+1) cs) u (hu:Yc w u) ao ac bo bc B o1 o2=>F1 (N:Int) q C R s lo ln lc ao E.st.length ac bo E.sp.length bc xo n xcp E u (D.still hu) B W N cs (hx.still hu) o1 o2 HN.o.1 HN.o.2 hs16 (by have:=hF.1;rw[Int.toNat_natCast]at this;exact this) ⟨hF.2.1,hm⟩ (D7 hO) h47 v (hv.still hu));obtain⟨a,b,c,d,rfl,-⟩:=hv;clear Q hr hc D hx h47 hs16;by_cases hF:Zz (N:Int) E W;rotate_left
  · rw[show stE (N:Int) v0 E l W cs=131 from by rw[HE.o,if_pos hF]]
    rw[Ql hF]at HC;clear HS HR HE hr' hF;go_in;go_wp2_with (first|(go_at_call 24;refine(HOp.o _ zst).mono ?_;rintro e w1 ⟨ao,ac,bo,bc,rfl,-,-,h1⟩;obtain⟨J,n0,rfl⟩:=h1.more)|(go_at_call 25;refine zc (HC.o _ zst _ _ _ _) ?_;intro J2 n2))
    exact bodyPost_ret (Y3 zbk rfl rfl) rfl ⟨fun h=>absurd h (by decide),fun _=>⟨rfl,zst⟩⟩
  have HE1:Hid (stE (N:Int) v0 E l W cs=open Classical in if(W.fr == 1099511627776)=true then 133 else if r=false then 132 else 0):=hid (by rw[HE.o,if_neg (not_not_intro hF)]);have hfr:=hF.2;rw[JX hF]at HC;cases hm:W.fr == 1099511627776;rotate_left
  · rw[show stE (N:Int) v0 E l W cs=133 from by rw[HE1.o,if_pos hm]]
    clear HS HR HE HE1 hr' hF;go_in;go_wp2_with (first|(go_at_call 24;refine(HOp.o _ zst).mono ?_;rintro e w1 ⟨ao,ac,bo,bc,rfl,-,-,h1⟩;obtain⟨J,n0,rfl⟩:=h1.more)|(go_at_call 25;refine zc (HC.o _ zst _ _ _ _) ?_;intro J2 n2))
    exact bodyPost_ret (Y3 zbk rfl rfl) rfl ⟨fun h=>absurd h (by decide),fun _=>⟨rfl,zst⟩⟩
  have hlt:W.fr<1099511627776:=by have:W.fr≠1099511627776:=(by simpa using hm);omega
  cases r
  · rw[show stE (N:Int) v0 E l W cs=132 from by rw[HE1.o,if_neg (by simp[hm]),if_pos rfl]]
    clear HS HE HE1 hr' hF hlt;go_in;go_wp2_with (first|(go_at_call 24;refine(HOp.o _ zst).mono ?_;rintro e w1 ⟨ao,ac,bo,bc,rfl,-,-,h1⟩;obtain⟨J,n0,rfl⟩:=h1.more)|(go_at_call 25;refine zc (HC.o _ zst _ _ _ _) ?_;intro J2 n2)|(go_at_call 26;refine zc (HR.o _ zst _ _ _ _) ?_;intro J3 n3))
    exact bodyPost_ret (Y3 zbk rfl rfl) rfl ⟨fun h=>absurd h (by decide),fun _=>⟨rfl,zst⟩⟩
  · have hO:=hr'.1 rfl
    rw[show stE (N:Int) v0 E l W cs=0 from by rw[HE1.o,if_neg (by simp[hm]),if_neg (by simp)]];have HS2:=hid (HS.o hF hlt hO);clear HS HE HE1 hr' hF hlt hO;go_in;go_wp2_with (first|(go_at_call 24;refine(HOp.o _ zst).mono ?_;rintro e w1 ⟨ao,ac,bo,bc,rfl,o1,o2,h1⟩;obtain⟨J,n0,rfl⟩:=h1.more)|(go_at_call 25;refine zc (HC.o _ zst _ _ _ _) ?_;intro J2 n2)|(go_at_call 26;refine zc (HR.o _ zst _ _ _ _) ?_;intro J3 n3)|(go_at_call 27;refine(HS2.o _ zst _ _ _ _ _ (o1.still zst) (o2.still zst)).mono ?_;rintro e w4 ⟨h4,u,nv,rfl,⟨a',b',c',d',rfl,q1,q2,q3,q4⟩,q5⟩;obtain⟨xa,ya,rfl,-⟩:=q1.slice;obtain⟨xb,yb,rfl,-⟩:=q2.slice;obtain⟨xc,yc,rfl,-⟩:=q3.slice;obtain⟨xd,yd,rfl,-⟩:=q4.slice;obtain⟨xe,ye,rfl,-⟩:=q5.slice;obtain⟨K,k,rfl⟩:=h4.more))
    refine bodyPost_ret (Y3 zbk rfl rfl) rfl ⟨fun _=>⟨⟨_,_,rfl,⟨_,_,_,_,rfl,?_,?_,?_,?_⟩,?_⟩,zst⟩,fun h=>absurd rfl h⟩
    · exact OwG.still (OwG.to (z:=w.heap.size+1+1) q1 zfs zsz zsz) (Fr.alloc (Fr.refl _ _) _)
    · exact OwG.still (OwG.to (z:=w.heap.size+1+1) q2 zfs zsz zsz) (Fr.alloc (Fr.refl _ _) _)
    · exact OwG.still (OwG.to (z:=w.heap.size+1+1) q3 zfs zsz zsz) (Fr.alloc (Fr.refl _ _) _)
    · exact OwG.still (OwG.to (z:=w.heap.size+1+1) q4 zfs zsz zsz) (Fr.alloc (Fr.refl _ _) _)
    · exact OwG.still (OwG.to (z:=w.heap.size+1+1) q5 zfs zsz zsz) (Fr.alloc (Fr.refl _ _) _)
theorem FA(st:List (Int × Int)):∀k i,i<k->May (mm (nwM st k) i)
 | 0,i,h=>by omega
 | k+1,i,h=>by
  have hl:=Ug st k;rw[nwM];by_cases e:i=k
  ·subst e;rw[Ud (by simp[hl])];simp[List.getElem_append_right,hl,BF]
  ·have hi:i<k:=by omega
   have:=FA st k i hi;rw[Ud (by simp[hl];omega),List.getElem_append_left (by rw[hl];exact hi)];rwa [Ud (by rw[hl];exact hi)]at this
theorem FB{E:Env}{N:Nat}(hs:E.sp.length<=16):Ha.Good N E (nw0 E N):=by
 refine⟨⟨Ug _ _,fun i hi=>FA _ _ i hi,by simp[nw0,nwC],fun i hi=>?_⟩,flo_pw.2 ⟨by simp[nw0],by simp[nw0],by simp[nw0]⟩,by simp[nw0],mayK_pw.2 ⟨⟨by omega,by omega⟩,by simp[nw0],by simp[nw0],by simp[nw0],by simp[nw0]⟩,by simp[nw0],by simp[nw0],by simp[nw0]⟩;have e:sc (nw0 E N).cs i=zC:=by simp[nw0,nwC,sc,List.getD,hi]
 rw[e];exact chkC0.1 (by kernel_rfl)
theorem OwG.sl{α:Type}{K:Kd α}{e:TypeId}{w:World}{B:Nat}{v:Value}{L:List α}(h:OwG K e w B v L)(hm:L.length<=281474976710656):Sl K w v L:=by
 obtain⟨ao,cap,rfl,_⟩:=h.slice;refine⟨ao,cap,rfl,(Xl h).2,fun e0=>?_,Zr h hm⟩;subst e0;rcases h.2 with⟨h1,_⟩|⟨g,c,cur,h1,_⟩
 ·injection h1
 ·injection h1 with h2;cases h2
theorem OwW.rd{w:World}{B:Nat}{v:Value}{W:Wd}(h:OwW w B v W)(h1:W.ms.length<=281474976710656)(h2:W.cs.length<=281474976710656)(h3:W.hs.length<=281474976710656)(h4:W.ks.length<=281474976710656):RdW w v W:=by
 obtain⟨a,b,c,d,rfl,o1,o2,o3,o4⟩:=h;exact⟨a,b,c,d,rfl,o1.sl h1,o2.sl h2,o3.sl h3,o4.sl h4⟩
theorem PU(N:Nat)(q C R:Int)(s:ByteArray)(lo:Option Addr)(ln lc:Nat)(E:Env)(l:List Int)(w:World)(v0:Int)(Q:Q13 w ⟨(N:Int),q,C,R,s,.slice lo ln lc⟩ v0 E.st E.sp)(D:P13 w ⟨(N:Int),q,C,R,s,.slice lo ln lc⟩ E)(hr:RdI w lo ln lc l)(hc:Zx (N:Int) v0 E.st.length l)(hs16:E.sp.length<=16)(pe sq cv ca cb cc:Int)(hy:Rgt N ⟨1,pe,sq,cv,ca,cb,cc⟩)(g cap:Nat)(hx:RdG KX w (some ⟨g,0,none⟩) 1 [⟨1,pe,sq,cv,ca,cb,cc⟩]) :
  Calls Tryz.prog 19 #[.agg #[.int .i64 (N:Int),.int .u64 q,.int .i64 C,.int .i64 R,.string s,.slice lo ln lc],.int .i64 1,.slice (some ⟨g,0,none⟩) 1 cap] w fun e w'=>∃u,e=.returned (.tuple #[u,.int .i64 0])/\OwW w' w.heap.size u (frame E (nw0 E N) [⟨1,pe,sq,cv,ca,cb,cc⟩]).w/\Yc w w':=by
 have A0:=sA w (.cells #[.int .i64 (N:Int),.int .u64 q,.int .i64 C,.int .i64 R,.string s,.slice lo ln lc] 27);have A1:=sA (w.alloc (.cells #[.int .i64 (N:Int),.int .u64 q,.int .i64 C,.int .i64 R,.string s,.slice lo ln lc] 27)) (.cells (Ye 0 0 (.slice none 0 0) (.slice none 0 0) (.slice none 0 0) (.slice none 0 0)) 33);have p0:=(XB w ⟨(N:Int),q,C,R,s,.slice lo ln lc⟩).still A1;have z0:=Zl (w.alloc (.cells #[.int .i64 (N:Int),.int .u64 q,.int .i64 C,.int .i64 R,.string s,.slice lo ln lc] 27)) 0 0 (.slice none 0 0) (.slice none 0 0) (.slice none 0 0) (.slice none 0 0);rw[size_alloc]at z0;have HS0:=hid (A0.trans A1);have HP0:=hid p0;have HZ0:Hid (Wdb ((w.alloc (.cells #[.int .i64 (N:Int),.int .u64 q,.int .i64 C,.int .i64 R,.string s,.slice lo ln lc] 27)).alloc (.cells (Ye 0 0 (.slice none 0 0) (.slice none 0 0) (.slice none 0 0) (.slice none 0 0)) 33)) (w.heap.size+1) 0 0 (.slice none 0 0) (.slice none 0 0) (.slice none 0 0) (.slice none 0 0)):=hid z0;have HOp:=hid (Ko N q C R s lo ln lc E l ((w.alloc (.cells #[.int .i64 (N:Int),.int .u64 q,.int .i64 C,.int .i64 R,.string s,.slice lo ln lc] 27)).alloc (.cells (Ye 0 0 (.slice none 0 0) (.slice none 0 0) (.slice none 0 0) (.slice none 0 0)) 33)) v0 (Q.still (A0.trans A1)) (hr.still (A0.trans A1)) hc _ _ rfl rfl);have HN:=hid (show N<=6/\N<=E.st.length by have:=hc.2.1;have:=hc.2.2.2.1;omega);have HD:=hid D;have HX:=hid hx;have HY:=hid hy;have H16:=hid hs16;obtain⟨n1,e1⟩:∃k,E.st.length=k:=⟨_,rfl⟩;obtain⟨n2,e2⟩:∃k,E.sp.length=k:=⟨_,rfl⟩;rw[e1,e2]at HOp;obtain⟨W0,eW0⟩:∃X,((w.alloc (.cells #[.int .i64 (N:Int),.int .u64 q,.int .i64 C,.int .i64 R,.string s,.slice lo ln lc] 27)).alloc (.cells (Ye 0 0 (.slice none 0 0) (.slice none 0 0) (.slice none 0 0) (.slice none 0 0)) 33))=X:=⟨_,rfl⟩;rw[eW0]at HS0 HP0 HZ0 HOp;have c0c:=HP0.o.cells;go_in
 go_wp21
 refine HOp.o.mono ?_;rintro e w1 ⟨ao,ac,bo,bc,rfl,o1,o2,h1⟩;have A2:=sA w1 (.cells #[.int .i64 (N:Int),.int .u64 q,.int .i64 C,.int .i64 R,.string s,.slice lo ln lc,.slice ao n1 ac,.slice bo n2 bc] 74);have HS1:=hid ((HS0.o.trans h1).trans A2);have HQ1:Hid (Seb (w1.alloc (.cells #[.int .i64 (N:Int),.int .u64 q,.int .i64 C,.int .i64 R,.string s,.slice lo ln lc,.slice ao n1 ac,.slice bo n2 bc] 74)) w1.heap.size ⟨⟨(N:Int),q,C,R,s,.slice lo ln lc⟩,.slice ao n1 ac,.slice bo n2 bc,.slice none 0 0⟩):=hid (heap_alloc_new w1 _);have HZ1:Hid (Wdb (w1.alloc (.cells #[.int .i64 (N:Int),.int .u64 q,.int .i64 C,.int .i64 R,.string s,.slice lo ln lc,.slice ao n1 ac,.slice bo n2 bc] 74)) (w.heap.size+1) 0 0 (.slice none 0 0) (.slice none 0 0) (.slice none 0 0) (.slice none 0 0)):=hid ((HZ0.o.still h1).still A2);have HO1:Hid (OwG KT 57 (w1.alloc (.cells #[.int .i64 (N:Int),.int .u64 q,.int .i64 C,.int .i64 R,.string s,.slice lo ln lc,.slice ao n1 ac,.slice bo n2 bc] 74)) w.heap.size (.slice ao n1 ac) E.st):=hid ((o1.still A2).less HS0.o.size);have HO2:Hid (OwG KT 57 (w1.alloc (.cells #[.int .i64 (N:Int),.int .u64 q,.int .i64 C,.int .i64 R,.string s,.slice lo ln lc,.slice ao n1 ac,.slice bo n2 bc] 74)) w.heap.size (.slice bo n2 bc) E.sp):=hid ((o2.still A2).less HS0.o.size);obtain⟨W1,eW1⟩:∃X,w1.alloc (.cells #[.int .i64 (N:Int),.int .u64 q,.int .i64 C,.int .i64 R,.string s,.slice lo ln lc,.slice ao n1 ac,.slice bo n2 bc] 74)=X:=⟨_,rfl⟩;rw[eW1]at HS1 HQ1 HZ1 HO1 HO2;obtain⟨gs,egs⟩:∃k,w1.heap.size=k:=⟨_,rfl⟩;rw[egs]at HQ1;go_wp21
 refine(Pv _).mono ?_;rintro e w2 ⟨he,hw⟩;rw[he,hw];go_wp21
 refine(RV [⟨1,pe,sq,cv,ca,cb,cc⟩] (some ⟨g,0,none⟩) 1 cap W1 (HX.o.still HS1.o) (fun h=>by cases h) (by omega)).mono ?_;rintro e w3 ⟨xv1,rfl,ox,h3⟩;obtain⟨gx,cx,rfl,_,_⟩:=ox.head (by simp);have HOX:=hid ox;have HS3:=hid (HS1.o.trans h3);have HQ3:=hid (HQ1.o.still h3);have HZ3:=hid (HZ1.o.still h3);have HO3:=hid (HO1.o.still h3);have HO4:=hid (HO2.o.still h3);have c0c:=HQ3.o.cells;go_wp21
 refine(Ps (some ⟨gx,0,none⟩) cx _ _).mono ?_;rintro e w4 ⟨he,hw⟩;rw[he,hw];go_wp21
 refine(SZ ⟨⟨(N:Int),q,C,R,s,.slice lo ln lc⟩,.slice ao n1 ac,.slice bo n2 bc,.slice none 0 0⟩ N rfl HN.o.1 [⟨1,pe,sq,cv,ca,cb,cc⟩] (some ⟨gx,0,none⟩) 1 cx w3 (Zr HOX.o (by simp))).mono ?_;rintro e w5 ⟨hb,h5⟩;obtain rfl:=hb.is_yes (fun i hi=>by
  obtain rfl:i=0:=by simp at hi;omega
  exact⟨HY.o,fun h=>absurd h (by omega)⟩)
 have HS5:=hid (HS3.o.trans h5);have HQ5:=hid (HQ3.o.still h5);have HZ5:=hid (HZ3.o.still h5);have HO5:=hid (HO3.o.still h5);have HO6:=hid (HO4.o.still h5);have HOY:=hid (HOX.o.still h5);have c0c:=HQ5.o.cells;go_wp21
 refine(Fv N q C R s lo ln lc ao n1 ac bo n2 bc E w5 w.heap.size HO5.o HN.o.1 HN.o.2).mono ?_;rintro e w6 ⟨u,rfl,⟨a,b,c,d,rfl,q1,q2,q3,q4⟩,h6⟩;have HV6:=hid (OwW.rd (show OwW w6 w5.heap.size _ (nw0 E N)from⟨a,b,c,d,rfl,q1,q2,q3,q4⟩) (by simp[nw0,Ug];have:=HN.o.1;omega) (by simp[nw0,nwC];have:=HN.o.1;omega) (by simp[nw0]) (by simp[nw0]));obtain⟨xa,ya,rfl,_⟩:=q1.slice;obtain⟨xb,yb,rfl,_⟩:=q2.slice;obtain⟨xc,yc,rfl,_⟩:=q3.slice;obtain⟨xd,yd,rfl,_⟩:=q4.slice;obtain⟨m1,f1⟩:∃k,(nw0 E N).ms.length=k:=⟨_,rfl⟩;obtain⟨m2,f2⟩:∃k,(nw0 E N).cs.length=k:=⟨_,rfl⟩;obtain⟨m3,f3⟩:∃k,(nw0 E N).hs.length=k:=⟨_,rfl⟩;obtain⟨m4,f4⟩:∃k,(nw0 E N).ks.length=k:=⟨_,rfl⟩;obtain⟨fr,f5⟩:∃k,(nw0 E N).fr=k:=⟨_,rfl⟩;obtain⟨nx,f6⟩:∃k,(nw0 E N).nx=k:=⟨_,rfl⟩;rw[f1,f2,f3,f4,f5,f6]at HV6⊢;have A7:=sA w6 (.cells (Ye fr nx (.slice xa m1 ya) (.slice xb m2 yb) (.slice xc m3 yc) (.slice xd m4 yd)) 33);have hN7:Wdb (w6.alloc (.cells (Ye fr nx (.slice xa m1 ya) (.slice xb m2 yb) (.slice xc m3 yc) (.slice xd m4 yd)) 33)) w6.heap.size fr nx (.slice xa m1 ya) (.slice xb m2 yb) (.slice xc m3 yc) (.slice xd m4 yd):=Zl w6 fr nx _ _ _ _;have h7:=h6.trans A7;have HS7:=hid (HS5.o.trans h7);have HQ7:=hid (HQ5.o.still h7);have HZ7:=hid (HZ5.o.still h7);have HO7:=hid (HO5.o.still h7);have HO8:=hid (HO6.o.still h7);have HOZ:=hid (HOY.o.still h7);have HV7:=hid (HV6.o.still A7);have HG7:=hid (show w.heap.size+1<w6.heap.size by have:=Y7 HZ5.o;have:=h6.size;omega);obtain⟨W7,eW7⟩:∃X,w6.alloc (.cells (Ye fr nx (.slice xa m1 ya) (.slice xb m2 yb) (.slice xc m3 yc) (.slice xd m4 yd)) 33)=X:=⟨_,rfl⟩;rw[eW7]at HS7 HQ7 HZ7 HO7 HO8 HOZ HV7 hN7;obtain⟨gw,egw⟩:∃k,w6.heap.size=k:=⟨_,rfl⟩;rw[egw]at hN7 HG7;have HN7:=hid hN7;go_wp21
 refine(P2 pe sq cv ca cb cc gx cx W7 _ HOZ.o).mono ?_;rintro e w8 ⟨gf,co,cc1,rfl,hgf,ho8,h8⟩;have HS8:=hid (HS7.o.trans h8);have HQ8:=hid (HQ7.o.still h8);have HZ8:=hid (HZ7.o.still h8);have HP8:=hid (HO7.o.still h8);have HR8:=hid (HO8.o.still h8);have HV8:=hid (HV7.o.still h8);have HN8:=hid (HN7.o.still h8);have HX8:=hid (Zr ho8 (by simp));have c0c:=HQ8.o.cells;have d0c:=HN8.o.cells;have HSt:=hid (F1 (N:Int) q C R s lo ln lc ao n1 ac bo n2 bc co 1 cc1 E w8 (HD.o.still HS8.o) w.heap.size (nw0 E N) N [⟨1,pe,sq,cv,ca,cb,cc⟩] HX8.o HP8.o HR8.o HN.o.1 HN.o.2 H16.o (FB H16.o) (by simp[nw0]) (fun y hy=>by simp at hy;subst hy;exact HY.o) (by omega) _ HV8.o);go_wp21
 refine wp_loop_rounds 2 ?_;rw[rounds_succ];go_wp21
 refine HSt.o.mono ?_;rintro e w9 ⟨h9,u,nv,rfl,hW,hnv⟩;obtain⟨G,eG⟩:∃G,frame E (nw0 E N) [⟨1,pe,sq,cv,ca,cb,cc⟩]=G:=⟨_,rfl⟩;have HG:=hid eG;rw[eG]at hW hnv;obtain⟨a,b,c,d,rfl,q1,q2,q3,q4⟩:=hW;obtain⟨ya',yc1,rfl,_⟩:=q1.slice;obtain⟨yb',yc2,rfl,_⟩:=q2.slice;obtain⟨yc',yc3,rfl,_⟩:=q3.slice;obtain⟨yd',yc4,rfl,_⟩:=q4.slice;obtain⟨ye',yc5,rfl,_⟩:=hnv.slice;have HS9:=hid (HS8.o.trans h9);have HB9:=hid HS8.o.size;have HZ9:=hid (HZ8.o.still h9);have HN9:=hid (HN8.o.still h9);have H1:=hid (q1.less HB9.o);have H2:=hid (q2.less HB9.o);have H3:=hid (q3.less HB9.o);have H4:=hid (q4.less HB9.o);obtain⟨k1,f1⟩:∃k,G.w.ms.length=k:=⟨_,rfl⟩;obtain⟨k2,f2⟩:∃k,G.w.cs.length=k:=⟨_,rfl⟩;obtain⟨k3,f3⟩:∃k,G.w.hs.length=k:=⟨_,rfl⟩;obtain⟨k4,f4⟩:∃k,G.w.ks.length=k:=⟨_,rfl⟩;obtain⟨k5,f5⟩:∃k,G.ns.length=k:=⟨_,rfl⟩;obtain⟨fr',f6⟩:∃k,G.w.fr=k:=⟨_,rfl⟩;obtain⟨nx',f7⟩:∃k,G.w.nx=k:=⟨_,rfl⟩;rw[f1,f2,f3,f4,f5,f6,f7];rw[f1]at H1;rw[f2]at H2;rw[f3]at H3;rw[f4]at H4;have HF:=hid (And.intro f6 f7);have d0c:=HN9.o.cells;have ng:w.heap.size+1≠gw:=by have:=HG7.o;omega
 have HM9:=hid (HN9.o.put fr' nx' (.slice ya' k1 yc1) (.slice yb' k2 yc2) (.slice yc' k3 yc3) (.slice yd' k4 yc4));have HT9:=hid HN9.o.ty;have HZ10:=hid ((((((HZ9.o.other (k:=gw) (o:=0) (v:=.int .i64 fr') ng).other (k:=gw) (o:=1) (v:=.slice ya' k1 yc1) ng).other (k:=gw) (o:=2) (v:=.slice yb' k2 yc2) ng).other (k:=gw) (o:=3) (v:=.slice yc' k3 yc3) ng).other (k:=gw) (o:=4) (v:=.slice yd' k4 yc4) ng).other (k:=gw) (o:=5) (v:=.int .i64 nx') ng);have HS10:=hid (Un HS9.o (g:=gw) (by have:=HG7.o;omega) (.int .i64 fr') (.slice ya' k1 yc1) (.slice yb' k2 yc2) (.slice yc' k3 yc3) (.slice yd' k4 yc4) (.int .i64 nx'));have K1:=hid (H1.o.set6 HT9.o (by decide) (.int .i64 fr') (.slice ya' k1 yc1) (.slice yb' k2 yc2) (.slice yc' k3 yc3) (.slice yd' k4 yc4) (.int .i64 nx'));have K2:=hid (H2.o.set6 HT9.o (by decide) (.int .i64 fr') (.slice ya' k1 yc1) (.slice yb' k2 yc2) (.slice yc' k3 yc3) (.slice yd' k4 yc4) (.int .i64 nx'));have K3:=hid (H3.o.set6 HT9.o (by decide) (.int .i64 fr') (.slice ya' k1 yc1) (.slice yb' k2 yc2) (.slice yc' k3 yc3) (.slice yd' k4 yc4) (.int .i64 nx'));have K4:=hid (H4.o.set6 HT9.o (by decide) (.int .i64 fr') (.slice ya' k1 yc1) (.slice yb' k2 yc2) (.slice yc' k3 yc3) (.slice yd' k4 yc4) (.int .i64 nx'));obtain⟨W9,eW9⟩:∃X,((((((w9.setCell ⟨gw,0,none⟩ (.int .i64 fr')).setCell ⟨gw,1,none⟩ (.slice ya' k1 yc1)).setCell ⟨gw,2,none⟩ (.slice yb' k2 yc2)).setCell ⟨gw,3,none⟩ (.slice yc' k3 yc3)).setCell ⟨gw,4,none⟩ (.slice yd' k4 yc4)).setCell ⟨gw,5,none⟩ (.int .i64 nx'))=X:=⟨_,rfl⟩;rw[eW9]at HM9 HZ10 HS10 K1 K2 K3 K4;have y0c:=HM9.o.cells;have z0c:=HZ10.o.cells;go_wp21
 rw[rounds_succ];go_wp21
 have ty:=HZ10.o.ty;refine bodyPost_ret (Wdb.res2 (HZ10.o.put fr' nx' _ _ _ _) rfl _ _ rfl rfl) rfl ⟨_,rfl,?_,Un HS10.o (by omega) _ _ _ _ _ _⟩;rw[HG.o];exact⟨_,_,_,_,by rw[HF.o.1,HF.o.2],K1.o.set6 ty (by decide) _ _ _ _ _ _,K2.o.set6 ty (by decide) _ _ _ _ _ _,K3.o.set6 ty (by decide) _ _ _ _ _ _,K4.o.set6 ty (by decide) _ _ _ _ _ _⟩
end Go.Proofs.YtcgmohldcokccaaGreatDoor
