import Derived.Test.YtcgmohldcokccaaGreatDoorXR05
import Derived.Test.YtcgmohldcokccaaGreatDoorXR06
set_option linter.unusedVariables false
set_option maxRecDepth 100000
namespace Go.Proofs.YtcgmohldcokccaaGreatDoor
namespace Ha
open Pu Gp Ap Vp Np Za Ka Ja Ea
structure Cm where
 fr:Int
 pe:Int
 sq:Int
 v:Int
 a:Int
 b:Int
 c:Int
structure Nn where
 k:Int
 a:Int
 b:Int
structure Wd where
 fr:Int
 ms:List Mv
 cs:List Scr
 hs:List Sh
 ks:List Pk
 nx:Int
structure Env where
 sol:Int->Int->Bool
 st:List (Int × Int)
 sp:List (Int × Int)
 q:Int
structure Gm where
 w:Wd
 ns:List Nn
def act1(g:Gm)(x:Cm):Gm:=
 let m0:=mm g.w.ms x.pe.toNat
 let m:=YR m0 x.v x.a x.b x.c
 let d:=Zt m0 x.v x.a x.b x.c
 if d=true/\x.v=4/\g.w.hs.length<48/\g.w.nx<=1099511627776 then
  ⟨{ g.w with ms:=g.w.ms.set x.pe.toNat m,hs:=g.w.hs ++ [YV m x.pe x.a g.w.nx],nx:=g.w.nx+1 },g.ns ++ [⟨1,x.pe,g.w.nx⟩]⟩
 else if d=true/\x.v=7 then⟨{ g.w with ms:=g.w.ms.set x.pe.toNat m },g.ns ++ [⟨8,x.pe,x.a⟩]⟩
 else⟨{ g.w with ms:=g.w.ms.set x.pe.toNat m },g.ns⟩
def YJ(l:List Cm)(g:Gm):Gm:=l.foldl act1 g
def Zd(E:Env)(g:Gm):Gm:=⟨{ g.w with ms:=g.w.ms.map (Zl E.sol) },g.ns⟩
def ZS(g:Gm)(t:Int × Int):Gm:=
 let a:=mm g.w.ms t.1.toNat
 let b:=mm g.w.ms t.2.toNat
 ⟨{ g.w with ms:=(g.w.ms.set t.1.toNat (Zq a b)).set t.2.toNat (Zq b a) },g.ns ++ [⟨7,t.1,t.2⟩]⟩
def YT(l:List (Int × Int))(g:Gm):Gm:=l.foldl ZS g
def Yq(E:Env)(S:List Sh):List Sh:=(S.filter (YY E.sol)).map (Z6 E.sol)
def Yx(g:Gm)(s:Sh)(t:Int):Gm:=
 let m:=mm g.w.ms t.toNat
 if m.ou > 0 then g else
 let o:=Zh m (dmg s.pw)
 let a:=sc g.w.cs s.ow.toNat
 let b:=sc g.w.cs t.toNat
 ⟨{ g.w with ms:=g.w.ms.set t.toNat (Zu m (dmg s.pw)),cs:=(g.w.cs.set s.ow.toNat (Zb a b s.pw o)).set t.toNat (Zc a b s.pw o) },g.ns ++ [⟨2,t,s.ow⟩] ++ (if o then [⟨3,t,s.ow⟩]else [])⟩
def Y6(l:List (Int × Int))(i:Nat):Bool:=l.any fun t=>t.1 == (i:Int)
def YD(F:List Sh)(l:List (Int × Int))(g:Gm):Gm:=l.foldl (fun g t=>Yx g (ss F t.1.toNat) t.2) g
def Yu{α:Type}(F:List α)(l:List (Int × Int)):List α:=(F.zipIdx.filter fun x=>!Y6 l x.2).map (·.1)
def X7(E:Env)(g:Gm):Gm:=
 let F:=Yq E g.w.hs
 let l:=sho g.w.ms F
 let g1:=YD F l g
 ⟨{ g1.w with hs:=Yu F l },g1.ns⟩
def Yy(Q:List Pk)(g:Gm)(t:Int × Int):Gm:=
 let x:=pk Q t.1.toNat
 let m:=mm g.w.ms t.2.toNat
 ⟨{ g.w with ms:=g.w.ms.set t.2.toNat (Xk m x.kd),cs:=g.w.cs.set t.2.toNat (Z8 (sc g.w.cs t.2.toNat) (Z7 m x.kd)) },g.ns ++ [⟨5,t.2,x.kd⟩]⟩
def YE(Q:List Pk)(l:List (Int × Int))(g:Gm):Gm:=l.foldl (Yy Q) g
def Xm(E:Env)(f:Int)(g:Gm):Gm:=
 let l:=pic g.w.ms g.w.ks E.sp
 let g1:=YE g.w.ks l g
 let L:=Yu g.w.ks l
 if g1.w.nx<=1099511627776/\comes L f (E.sp.length:Int) g1.w.nx=true then
  let x:=Yr E.q f L (E.sp.length:Int) g1.w.nx
  ⟨{ g1.w with ks:=L ++ [x],nx:=g1.w.nx+1 },g1.ns ++ [⟨6,x.sp,x.kd⟩]⟩
 else⟨{ g1.w with ks:=L },g1.ns⟩
def YG(E:Env)(L:List Mv):Nat->List Mv
 | 0=>L
 | i+1=>(YG E L i).set i (ZU (mm L i) (pp E.st i).1 (pp E.st i).2)
def Zj(L:List Mv):Nat->List Nn
 | 0=>[]
 | i+1=>Zj L i ++ (if X5 (mm L i)then [⟨4,(i:Int),0⟩]else [])
def XM(E:Env)(g:Gm):Gm:=⟨{ g.w with ms:=YG E g.w.ms g.w.ms.length },g.ns ++ Zj g.w.ms g.w.ms.length⟩
def frame(E:Env)(w:Wd)(l:List Cm):Gm:=
 let f:=w.fr+1
 let g1:=Zd E (YJ l ⟨w,[]⟩)
 let g2:=YT (bod g1.w.ms) g1
 let g3:=XM E (Xm E f (X7 E g2))
 ⟨{ g3.w with fr:=f },g3.ns⟩
/-! What may be stays so. -/
theorem Uf{L:List Mv}{i:Nat}(h:i<L.length):mm L i=L[i]:=by simp[mm,List.getD,h]
theorem ZZ{L:List Sh}{i:Nat}(h:i<L.length):ss L i=L[i]:=by simp[ss,List.getD,h]
theorem Qb{T:List Mv}{j k:Nat}{x:Mv}(hj:j<T.length):mm (T.set j x) k=if k=j then x else mm T k:=by
 unfold mm;by_cases h:k=j
 ·subst h;simp[List.getD,hj]
 ·rw[if_neg h];simp[List.getD,List.getElem?_set_ne (Ne.symm h)]
theorem Mt{T:List Scr}{j k:Nat}{x:Scr}(hj:j<T.length):sc (T.set j x) k=if k=j then x else sc T k:=by
 unfold sc;by_cases h:k=j
 ·subst h;simp[List.getD,hj]
 ·rw[if_neg h];simp[List.getD,List.getElem?_set_ne (Ne.symm h)]
def Seats(n:Nat)(w:Wd):Prop:=w.ms.length=n/\(∀i,i<n->May (mm w.ms i))/\w.cs.length=n/\∀i,i<n->Ym (sc w.cs i)
theorem Seats.setM{n:Nat}{w:Wd}{j:Nat}{x:Mv}(h:Seats n w)(hj:j<n)(hx:May x):Seats n { w with ms:=w.ms.set j x }:=by
 obtain⟨h1,h2,h3,h4⟩:=h;refine⟨by simpa using h1,fun i hi=>?_,h3,h4⟩;show May (mm (w.ms.set j x) i);rw[Qb (by omega)];split
 ·exact hx
 ·exact h2 i hi
theorem Seats.setC{n:Nat}{w:Wd}{j:Nat}{x:Scr}(h:Seats n w)(hj:j<n)(hx:Ym x):Seats n { w with cs:=w.cs.set j x }:=by
 obtain⟨h1,h2,h3,h4⟩:=h;refine⟨h1,h2,by simpa using h3,fun i hi=>?_⟩;show Ym (sc (w.cs.set j x) i);rw[Mt (by omega)];split
 ·exact hx
 ·exact h4 i hi
theorem flo_pw{S:List Sh}:Flo S ↔ S.length<=48/\(∀s∈S,ZP s)/\S.Pairwise fun a b=>a.no<b.no:=by
 constructor
 ·rintro⟨h1,h2⟩;have step:∀i j,i<j->j<S.length->(ss S i).no<(ss S j).no:=by
   intro i j hij;induction j with
   | zero=>omega
   | succ j ih =>
    intro hj;have h3:=(h2 (j+1) hj).2 (by omega);rw[show j+1-1=j by omega]at h3;by_cases e:i=j
    ·subst e;exact h3
    ·have:=ih (by omega) (by omega);omega
  refine⟨h1,fun s hs=>?_,?_⟩
  ·obtain⟨i,hi,rfl⟩:=List.mem_iff_getElem.1 hs;have:=(h2 i hi).1;rw[ZZ hi]at this;exact maySB_iff.1 this
  ·rw[List.pairwise_iff_getElem];intro i j hi hj hij;have:=step i j hij hj;rwa [ZZ hi,ZZ hj]at this
 ·rintro⟨h1,h2,h3⟩;rw[List.pairwise_iff_getElem]at h3;refine⟨h1,fun i hi=>⟨?_,fun h0=>?_⟩⟩
  ·rw[ZZ hi];exact maySB_iff.2 (h2 _ (List.getElem_mem hi))
  ·have:=h3 (i-1) i (by omega) hi (by omega);rw[ZZ hi,ZZ (show i-1<S.length by omega)];exact this
theorem Z9{L:List Pk}{i:Nat}(h:i<L.length):pk L i=L[i]:=by simp[pk,List.getD,h]
theorem mayK_pw{L:List Pk}{s:Int}:YW L s ↔ (0<=s/\s<=16)/\L.length<=8/\(∀x∈L,(1<=x.no/\x.no<=1099511627776)/\(0<=x.sp/\x.sp<s)/\1<=x.kd/\x.kd<=3)/\(L.Pairwise fun a b=>a.no<b.no)/\L.Pairwise fun a b=>a.sp≠b.sp:=by
 constructor
 ·rintro⟨h1,h2,h3⟩;have step:∀i j,i<j->j<L.length->(pk L i).no<(pk L j).no:=by
   intro i j hij;induction j with
   | zero=>omega
   | succ j ih =>
    intro hj;have h4:=(h3 (j+1) hj).2.1 (by omega);rw[show j+1-1=j by omega]at h4;by_cases e:i=j
    ·subst e;exact h4
    ·have:=ih (by omega) (by omega);omega
  refine⟨h1,h2,fun x hx=>?_,?_,?_⟩
  ·obtain⟨i,hi,rfl⟩:=List.mem_iff_getElem.1 hx;obtain⟨a1,_,a3,a4,_⟩:=h3 i hi;rw[Z9 hi]at a1 a3 a4;exact⟨a1,a3,a4⟩
  ·rw[List.pairwise_iff_getElem];intro i j hi hj hij;have:=step i j hij hj;rwa [Z9 hi,Z9 hj]at this
  ·rw[List.pairwise_iff_getElem];intro i j hi hj hij;have:=(h3 j hj).2.2.2.2 i hij;rwa [Z9 hi,Z9 hj]at this
 ·rintro⟨h1,h2,h3,h4,h5⟩;rw[List.pairwise_iff_getElem]at h4 h5;refine⟨h1,h2,fun i hi=>?_⟩;obtain⟨a1,a3,a4⟩:=h3 _ (List.getElem_mem hi);refine⟨by rw[Z9 hi];exact a1,fun h0=>?_,by rw[Z9 hi];exact a3,by rw[Z9 hi];exact a4,fun k hk=>?_⟩
  ·rw[Z9 hi,Z9 (show i-1<L.length by omega)];exact h4 (i-1) i (by omega) hi (by omega)
  ·rw[Z9 hi,Z9 (show k<L.length by omega)];exact h5 k i (by omega) hi hk
theorem GZ{α:Type}(F:List α)(l:List (Int × Int)):(Yu F l).Sublist F:=by
 unfold Yu;have h:((F.zipIdx.filter fun x=>!Y6 l x.2).map (·.1)).Sublist (F.zipIdx.map (·.1)):=(List.filter_sublist).map _;rwa [List.zipIdx_map_fst]at h
def Rest(n:Nat)(E:Env)(w:Wd):Prop:=Flo w.hs/\(∀s∈w.hs,s.ow<(n:Int)/\s.no<w.nx)/\YW w.ks (E.sp.length:Int)/\(∀x∈w.ks,x.no<w.nx)/\1<=w.nx/\w.nx<=1099511627777
def Good(n:Nat)(E:Env)(w:Wd):Prop:=Seats n w/\Rest n E w
def Rgt(n:Nat)(x:Cm):Prop:=0<=x.pe/\x.pe<(n:Int)/\1<=x.sq/\YB x.v x.a x.b x.c=0
theorem Mu{n:Nat}{E:Env}{g:Gm}{x:Cm}(hn:n<=6)(h:Good n E g.w)(hx:Rgt n x):Good n E (act1 g x).w:=by
 obtain⟨hS,hR⟩:=h;obtain⟨p0,p1,p2,p3⟩:=hx;have hp:x.pe.toNat<n:=by omega
 have he:YU (mm g.w.ms x.pe.toNat) x.v x.a x.b x.c=0:=by unfold YU;rw[mayB_iff.2 (hS.2.1 _ hp)];exact p3
 have hm:=BO he;have hS':=hS.setM hp hm;unfold act1;dsimp only;split
 ·rename_i hc;obtain⟨_,c2,c3,c4⟩:=hc;obtain⟨r1,r2,r3,r4,r5,r6⟩:=hR;have ha:1<=x.a/\x.a<=3:=by have:=JF p3;omega
  have harg:V3 x.pe x.a g.w.nx=true:=argB_iff.2 ⟨⟨p0,by omega⟩,ha,r5,c4⟩;have hf:YV (YR (mm g.w.ms x.pe.toNat) x.v x.a x.b x.c) x.pe x.a g.w.nx=JG (YR (mm g.w.ms x.pe.toNat) x.v x.a x.b x.c) x.pe x.a g.w.nx:=by
   unfold YV ZQ;rw[mayB_iff.2 hm,harg];rfl
  refine⟨hS',?_,?_,r3,fun y hy=>by have:=r4 y hy;show _<_+1;omega,by show 1<=_+1;omega,by show _+1<=_;omega⟩
  ·rw[hf];obtain⟨q1,q2,q3⟩:=flo_pw.1 r1;refine flo_pw.2 ⟨by simp;omega,fun s hs=>?_,?_⟩
   ·rcases List.mem_append.1 hs with hs|hs
    ·exact q2 s hs
    ·rw[List.mem_singleton.1 hs];exact O0 harg
   ·rw[List.pairwise_append];refine⟨q3,List.pairwise_singleton _ _,fun a ha b hb=>?_⟩;rw[List.mem_singleton.1 hb];exact(r2 a ha).2
  ·intro s hs;rw[hf]at hs;rcases List.mem_append.1 hs with hs|hs
   ·have:=r2 s hs;exact⟨this.1,by show _<_+1;omega⟩
   ·rw[List.mem_singleton.1 hs];exact⟨p1,by show g.w.nx<g.w.nx+1;omega⟩
 ·split
  ·exact⟨hS',hR⟩
  ·exact⟨hS',hR⟩
theorem JM{n:Nat}{E:Env}(hn:n<=6):∀(l:List Cm) (g:Gm),Good n E g.w->(∀x∈l,Rgt n x)->Good n E (YJ l g).w
 | [],_,h,_=>h
 | x :: l,g,h,hl=>JM hn l (act1 g x) (Mu hn h (hl x (List.mem_cons_self ..))) (fun y hy=>hl y (List.mem_cons_of_mem _ hy))
theorem Da{n:Nat}{E:Env}{g:Gm}(h:Good n E g.w):Good n E (Zd E g).w:=by
 obtain⟨⟨h1,h2,h3,h4⟩,hR⟩:=h;refine⟨⟨by simpa[Zd]using h1,fun i hi=>?_,h3,h4⟩,hR⟩;have:=Oj E.sol (h2 i hi);rw[Uf (by omega)]at this;show May (mm (g.w.ms.map (Zl E.sol)) i);rw[Uf (by simp;omega),List.getElem_map];exact this
theorem EU{a b:Mv}(ha:May a)(hb:May b):May (Zq a b):=by
 unfold Zq ZR;rw[mayB_iff.2 ha,mayB_iff.2 hb];simp only[Bool.and_self,if_true];split
 ·rename_i ho;obtain⟨a1,a2,a3,a4,a5,a6,a7,a8,a9,a10,a11⟩:=ha;obtain⟨_,b2,_⟩:=hb;exact⟨a1,b2,a3,a4,a5,a6,a7,a8,a9,a10,fun h=>absurd ho.1 h⟩
 ·exact ha
theorem Mw{n:Nat}{E:Env}{g:Gm}{t:Int × Int}(h:Good n E g.w)(h1:t.1.toNat<n)(h2:t.2.toNat<n):Good n E (ZS g t).w:=by
 obtain⟨hS,hR⟩:=h;have ma:=hS.2.1 _ h1;have mb:=hS.2.1 _ h2;exact⟨(hS.setM h1 (EU ma mb)).setM h2 (EU mb ma),hR⟩
theorem Db{n:Nat}{E:Env}:∀(l:List (Int × Int)) (g:Gm),Good n E g.w->(∀t∈l,t.1.toNat<n/\t.2.toNat<n)->Good n E (YT l g).w
 | [],_,h,_=>h
 | x :: l,g,h,hl=>Db l (ZS g x) (Mw h (hl x (List.mem_cons_self ..)).1 (hl x (List.mem_cons_self ..)).2) (fun y hy=>hl y (List.mem_cons_of_mem _ hy))
theorem EV{L:List Mv}:∀t∈bod L,t.1.toNat<L.length/\t.2.toNat<L.length:=by
 intro t ht;unfold bod at ht;split at ht
 ·obtain⟨i,j,h1,h2,h3,rfl,_⟩:=GV ht;exact⟨by simpa using h1,by simpa using h2⟩
 ·simp at ht
theorem JN{sol:Int->Int->Bool}{s:Sh}(h:YY sol s=true):(Z6 sol s).no=s.no/\(Z6 sol s).ow=s.ow/\(Z6 sol s).pw=s.pw/\ZP (Z6 sol s):=by
 have e:Z6 sol s=VZ sol s:=by unfold Z6;rw[if_pos h]
 rw[e];exact⟨rfl,rfl,rfl,O6 h⟩
theorem EW{E:Env}{S:List Sh}(h:Flo S):Flo (Yq E S)/\∀s∈Yq E S,∃t∈S,s.no=t.no/\s.ow=t.ow:=by
 obtain⟨h1,h2,h3⟩:=flo_pw.1 h;have hsub:∀s∈Yq E S,∃t∈S,YY E.sol t=true/\s=Z6 E.sol t:=by
  intro s hs;unfold Yq at hs;obtain⟨t,ht,rfl⟩:=List.mem_map.1 hs;obtain⟨ht1,ht2⟩:=List.mem_filter.1 ht;exact⟨t,ht1,ht2,rfl⟩
 refine⟨flo_pw.2 ⟨?_,fun s hs=>?_,?_⟩,fun s hs=>?_⟩
 ·unfold Yq;have:=List.length_filter_le (YY E.sol) S;simp;omega
 ·obtain⟨t,_,ht,rfl⟩:=hsub s hs;exact(JN ht).2.2.2
 ·unfold Yq;rw[List.pairwise_map];have h4:=h3.filter (YY E.sol);refine List.Pairwise.imp_of_mem ?_ h4;intro a b ha hb hab;rw[(JN (List.mem_filter.1 ha).2).1,(JN (List.mem_filter.1 hb).2).1];exact hab
 ·obtain⟨t,ht0,ht,rfl⟩:=hsub s hs;exact⟨t,ht0,(JN ht).1,(JN ht).2.1⟩
theorem Mx{S T:List Sh}(h:Flo S)(hs:T.Sublist S):Flo T:=by
 obtain⟨h1,h2,h3⟩:=flo_pw.1 h;exact flo_pw.2 ⟨Nat.le_trans hs.length_le h1,fun s hm=>h2 s (hs.subset hm),h3.sublist hs⟩
theorem My{S T:List Pk}{s:Int}(h:YW S s)(hs:T.Sublist S):YW T s:=by
 obtain⟨h0,h1,h2,h3,h4⟩:=mayK_pw.1 h;exact mayK_pw.2 ⟨h0,Nat.le_trans hs.length_le h1,fun s hm=>h2 s (hs.subset hm),h3.sublist hs,h4.sublist hs⟩
theorem EZ(g:Gm)(s:Sh)(t:Int):(Yx g s t).w.fr=g.w.fr/\(Yx g s t).w.hs=g.w.hs/\(Yx g s t).w.ks=g.w.ks/\(Yx g s t).w.nx=g.w.nx:=by
 unfold Yx;dsimp only;split<;>exact⟨rfl,rfl,rfl,rfl⟩
theorem Mz{a b:Scr}{n:Int}{o:Bool}(ha:Ym a)(hb:Ym b)(hn:1<=n/\n<=3):Ym (Zb a b n o)/\Ym (Zc a b n o):=by
 have e:=GX ha hb hn;unfold Zb Zc;rw[if_pos e,if_pos e];exact⟨Mq ha,Mr hb⟩
theorem M0{n:Nat}{g:Gm}{s:Sh}{t:Int}(h:Seats n g.w)(hs:ZP s)(ho:s.ow.toNat<n)(ht:t.toNat<n):Seats n (Yx g s t).w:=by
 unfold Yx;dsimp only;split
 ·exact h
 ·have hp:1<=s.pw/\s.pw<=3:=hs.2.2.1;have he:YX (mm g.w.ms t.toNat) (dmg s.pw)=0:=by
   have hd:dmg s.pw=15*s.pw:=by unfold dmg;rw[if_neg (by omega)]
   unfold YX;rw[mayB_iff.2 (h.2.1 _ ht),hd];simp only[if_true];rw[if_neg (by omega)]
  obtain⟨m1,m2⟩:=Mz (o:=Zh (mm g.w.ms t.toNat) (dmg s.pw)) (h.2.2.2 _ ho) (h.2.2.2 _ ht) hp;exact((h.setM ht (Ol he)).setC ho m1).setC ht m2
theorem Na{n:Nat}{F:List Sh}(hF:∀i,i<F.length->ZP (ss F i)/\(ss F i).ow.toNat<n):∀(l:List (Int × Int)) (g:Gm),Seats n g.w->(∀t∈l,t.1.toNat<F.length/\t.2.toNat<n)->Seats n (YD F l g).w/\(YD F l g).w.ks=g.w.ks/\(YD F l g).w.nx=g.w.nx/\(YD F l g).w.fr=g.w.fr
 | [],g,h,_=>⟨h,rfl,rfl,rfl⟩
 | t :: l,g,h,hl=>by
  obtain⟨t1,t2⟩:=hl t (List.mem_cons_self ..);have hk:=EZ g (ss F t.1.toNat) t.2;have ih:=Na hF l (Yx g (ss F t.1.toNat) t.2) (M0 h (hF _ t1).1 (hF _ t1).2 t2) (fun y hy=>hl y (List.mem_cons_of_mem _ hy));show Seats n (YD F l (Yx g (ss F t.1.toNat) t.2)).w/\_;refine⟨ih.1,ih.2.1.trans hk.2.2.1,ih.2.2.1.trans hk.2.2.2,ih.2.2.2.trans hk.1⟩
theorem Nb{P:Nat->Nat->Bool}{n m:Nat}:∀t∈Yj P n m,t.1.toNat<m/\t.2.toNat<n:=by
 intro t ht;obtain⟨i,hi,rfl⟩:=List.mem_iff_getElem.1 ht;obtain⟨j,k,h1,h2,h3,_⟩:=JJ P n m i hi;rw[h3];exact⟨by simpa using h1,by simpa using h2⟩
theorem Nc{L:List Mv}{S:List Sh}:∀t∈sho L S,t.1.toNat<S.length/\t.2.toNat<L.length:=by
 intro t ht;unfold sho at ht;split at ht
 ·exact Nb t ht
 ·simp at ht
theorem Nd{L:List Mv}{Q:List Pk}{T:List (Int × Int)}:∀t∈pic L Q T,t.1.toNat<Q.length/\t.2.toNat<L.length:=by
 intro t ht;unfold pic at ht;split at ht
 ·exact Nb t ht
 ·simp at ht
theorem Dc{n:Nat}{E:Env}{g:Gm}(h:Good n E g.w):Good n E (X7 E g).w:=by
 obtain⟨hS,r1,r2,r3,r4,r5,r6⟩:=h;obtain⟨f1,f2⟩:=EW (E:=E) r1;have hF:∀i,i<(Yq E g.w.hs).length->ZP (ss (Yq E g.w.hs) i)/\(ss (Yq E g.w.hs) i).ow.toNat<n:=fun i hi=>by
  have hm:ss (Yq E g.w.hs) i∈Yq E g.w.hs:=by rw[ZZ hi];exact List.getElem_mem hi
  have h1:=(flo_pw.1 f1).2.1 _ hm;obtain⟨t,ht,_,h3⟩:=f2 _ hm;have h4:=(r2 t ht).1;have h5:0<=(ss (Yq E g.w.hs) i).ow:=h1.2.1.1;exact⟨h1,by omega⟩
 obtain⟨k1,k2,k3,k4⟩:=Na hF (sho g.w.ms (Yq E g.w.hs)) g hS (fun t ht=>by
  have:=Nc t ht;exact⟨this.1,by rw[<- hS.1];exact this.2⟩)
 unfold X7;dsimp only;have hsub:=GZ (Yq E g.w.hs) (sho g.w.ms (Yq E g.w.hs));refine⟨k1,Mx f1 hsub,fun s hs=>?_,by rw[k2];exact r3,fun x hx=>by rw[k3];rw[k2]at hx;exact r4 x hx,by rw[k3];exact r5,by rw[k3];exact r6⟩;obtain⟨t,ht,e1,e2⟩:=f2 s (hsub.subset hs);have:=r2 t ht;exact⟨by rw[e2];exact this.1,by show s.no<_;rw[k3,e1];exact this.2⟩
theorem M1{m:Mv}{k:Int}(hm:May m)(hk:1<=k/\k<=3):May (Xk m k)/\0<=Z7 m k/\Z7 m k<=5:=by
 have e:Zi m k=0:=by unfold Zi;rw[mayB_iff.2 hm,if_pos hk];rfl
 refine⟨?_,?_,?_⟩
 ·unfold Xk KW;rw[if_pos e];obtain⟨a1,a2,a3,a4,a5,a6,a7,a8,a9,a10,a11⟩:=hm;split
  ·rename_i ho;have h10:=a10 ho;split
   ·exact⟨a1,a2,a3,a4,by show 0<=min (m.hl+30) 100/\min (m.hl+30) 100<=100;omega,a6,a7,a8,a9,fun _=>by show 1<=min (m.hl+30) 100;omega,fun h=>absurd ho h⟩
   ·split
    ·exact⟨a1,a2,a3,a4,a5,by show 0<=min (m.en+40) 100/\min (m.en+40) 100<=100;omega,a7,a8,a9,a10,fun h=>absurd ho h⟩
    ·exact⟨a1,a2,a3,a4,a5,a6,a7,a8,a9,a10,a11⟩
  ·exact⟨a1,a2,a3,a4,a5,a6,a7,a8,a9,a10,a11⟩
 ·unfold Z7;split<;>omega
 ·unfold Z7;split<;>omega
theorem M2{s:Scr}{n:Int}(hs:Ym s)(hn:0<=n/\n<=100):Ym (Z8 s n):=by
 unfold Z8;rw[if_pos (GY hs hn)];exact Ms hs
theorem M3{n:Nat}{Q:List Pk}{g:Gm}{t:Int × Int}(h:Seats n g.w)(hk:1<=(pk Q t.1.toNat).kd/\(pk Q t.1.toNat).kd<=3)(ht:t.2.toNat<n):Seats n (Yy Q g t).w:=by
 obtain⟨m1,m2,m3⟩:=M1 (h.2.1 _ ht) hk;exact(h.setM ht m1).setC ht (M2 (h.2.2.2 _ ht) ⟨m2,by omega⟩)
theorem Nf{n:Nat}{Q:List Pk}(hQ:∀i,i<Q.length->1<=(pk Q i).kd/\(pk Q i).kd<=3):∀(l:List (Int × Int)) (g:Gm),Seats n g.w->(∀t∈l,t.1.toNat<Q.length/\t.2.toNat<n)->Seats n (YE Q l g).w/\(YE Q l g).w.hs=g.w.hs/\(YE Q l g).w.nx=g.w.nx/\(YE Q l g).w.fr=g.w.fr
 | [],g,h,_=>⟨h,rfl,rfl,rfl⟩
 | t :: l,g,h,hl=>by
  obtain⟨t1,t2⟩:=hl t (List.mem_cons_self ..);have ih:=Nf hQ l (Yy Q g t) (M3 h (hQ _ t1) t2) (fun y hy=>hl y (List.mem_cons_of_mem _ hy));exact ih
theorem Dd{n:Nat}{E:Env}{f:Int}{g:Gm}(h:Good n E g.w):Good n E (Xm E f g).w:=by
 obtain⟨hS,r1,r2,r3,r4,r5,r6⟩:=h;have hQ:∀i,i<g.w.ks.length->1<=(pk g.w.ks i).kd/\(pk g.w.ks i).kd<=3:=fun i hi=>(r3.2.2 i hi).2.2.2.1;obtain⟨k1,k2,k3,k4⟩:=Nf hQ (pic g.w.ms g.w.ks E.sp) g hS (fun t ht=>by
  have:=Nd t ht;exact⟨this.1,by rw[<- hS.1];exact this.2⟩)
 have hsub:=GZ g.w.ks (pic g.w.ms g.w.ks E.sp);have hL:=My r3 hsub;have hN:∀x∈Yu g.w.ks (pic g.w.ms g.w.ks E.sp),x.no<g.w.nx:=fun x hx=>r4 x (hsub.subset hx);unfold Xm;dsimp only;split
 ·rename_i hc;rw[k3]at hc;refine⟨k1,by rw[k2];exact r1,fun s hs=>?_,?_,fun x hx=>?_,(by rw[k3];omega:1<=(YE g.w.ks (pic g.w.ms g.w.ks E.sp) g).w.nx+1),(by rw[k3];omega:(YE g.w.ks (pic g.w.ms g.w.ks E.sp) g).w.nx+1<=1099511627777)⟩
  ·rw[k2]at hs;have:=r2 s hs;exact⟨this.1,by show s.no<_+1;rw[k3];omega⟩
  ·rw[k3];exact Mo hc.2 (fun i hi=>by rw[Z9 hi];exact hN _ (List.getElem_mem hi))
  ·show x.no<_+1;rw[k3];rcases List.mem_append.1 hx with hx|hx
   ·have:=hN x hx;omega
   ·rw[List.mem_singleton.1 hx,k3];have e:(Yr E.q f (Yu g.w.ks (pic g.w.ms g.w.ks E.sp)) (E.sp.length:Int) g.w.nx).no=g.w.nx:=by unfold Yr;rw[if_pos hc.2]
    omega
 ·exact⟨k1,by rw[k2];exact r1,fun s hs=>by rw[k2]at hs;show _/\s.no<_;rw[k3];exact r2 s hs,hL,fun x hx=>by show x.no<_;rw[k3];exact hN x hx,(by rw[k3];exact r5:1<=(YE g.w.ks (pic g.w.ms g.w.ks E.sp) g).w.nx),(by rw[k3];exact r6:(YE g.w.ks (pic g.w.ms g.w.ks E.sp) g).w.nx<=1099511627777)⟩
theorem JO(E:Env)(L:List Mv):∀i,(YG E L i).length=L.length
 | 0=>rfl
 | i+1=>by rw[YG,List.length_set,JO E L i]
theorem Qc(E:Env){L:List Mv}:∀{i:Nat},i<=L.length->∀k,k<L.length->mm (YG E L i) k=if k<i then ZU (mm L k) (pp E.st k).1 (pp E.st k).2 else mm L k
 | 0,_,k,hk=>by rw[YG,if_neg (by omega)]
 | i+1,hi,k,hk=>by
  rw[YG,Qb (by rw[JO];omega),Qc E (by omega) k hk];by_cases e:k=i
  ·subst e;rw[if_pos rfl,if_pos (by omega)]
  ·rw[if_neg e];by_cases e2:k<i
   ·rw[if_pos e2,if_pos (by omega)]
   ·rw[if_neg e2,if_neg (by omega)]
theorem Ng{n:Nat}{E:Env}{g:Gm}(h:Good n E g.w):Good n E (XM E g).w:=by
 obtain⟨⟨h1,h2,h3,h4⟩,hR⟩:=h;refine⟨⟨by show(YG E g.w.ms g.w.ms.length).length=n;rw[JO];exact h1,fun i hi=>?_,h3,h4⟩,hR⟩;show May (mm (YG E g.w.ms g.w.ms.length) i);rw[Qc E (Nat.le_refl _) i (by omega),if_pos (by omega)];exact Om _ _ (h2 i hi)
theorem Nh:∀(l:List Cm) (g:Gm),(YJ l g).w.fr=g.w.fr
 | [],_=>rfl
 | x :: l,g=>by
  show(YJ l (act1 g x)).w.fr=_;rw[Nh l];unfold act1;dsimp only;split
  ·rfl
  ·split<;>rfl
theorem Good.fr{n:Nat}{E:Env}{w:Wd}(h:Good n E w)(f:Int):Good n E { w with fr:=f }:=h
theorem Ni{n:Nat}{E:Env}{w:Wd}{l:List Cm}(hn:n<=6)(h:Good n E w)(hl:∀x∈l,Rgt n x):Good n E (frame E w l).w/\(frame E w l).w.fr=w.fr+1:=by
 have g1:=Da (E:=E) (JM hn l ⟨w,[]⟩ h hl);have g2:=Db (bod (Zd E (YJ l ⟨w,[]⟩)).w.ms) _ g1 (fun t ht=>by
  have:=EV t ht;rw[g1.1.1]at this;exact this)
 have g3:=(Ng (Dd (f:=w.fr+1) (Dc g2))).fr (w.fr+1);unfold frame;dsimp only;exact⟨g3,rfl⟩
end Ha
namespace Ha
open Pu Gp Ap Vp Np Za Ka Ja Ea
/-! Commands in order. -/
def Y8(a b:Cm):Bool:=decide (a.pe<b.pe) || (decide (a.pe=b.pe) && decide (a.sq<b.sq))
theorem lessC_iff{a b:Cm}:Y8 a b=true ↔ a.pe<b.pe\/a.pe=b.pe/\a.sq<b.sq:=by
 unfold Y8;simp only[Bool.or_eq_true,Bool.and_eq_true,decide_eq_true_eq]
def X8:List Cm->Cm->List Cm
 | [],x=>[x]
 | y :: r,x=>if Y8 y x then x :: y :: r else y :: X8 r x
def ofR(f:Int):List Cm->List Cm->List Cm
 | [],acc=>acc
 | x :: l,acc=>ofR f l (if x.fr=f then X8 acc x else acc)
def ofC(l:List Cm)(f:Int):List Cm:=(ofR f l []).reverse
theorem Qd:∀(r:List Cm) (x:Cm),(X8 r x).Perm (x :: r)
 | [],x=>List.Perm.refl _
 | y :: r,x=>by
  unfold X8;split
  ·exact List.Perm.refl _
  ·exact((Qd r x).cons y).trans (List.Perm.swap x y r)
theorem Qe(f:Int):∀(l acc:List Cm),(ofR f l acc).Perm (l.filter (fun x=>decide (x.fr=f)) ++ acc)
 | [],acc=>List.Perm.refl _
 | x :: l,acc=>by
  unfold ofR;by_cases h:x.fr=f
  ·rw[if_pos h,List.filter_cons_of_pos (by simpa using h)];refine(Qe f l (X8 acc x)).trans ?_;refine((Qd acc x).append_left _).trans ?_;exact List.perm_middle
  ·rw[if_neg h,List.filter_cons_of_neg (by simpa using h)];exact Qe f l acc
theorem Qf(l:List Cm)(f:Int):(ofC l f).Perm (l.filter (fun x=>decide (x.fr=f))):=by
 unfold ofC;have h:=Qe f l [];rw[List.append_nil]at h;exact(List.reverse_perm _).trans h
theorem ofC_mem{l:List Cm}{f:Int}{x:Cm}:x∈ofC l f ↔ x∈l/\x.fr=f:=by
 rw[(Qf l f).mem_iff,List.mem_filter];simp
def Dst(l:List Cm):Prop:=l.Pairwise fun a b=>¬(a.pe=b.pe/\a.sq=b.sq)
theorem Nj:∀{r:List Cm} {x:Cm},(r.Pairwise fun a b=>Y8 b a=true)->(∀y∈r,¬(y.pe=x.pe/\y.sq=x.sq))->(X8 r x).Pairwise fun a b=>Y8 b a=true
 | [],x,_,_=>List.pairwise_singleton _ _
 | y :: r,x,h,hd=>by
  rw[List.pairwise_cons]at h;unfold X8;split
  ·rename_i hl;rw[List.pairwise_cons];refine⟨fun z hz=>?_,List.pairwise_cons.2 h⟩;rcases List.mem_cons.1 hz with rfl|hz
   ·exact hl
   ·have h1:=lessC_iff.1 (h.1 z hz);have h2:=lessC_iff.1 hl;rw[lessC_iff];omega
  ·rename_i hl;rw[List.pairwise_cons];refine⟨fun z hz=>?_,Nj h.2 (fun z hz=>hd z (List.mem_cons_of_mem _ hz))⟩;rcases List.mem_cons.1 ((Qd r x).mem_iff.1 hz)with rfl|hz
   ·have h1:=hd y (List.mem_cons_self ..);have h2:¬(y.pe<z.pe\/y.pe=z.pe/\y.sq<z.sq):=fun e=>hl (lessC_iff.2 e);rw[lessC_iff];omega
   ·exact h.1 z hz
theorem De(f:Int):∀{l acc:List Cm},Dst l->(acc.Pairwise fun a b=>Y8 b a=true)->(∀x∈l,∀y∈acc,¬(y.pe=x.pe/\y.sq=x.sq))->(ofR f l acc).Pairwise fun a b=>Y8 b a=true
 | [],_,_,h,_=>h
 | x :: l,acc,hd,h,hx=>by
  rw[Dst,List.pairwise_cons]at hd;unfold ofR;split
  ·refine De f hd.2 (Nj h (hx x (List.mem_cons_self ..))) (fun z hz y hy=>?_);rcases List.mem_cons.1 ((Qd acc x).mem_iff.1 hy)with rfl|hy
   ·exact hd.1 z hz
   ·exact hx z (List.mem_cons_of_mem _ hz) y hy
  ·exact De f hd.2 h (fun z hz=>hx z (List.mem_cons_of_mem _ hz))
theorem Nk{l:List Cm}(hd:Dst l)(f:Int):(ofC l f).Pairwise fun a b=>Y8 a b=true:=by
 unfold ofC;rw[List.pairwise_reverse];exact De f hd List.Pairwise.nil (fun _ _ y hy=>by cases hy)
/-! The seed. -/
/-! What notes tell. -/
theorem M4{L:List Mv}{S:List Sh}:∀t∈sho L S,0<=t.2/\(ss S t.1.toNat).ow≠t.2:=by
 intro t ht;unfold sho at ht;split at ht
 ·obtain⟨i,hi,rfl⟩:=List.mem_iff_getElem.1 ht;obtain⟨j,k,h1,h2,h3,h4,_⟩:=JJ _ _ _ i hi;rw[h3];refine⟨by show(0:Int)<=(k:Int);omega,?_⟩;show(ss S ((j:Int).toNat)).ow≠(k:Int);rw[Int.toNat_natCast];unfold hS at h4;simp only[Bool.and_eq_true,Bool.not_eq_true',beq_eq_false_iff_ne]at h4;exact fun e=>h4.1.2 e.symm
 ·simp at ht
theorem M5{L:List Mv}{Q:List Pk}{T:List (Int × Int)}:∀t∈pic L Q T,0<=t.2:=by
 intro t ht;unfold pic at ht;split at ht
 ·obtain⟨i,hi,rfl⟩:=List.mem_iff_getElem.1 ht;obtain⟨j,k,h1,h2,h3,_⟩:=JJ _ _ _ i hi;rw[h3];show(0:Int)<=(k:Int);omega
 ·simp at ht
end Ha
namespace Hi
open Pu Gp Ap Vp Np Za Ka Ja Ea Ha
def lgs(l:List Int)(i:Nat):Int:=l.getD i 0
def Vh(l:List Int):Prop:=2<=l.length/\l.length<=5/\lgs l 0=0/\∀i,1<=i->i<l.length->lgs l (i-1)<lgs l i/\lgs l i<48
def Zm(p v:Int)(k:Nat)(l:List Int):Prop:=2<=p/\p<=6/\v=0/\p<=(k:Int)/\Vh l
open Classical in
noncomputable def Ug(p v:Int)(k:Nat)(l:List Int):Int:=if Zm p v k l then 0 else 130
theorem Dg{p v:Int}{k:Nat}{l:List Int}(h:Zm p v k l):Ug p v k l=0:=by unfold Ug;rw[if_pos h]
theorem XN{p v:Int}{k:Nat}{l:List Int}(h:¬Zm p v k l):Ug p v k l=130:=by unfold Ug;rw[if_neg h]
def Z0(p:Int)(E:Env)(w:Wd):Prop:=Ha.Good p.toNat E w/\0<=w.fr/\w.fr<=1099511627776
open Classical in
noncomputable def Xv(p:Int)(E:Env)(w:Wd):Int:=if Z0 p E w then 0 else 131
theorem JP{p:Int}{E:Env}{w:Wd}(h:Z0 p E w):Xv p E w=0:=by unfold Xv;rw[if_pos h]
theorem Qg{p:Int}{E:Env}{w:Wd}(h:¬Z0 p E w):Xv p E w=131:=by unfold Xv;rw[if_neg h]
def nwM(st:List (Int × Int)):Nat->List Mv
 | 0=>[]
 | k+1=>nwM st k ++ [XH (pp st k).1 (pp st k).2 (4*(k:Int))]
theorem Vi(st:List (Int × Int)):∀k,(nwM st k).length=k
 | 0=>rfl
 | k+1=>by rw[nwM,List.length_append,Vi st k];rfl
def nwC(k:Nat):List Scr:=List.replicate k zC
theorem M6(k:Nat):nwC (k+1)=nwC k ++ [zC]:=List.replicate_succ'
def nw0(E:Env)(n:Nat):Wd:=⟨0,nwM E.st n,nwC n,[],[],1⟩
def Z1(p f:Int)(l:List Cm):Prop:=∀i,i<l.length->(Rgt p.toNat (l.getD i ⟨0,0,0,0,0,0,0⟩)/\(l.getD i ⟨0,0,0,0,0,0,0⟩).fr=f)/\(0<i->Y8 (l.getD (i-1) ⟨0,0,0,0,0,0,0⟩) (l.getD i ⟨0,0,0,0,0,0,0⟩)=true)
def Vj(p:Int)(l:List Cm):Prop:=∃i,i<l.length/\(¬Rgt p.toNat (l.getD i ⟨0,0,0,0,0,0,0⟩) \/ ∃k,k<i/\(l.getD k ⟨0,0,0,0,0,0,0⟩).pe=(l.getD i ⟨0,0,0,0,0,0,0⟩).pe/\(l.getD k ⟨0,0,0,0,0,0,0⟩).sq=(l.getD i ⟨0,0,0,0,0,0,0⟩).sq)
end Hi
end Go.Proofs.YtcgmohldcokccaaGreatDoor
