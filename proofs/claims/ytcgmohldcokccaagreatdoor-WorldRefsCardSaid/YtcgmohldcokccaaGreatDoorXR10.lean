import Derived.Test.YtcgmohldcokccaaGreatDoorXR08
import Derived.Test.YtcgmohldcokccaaGreatDoorXR09
import Derived.Test.YtcgmohldcokccaaGreatDoorXR04
set_option linter.unusedVariables false
set_option maxRecDepth 100000
namespace Go.Proofs.YtcgmohldcokccaaGreatDoor.Ha
open Pu Gp Ap Vp Np Za Ka Ja Ea
structure Cm where
 fr:Int
 pe:Int
 sq:Int
 v:Int
 a:Int
 b:Int
 c:Int
structure Nn where
 k:Int
 a:Int
 b:Int
structure Wd where
 fr:Int
 ms:List Mv
 cs:List Scr
 hs:List Sh
 ks:List Pk
 nx:Int
structure Env where
 sol:Int->Int->Bool
 st:List (Int × Int)
 sp:List (Int × Int)
 q:Int
structure Gm where
 w:Wd
 ns:List Nn
def act1(g:Gm)(x:Cm):Gm:=
 let m0:=mm g.w.ms x.pe.toNat
 let m:=YR m0 x.v x.a x.b x.c
 let d:=Zv m0 x.v x.a x.b x.c
 if d=true/\x.v=4/\g.w.hs.length<48/\g.w.nx<=1099511627776 then
  ⟨{ g.w with ms:=g.w.ms.set x.pe.toNat m,hs:=g.w.hs ++ [YV m x.pe x.a g.w.nx],nx:=g.w.nx+1 },g.ns ++ [⟨1,x.pe,g.w.nx⟩]⟩
 else if d=true/\x.v=7 then⟨{ g.w with ms:=g.w.ms.set x.pe.toNat m },g.ns ++ [⟨8,x.pe,x.a⟩]⟩
 else⟨{ g.w with ms:=g.w.ms.set x.pe.toNat m },g.ns⟩
def YJ(l:List Cm)(g:Gm):Gm:=l.foldl act1 g
def Zd(E:Env)(g:Gm):Gm:=⟨{ g.w with ms:=g.w.ms.map (Zn E.sol) },g.ns⟩
def ZU(g:Gm)(t:Int × Int):Gm:=
 let a:=mm g.w.ms t.1.toNat
 let b:=mm g.w.ms t.2.toNat
 ⟨{ g.w with ms:=(g.w.ms.set t.1.toNat (Zs a b)).set t.2.toNat (Zs b a) },g.ns ++ [⟨7,t.1,t.2⟩]⟩
def YT(l:List (Int × Int))(g:Gm):Gm:=l.foldl ZU g
def Yq(E:Env)(S:List Sh):List Sh:=(S.filter (YY E.sol)).map (Z9 E.sol)
def Yx(g:Gm)(s:Sh)(t:Int):Gm:=
 let m:=mm g.w.ms t.toNat
 if m.ou > 0 then g else
 let o:=Zi m (dmg s.pw)
 let a:=sc g.w.cs s.ow.toNat
 let b:=sc g.w.cs t.toNat
 ⟨{ g.w with ms:=g.w.ms.set t.toNat (Zw m (dmg s.pw)),cs:=(g.w.cs.set s.ow.toNat (Zb a b s.pw o)).set t.toNat (Zc a b s.pw o) },g.ns ++ [⟨2,t,s.ow⟩] ++ (if o then [⟨3,t,s.ow⟩]else [])⟩
def Y6(l:List (Int × Int))(i:Nat):Bool:=l.any fun t=>t.1 == (i:Int)
def YD(F:List Sh)(l:List (Int × Int))(g:Gm):Gm:=l.foldl (fun g t=>Yx g (ss F t.1.toNat) t.2) g
def Yu{α:Type}(F:List α)(l:List (Int × Int)):List α:=(F.zipIdx.filter fun x=>!Y6 l x.2).map (·.1)
def XB(E:Env)(g:Gm):Gm:=
 let F:=Yq E g.w.hs
 let l:=sho g.w.ms F
 let g1:=YD F l g
 ⟨{ g1.w with hs:=Yu F l },g1.ns⟩
def Yz(Q:List Pk)(g:Gm)(t:Int × Int):Gm:=
 let x:=pk Q t.1.toNat
 let m:=mm g.w.ms t.2.toNat
 ⟨{ g.w with ms:=g.w.ms.set t.2.toNat (Xo m x.kd),cs:=g.w.cs.set t.2.toNat (ZB (sc g.w.cs t.2.toNat) (ZA m x.kd)) },g.ns ++ [⟨5,t.2,x.kd⟩]⟩
def YE(Q:List Pk)(l:List (Int × Int))(g:Gm):Gm:=l.foldl (Yz Q) g
def Xq(E:Env)(f:Int)(g:Gm):Gm:=
 let l:=pic g.w.ms g.w.ks E.sp
 let g1:=YE g.w.ks l g
 let L:=Yu g.w.ks l
 if g1.w.nx<=1099511627776/\comes L f (E.sp.length:Int) g1.w.nx=true then
  let x:=Yr E.q f L (E.sp.length:Int) g1.w.nx
  ⟨{ g1.w with ks:=L ++ [x],nx:=g1.w.nx+1 },g1.ns ++ [⟨6,x.sp,x.kd⟩]⟩
 else⟨{ g1.w with ks:=L },g1.ns⟩
def YG(E:Env)(L:List Mv):Nat->List Mv
 | 0=>L
 | i+1=>(YG E L i).set i (ZY (mm L i) (pp E.st i).1 (pp E.st i).2)
def Zk(L:List Mv):Nat->List Nn
 | 0=>[]
 | i+1=>Zk L i ++ (if X9 (mm L i)then [⟨4,(i:Int),0⟩]else [])
def XQ(E:Env)(g:Gm):Gm:=⟨{ g.w with ms:=YG E g.w.ms g.w.ms.length },g.ns ++ Zk g.w.ms g.w.ms.length⟩
def frame(E:Env)(w:Wd)(l:List Cm):Gm:=
 let f:=w.fr+1
 let g1:=Zd E (YJ l ⟨w,[]⟩)
 let g2:=YT (bod g1.w.ms) g1
 let g3:=XQ E (Xq E f (XB E g2))
 ⟨{ g3.w with fr:=f },g3.ns⟩
/-! What may be stays so. -/
theorem Uk{L:List Mv}{i:Nat}(h:i<L.length):mm L i=L[i]:=by simp[mm,List.getD,h]
theorem Xf{L:List Sh}{i:Nat}(h:i<L.length):ss L i=L[i]:=by simp[ss,List.getD,h]
theorem Qk{T:List Mv}{j k:Nat}{x:Mv}(hj:j<T.length):mm (T.set j x) k=if k=j then x else mm T k:=by
 unfold mm;by_cases h:k=j
 ·subst h;simp[List.getD,hj]
 ·rw[if_neg h];simp[List.getD,List.getElem?_set_ne (Ne.symm h)]
theorem MA{T:List Scr}{j k:Nat}{x:Scr}(hj:j<T.length):sc (T.set j x) k=if k=j then x else sc T k:=by
 unfold sc;by_cases h:k=j
 ·subst h;simp[List.getD,hj]
 ·rw[if_neg h];simp[List.getD,List.getElem?_set_ne (Ne.symm h)]
def Seats(n:Nat)(w:Wd):Prop:=w.ms.length=n/\(∀i,i<n->May (mm w.ms i))/\w.cs.length=n/\∀i,i<n->Ym (sc w.cs i)
theorem Seats.setM{n:Nat}{w:Wd}{j:Nat}{x:Mv}(h:Seats n w)(hj:j<n)(hx:May x):Seats n { w with ms:=w.ms.set j x }:=by
 obtain⟨h1,h2,h3,h4⟩:=h;refine⟨by simpa using h1,fun i hi=>?_,h3,h4⟩;show May (mm (w.ms.set j x) i);rw[Qk (by omega)];split
 ·exact hx
 ·exact h2 i hi
theorem Seats.setC{n:Nat}{w:Wd}{j:Nat}{x:Scr}(h:Seats n w)(hj:j<n)(hx:Ym x):Seats n { w with cs:=w.cs.set j x }:=by
 obtain⟨h1,h2,h3,h4⟩:=h;refine⟨h1,h2,by simpa using h3,fun i hi=>?_⟩;show Ym (sc (w.cs.set j x) i);rw[MA (by omega)];split
 ·exact hx
 ·exact h4 i hi
theorem flo_pw{S:List Sh}:Flo S ↔ S.length<=48/\(∀s∈S,ZR s)/\S.Pairwise fun a b=>a.no<b.no:=by
 constructor
 ·rintro⟨h1,h2⟩;have step:∀i j,i<j->j<S.length->(ss S i).no<(ss S j).no:=by
   intro i j hij;induction j with
   | zero=>omega
   | succ j ih =>
    intro hj;have h3:=(h2 (j+1) hj).2 (by omega);rw[show j+1-1=j by omega]at h3;by_cases e:i=j
    ·subst e;exact h3
    ·have:=ih (by omega) (by omega);omega
  refine⟨h1,fun s hs=>?_,?_⟩
  ·obtain⟨i,hi,rfl⟩:=List.mem_iff_getElem.1 hs;have:=(h2 i hi).1;rw[Xf hi]at this;exact maySB_iff.1 this
  ·rw[List.pairwise_iff_getElem];intro i j hi hj hij;have:=step i j hij hj;rwa [Xf hi,Xf hj]at this
 ·rintro⟨h1,h2,h3⟩;rw[List.pairwise_iff_getElem]at h3;refine⟨h1,fun i hi=>⟨?_,fun h0=>?_⟩⟩
  ·rw[Xf hi];exact maySB_iff.2 (h2 _ (List.getElem_mem hi))
  ·have:=h3 (i-1) i (by omega) hi (by omega);rw[Xf hi,Xf (show i-1<S.length by omega)];exact this
theorem ZC{L:List Pk}{i:Nat}(h:i<L.length):pk L i=L[i]:=by simp[pk,List.getD,h]
theorem mayK_pw{L:List Pk}{s:Int}:YW L s ↔ (0<=s/\s<=16)/\L.length<=8/\(∀x∈L,(1<=x.no/\x.no<=1099511627776)/\(0<=x.sp/\x.sp<s)/\1<=x.kd/\x.kd<=3)/\(L.Pairwise fun a b=>a.no<b.no)/\L.Pairwise fun a b=>a.sp≠b.sp:=by
 constructor
 ·rintro⟨h1,h2,h3⟩;have step:∀i j,i<j->j<L.length->(pk L i).no<(pk L j).no:=by
   intro i j hij;induction j with
   | zero=>omega
   | succ j ih =>
    intro hj;have h4:=(h3 (j+1) hj).2.1 (by omega);rw[show j+1-1=j by omega]at h4;by_cases e:i=j
    ·subst e;exact h4
    ·have:=ih (by omega) (by omega);omega
  refine⟨h1,h2,fun x hx=>?_,?_,?_⟩
  ·obtain⟨i,hi,rfl⟩:=List.mem_iff_getElem.1 hx;obtain⟨a1,_,a3,a4,_⟩:=h3 i hi;rw[ZC hi]at a1 a3 a4;exact⟨a1,a3,a4⟩
  ·rw[List.pairwise_iff_getElem];intro i j hi hj hij;have:=step i j hij hj;rwa [ZC hi,ZC hj]at this
  ·rw[List.pairwise_iff_getElem];intro i j hi hj hij;have:=(h3 j hj).2.2.2.2 i hij;rwa [ZC hi,ZC hj]at this
 ·rintro⟨h1,h2,h3,h4,h5⟩;rw[List.pairwise_iff_getElem]at h4 h5;refine⟨h1,h2,fun i hi=>?_⟩;obtain⟨a1,a3,a4⟩:=h3 _ (List.getElem_mem hi);refine⟨by rw[ZC hi];exact a1,fun h0=>?_,by rw[ZC hi];exact a3,by rw[ZC hi];exact a4,fun k hk=>?_⟩
  ·rw[ZC hi,ZC (show i-1<L.length by omega)];exact h4 (i-1) i (by omega) hi (by omega)
  ·rw[ZC hi,ZC (show k<L.length by omega)];exact h5 k i (by omega) hi hk
theorem Dj{α:Type}(F:List α)(l:List (Int × Int)):(Yu F l).Sublist F:=by
 unfold Yu;have h:((F.zipIdx.filter fun x=>!Y6 l x.2).map (·.1)).Sublist (F.zipIdx.map (·.1)):=(List.filter_sublist).map _;rwa [List.zipIdx_map_fst]at h
def Rest(n:Nat)(E:Env)(w:Wd):Prop:=Flo w.hs/\(∀s∈w.hs,s.ow<(n:Int)/\s.no<w.nx)/\YW w.ks (E.sp.length:Int)/\(∀x∈w.ks,x.no<w.nx)/\1<=w.nx/\w.nx<=1099511627777
def Good(n:Nat)(E:Env)(w:Wd):Prop:=Seats n w/\Rest n E w
def Rgt(n:Nat)(x:Cm):Prop:=0<=x.pe/\x.pe<(n:Int)/\1<=x.sq/\YB x.v x.a x.b x.c=0
theorem MB{n:Nat}{E:Env}{g:Gm}{x:Cm}(hn:n<=6)(h:Good n E g.w)(hx:Rgt n x):Good n E (act1 g x).w:=by
 obtain⟨hS,hR⟩:=h;obtain⟨p0,p1,p2,p3⟩:=hx;have hp:x.pe.toNat<n:=by omega
 have he:YU (mm g.w.ms x.pe.toNat) x.v x.a x.b x.c=0:=by unfold YU;rw[mayB_iff.2 (hS.2.1 _ hp)];exact p3
 have hm:=Eg he;have hS':=hS.setM hp hm;unfold act1;dsimp only;split
 ·rename_i hc;obtain⟨_,c2,c3,c4⟩:=hc;obtain⟨r1,r2,r3,r4,r5,r6⟩:=hR;have ha:1<=x.a/\x.a<=3:=by have:=JL p3;omega
  have harg:V8 x.pe x.a g.w.nx=true:=argB_iff.2 ⟨⟨p0,by omega⟩,ha,r5,c4⟩;have hf:YV (YR (mm g.w.ms x.pe.toNat) x.v x.a x.b x.c) x.pe x.a g.w.nx=JM (YR (mm g.w.ms x.pe.toNat) x.v x.a x.b x.c) x.pe x.a g.w.nx:=by
   unfold YV ZS;rw[mayB_iff.2 hm,harg];rfl
  refine⟨hS',?_,?_,r3,fun y hy=>by have:=r4 y hy;show _<_+1;omega,by show 1<=_+1;omega,by show _+1<=_;omega⟩
  ·rw[hf];obtain⟨q1,q2,q3⟩:=flo_pw.1 r1;refine flo_pw.2 ⟨by simp;omega,fun s hs=>?_,?_⟩
   ·rcases List.mem_append.1 hs with hs|hs
    ·exact q2 s hs
    ·rw[List.mem_singleton.1 hs];exact OM harg
   ·rw[List.pairwise_append];refine⟨q3,List.pairwise_singleton _ _,fun a ha b hb=>?_⟩;rw[List.mem_singleton.1 hb];exact(r2 a ha).2
  ·intro s hs;rw[hf]at hs;rcases List.mem_append.1 hs with hs|hs
   ·have:=r2 s hs;exact⟨this.1,by show _<_+1;omega⟩
   ·rw[List.mem_singleton.1 hs];exact⟨p1,by show g.w.nx<g.w.nx+1;omega⟩
 ·split
  ·exact⟨hS',hR⟩
  ·exact⟨hS',hR⟩
theorem JS{n:Nat}{E:Env}(hn:n<=6):∀(l:List Cm) (g:Gm),Good n E g.w->(∀x∈l,Rgt n x)->Good n E (YJ l g).w
 | [],_,h,_=>h
 | x :: l,g,h,hl=>JS hn l (act1 g x) (MB hn h (hl x (List.mem_cons_self ..))) (fun y hy=>hl y (List.mem_cons_of_mem _ hy))
theorem Dk{n:Nat}{E:Env}{g:Gm}(h:Good n E g.w):Good n E (Zd E g).w:=by
 obtain⟨⟨h1,h2,h3,h4⟩,hR⟩:=h;refine⟨⟨by simpa[Zd]using h1,fun i hi=>?_,h3,h4⟩,hR⟩;have:=O6 E.sol (h2 i hi);rw[Uk (by omega)]at this;show May (mm (g.w.ms.map (Zn E.sol)) i);rw[Uk (by simp;omega),List.getElem_map];exact this
theorem Nq{a b:Mv}(ha:May a)(hb:May b):May (Zs a b):=by
 unfold Zs ZT;rw[mayB_iff.2 ha,mayB_iff.2 hb];simp only[Bool.and_self,if_true];split
 ·rename_i ho;obtain⟨a1,a2,a3,a4,a5,a6,a7,a8,a9,a10,a11⟩:=ha;obtain⟨_,b2,_⟩:=hb;exact⟨a1,b2,a3,a4,a5,a6,a7,a8,a9,a10,fun h=>absurd ho.1 h⟩
 ·exact ha
theorem MC{n:Nat}{E:Env}{g:Gm}{t:Int × Int}(h:Good n E g.w)(h1:t.1.toNat<n)(h2:t.2.toNat<n):Good n E (ZU g t).w:=by
 obtain⟨hS,hR⟩:=h;have ma:=hS.2.1 _ h1;have mb:=hS.2.1 _ h2;exact⟨(hS.setM h1 (Nq ma mb)).setM h2 (Nq mb ma),hR⟩
theorem Dl{n:Nat}{E:Env}:∀(l:List (Int × Int)) (g:Gm),Good n E g.w->(∀t∈l,t.1.toNat<n/\t.2.toNat<n)->Good n E (YT l g).w
 | [],_,h,_=>h
 | x :: l,g,h,hl=>Dl l (ZU g x) (MC h (hl x (List.mem_cons_self ..)).1 (hl x (List.mem_cons_self ..)).2) (fun y hy=>hl y (List.mem_cons_of_mem _ hy))
theorem Nr{L:List Mv}:∀t∈bod L,t.1.toNat<L.length/\t.2.toNat<L.length:=by
 intro t ht;unfold bod at ht;split at ht
 ·obtain⟨i,j,h1,h2,h3,rfl,_⟩:=De ht;exact⟨by simpa using h1,by simpa using h2⟩
 ·simp at ht
theorem JT{sol:Int->Int->Bool}{s:Sh}(h:YY sol s=true):(Z9 sol s).no=s.no/\(Z9 sol s).ow=s.ow/\(Z9 sol s).pw=s.pw/\ZR (Z9 sol s):=by
 have e:Z9 sol s=Ue sol s:=by unfold Z9;rw[if_pos h]
 rw[e];exact⟨rfl,rfl,rfl,OO h⟩
theorem Ns{E:Env}{S:List Sh}(h:Flo S):Flo (Yq E S)/\∀s∈Yq E S,∃t∈S,s.no=t.no/\s.ow=t.ow:=by
 obtain⟨h1,h2,h3⟩:=flo_pw.1 h;have hsub:∀s∈Yq E S,∃t∈S,YY E.sol t=true/\s=Z9 E.sol t:=by
  intro s hs;unfold Yq at hs;obtain⟨t,ht,rfl⟩:=List.mem_map.1 hs;obtain⟨ht1,ht2⟩:=List.mem_filter.1 ht;exact⟨t,ht1,ht2,rfl⟩
 refine⟨flo_pw.2 ⟨?_,fun s hs=>?_,?_⟩,fun s hs=>?_⟩
 ·unfold Yq;have:=List.length_filter_le (YY E.sol) S;simp;omega
 ·obtain⟨t,_,ht,rfl⟩:=hsub s hs;exact(JT ht).2.2.2
 ·unfold Yq;rw[List.pairwise_map];have h4:=h3.filter (YY E.sol);refine List.Pairwise.imp_of_mem ?_ h4;intro a b ha hb hab;rw[(JT (List.mem_filter.1 ha).2).1,(JT (List.mem_filter.1 hb).2).1];exact hab
 ·obtain⟨t,ht0,ht,rfl⟩:=hsub s hs;exact⟨t,ht0,(JT ht).1,(JT ht).2.1⟩
theorem MD{S T:List Sh}(h:Flo S)(hs:T.Sublist S):Flo T:=by
 obtain⟨h1,h2,h3⟩:=flo_pw.1 h;exact flo_pw.2 ⟨Nat.le_trans hs.length_le h1,fun s hm=>h2 s (hs.subset hm),h3.sublist hs⟩
theorem ME{S T:List Pk}{s:Int}(h:YW S s)(hs:T.Sublist S):YW T s:=by
 obtain⟨h0,h1,h2,h3,h4⟩:=mayK_pw.1 h;exact mayK_pw.2 ⟨h0,Nat.le_trans hs.length_le h1,fun s hm=>h2 s (hs.subset hm),h3.sublist hs,h4.sublist hs⟩
theorem Nt(g:Gm)(s:Sh)(t:Int):(Yx g s t).w.fr=g.w.fr/\(Yx g s t).w.hs=g.w.hs/\(Yx g s t).w.ks=g.w.ks/\(Yx g s t).w.nx=g.w.nx:=by
 unfold Yx;dsimp only;split<;>exact⟨rfl,rfl,rfl,rfl⟩
theorem MF{a b:Scr}{n:Int}{o:Bool}(ha:Ym a)(hb:Ym b)(hn:1<=n/\n<=3):Ym (Zb a b n o)/\Ym (Zc a b n o):=by
 have e:=Dh ha hb hn;unfold Zb Zc;rw[if_pos e,if_pos e];exact⟨M7 ha,M8 hb⟩
theorem MG{n:Nat}{g:Gm}{s:Sh}{t:Int}(h:Seats n g.w)(hs:ZR s)(ho:s.ow.toNat<n)(ht:t.toNat<n):Seats n (Yx g s t).w:=by
 unfold Yx;dsimp only;split
 ·exact h
 ·have hp:1<=s.pw/\s.pw<=3:=hs.2.2.1;have he:YX (mm g.w.ms t.toNat) (dmg s.pw)=0:=by
   have hd:dmg s.pw=15*s.pw:=by unfold dmg;rw[if_neg (by omega)]
   unfold YX;rw[mayB_iff.2 (h.2.1 _ ht),hd];simp only[if_true];rw[if_neg (by omega)]
  obtain⟨m1,m2⟩:=MF (o:=Zi (mm g.w.ms t.toNat) (dmg s.pw)) (h.2.2.2 _ ho) (h.2.2.2 _ ht) hp;exact((h.setM ht (O8 he)).setC ho m1).setC ht m2
theorem Nu{n:Nat}{F:List Sh}(hF:∀i,i<F.length->ZR (ss F i)/\(ss F i).ow.toNat<n):∀(l:List (Int × Int)) (g:Gm),Seats n g.w->(∀t∈l,t.1.toNat<F.length/\t.2.toNat<n)->Seats n (YD F l g).w/\(YD F l g).w.ks=g.w.ks/\(YD F l g).w.nx=g.w.nx/\(YD F l g).w.fr=g.w.fr
 | [],g,h,_=>⟨h,rfl,rfl,rfl⟩
 | t :: l,g,h,hl=>by
  obtain⟨t1,t2⟩:=hl t (List.mem_cons_self ..);have hk:=Nt g (ss F t.1.toNat) t.2;have ih:=Nu hF l (Yx g (ss F t.1.toNat) t.2) (MG h (hF _ t1).1 (hF _ t1).2 t2) (fun y hy=>hl y (List.mem_cons_of_mem _ hy));show Seats n (YD F l (Yx g (ss F t.1.toNat) t.2)).w/\_;refine⟨ih.1,ih.2.1.trans hk.2.2.1,ih.2.2.1.trans hk.2.2.2,ih.2.2.2.trans hk.1⟩
theorem Nv{P:Nat->Nat->Bool}{n m:Nat}:∀t∈Yj P n m,t.1.toNat<m/\t.2.toNat<n:=by
 intro t ht;obtain⟨i,hi,rfl⟩:=List.mem_iff_getElem.1 ht;obtain⟨j,k,h1,h2,h3,_⟩:=JP P n m i hi;rw[h3];exact⟨by simpa using h1,by simpa using h2⟩
theorem Nw{L:List Mv}{S:List Sh}:∀t∈sho L S,t.1.toNat<S.length/\t.2.toNat<L.length:=by
 intro t ht;unfold sho at ht;split at ht
 ·exact Nv t ht
 ·simp at ht
theorem Nx{L:List Mv}{Q:List Pk}{T:List (Int × Int)}:∀t∈pic L Q T,t.1.toNat<Q.length/\t.2.toNat<L.length:=by
 intro t ht;unfold pic at ht;split at ht
 ·exact Nv t ht
 ·simp at ht
theorem Dm{n:Nat}{E:Env}{g:Gm}(h:Good n E g.w):Good n E (XB E g).w:=by
 obtain⟨hS,r1,r2,r3,r4,r5,r6⟩:=h;obtain⟨f1,f2⟩:=Ns (E:=E) r1;have hF:∀i,i<(Yq E g.w.hs).length->ZR (ss (Yq E g.w.hs) i)/\(ss (Yq E g.w.hs) i).ow.toNat<n:=fun i hi=>by
  have hm:ss (Yq E g.w.hs) i∈Yq E g.w.hs:=by rw[Xf hi];exact List.getElem_mem hi
  have h1:=(flo_pw.1 f1).2.1 _ hm;obtain⟨t,ht,_,h3⟩:=f2 _ hm;have h4:=(r2 t ht).1;have h5:0<=(ss (Yq E g.w.hs) i).ow:=h1.2.1.1;exact⟨h1,by omega⟩
 obtain⟨k1,k2,k3,k4⟩:=Nu hF (sho g.w.ms (Yq E g.w.hs)) g hS (fun t ht=>by
  have:=Nw t ht;exact⟨this.1,by rw[<- hS.1];exact this.2⟩)
 unfold XB;dsimp only;have hsub:=Dj (Yq E g.w.hs) (sho g.w.ms (Yq E g.w.hs));refine⟨k1,MD f1 hsub,fun s hs=>?_,by rw[k2];exact r3,fun x hx=>by rw[k3];rw[k2]at hx;exact r4 x hx,by rw[k3];exact r5,by rw[k3];exact r6⟩;obtain⟨t,ht,e1,e2⟩:=f2 s (hsub.subset hs);have:=r2 t ht;exact⟨by rw[e2];exact this.1,by show s.no<_;rw[k3,e1];exact this.2⟩
theorem MH{m:Mv}{k:Int}(hm:May m)(hk:1<=k/\k<=3):May (Xo m k)/\0<=ZA m k/\ZA m k<=5:=by
 have e:Zj m k=0:=by unfold Zj;rw[mayB_iff.2 hm,if_pos hk];rfl
 refine⟨?_,?_,?_⟩
 ·unfold Xo Qg;rw[if_pos e];obtain⟨a1,a2,a3,a4,a5,a6,a7,a8,a9,a10,a11⟩:=hm;split
  ·rename_i ho;have h10:=a10 ho;split
   ·exact⟨a1,a2,a3,a4,by show 0<=min (m.hl+30) 100/\min (m.hl+30) 100<=100;omega,a6,a7,a8,a9,fun _=>by show 1<=min (m.hl+30) 100;omega,fun h=>absurd ho h⟩
   ·split
    ·exact⟨a1,a2,a3,a4,a5,by show 0<=min (m.en+40) 100/\min (m.en+40) 100<=100;omega,a7,a8,a9,a10,fun h=>absurd ho h⟩
    ·exact⟨a1,a2,a3,a4,a5,a6,a7,a8,a9,a10,a11⟩
  ·exact⟨a1,a2,a3,a4,a5,a6,a7,a8,a9,a10,a11⟩
 ·unfold ZA;split<;>omega
 ·unfold ZA;split<;>omega
theorem MI{s:Scr}{n:Int}(hs:Ym s)(hn:0<=n/\n<=100):Ym (ZB s n):=by
 unfold ZB;rw[if_pos (Di hs hn)];exact M9 hs
theorem MJ{n:Nat}{Q:List Pk}{g:Gm}{t:Int × Int}(h:Seats n g.w)(hk:1<=(pk Q t.1.toNat).kd/\(pk Q t.1.toNat).kd<=3)(ht:t.2.toNat<n):Seats n (Yz Q g t).w:=by
 obtain⟨m1,m2,m3⟩:=MH (h.2.1 _ ht) hk;exact(h.setM ht m1).setC ht (MI (h.2.2.2 _ ht) ⟨m2,by omega⟩)
theorem Ny{n:Nat}{Q:List Pk}(hQ:∀i,i<Q.length->1<=(pk Q i).kd/\(pk Q i).kd<=3):∀(l:List (Int × Int)) (g:Gm),Seats n g.w->(∀t∈l,t.1.toNat<Q.length/\t.2.toNat<n)->Seats n (YE Q l g).w/\(YE Q l g).w.hs=g.w.hs/\(YE Q l g).w.nx=g.w.nx/\(YE Q l g).w.fr=g.w.fr
 | [],g,h,_=>⟨h,rfl,rfl,rfl⟩
 | t :: l,g,h,hl=>by
  obtain⟨t1,t2⟩:=hl t (List.mem_cons_self ..);have ih:=Ny hQ l (Yz Q g t) (MJ h (hQ _ t1) t2) (fun y hy=>hl y (List.mem_cons_of_mem _ hy));exact ih
theorem Dn{n:Nat}{E:Env}{f:Int}{g:Gm}(h:Good n E g.w):Good n E (Xq E f g).w:=by
 obtain⟨hS,r1,r2,r3,r4,r5,r6⟩:=h;have hQ:∀i,i<g.w.ks.length->1<=(pk g.w.ks i).kd/\(pk g.w.ks i).kd<=3:=fun i hi=>(r3.2.2 i hi).2.2.2.1;obtain⟨k1,k2,k3,k4⟩:=Ny hQ (pic g.w.ms g.w.ks E.sp) g hS (fun t ht=>by
  have:=Nx t ht;exact⟨this.1,by rw[<- hS.1];exact this.2⟩)
 have hsub:=Dj g.w.ks (pic g.w.ms g.w.ks E.sp);have hL:=ME r3 hsub;have hN:∀x∈Yu g.w.ks (pic g.w.ms g.w.ks E.sp),x.no<g.w.nx:=fun x hx=>r4 x (hsub.subset hx);unfold Xq;dsimp only;split
 ·rename_i hc;rw[k3]at hc;refine⟨k1,by rw[k2];exact r1,fun s hs=>?_,?_,fun x hx=>?_,(by rw[k3];omega:1<=(YE g.w.ks (pic g.w.ms g.w.ks E.sp) g).w.nx+1),(by rw[k3];omega:(YE g.w.ks (pic g.w.ms g.w.ks E.sp) g).w.nx+1<=1099511627777)⟩
  ·rw[k2]at hs;have:=r2 s hs;exact⟨this.1,by show s.no<_+1;rw[k3];omega⟩
  ·rw[k3];exact M5 hc.2 (fun i hi=>by rw[ZC hi];exact hN _ (List.getElem_mem hi))
  ·show x.no<_+1;rw[k3];rcases List.mem_append.1 hx with hx|hx
   ·have:=hN x hx;omega
   ·rw[List.mem_singleton.1 hx,k3];have e:(Yr E.q f (Yu g.w.ks (pic g.w.ms g.w.ks E.sp)) (E.sp.length:Int) g.w.nx).no=g.w.nx:=by unfold Yr;rw[if_pos hc.2]
    omega
 ·exact⟨k1,by rw[k2];exact r1,fun s hs=>by rw[k2]at hs;show _/\s.no<_;rw[k3];exact r2 s hs,hL,fun x hx=>by show x.no<_;rw[k3];exact hN x hx,(by rw[k3];exact r5:1<=(YE g.w.ks (pic g.w.ms g.w.ks E.sp) g).w.nx),(by rw[k3];exact r6:(YE g.w.ks (pic g.w.ms g.w.ks E.sp) g).w.nx<=1099511627777)⟩
theorem JU(E:Env)(L:List Mv):∀i,(YG E L i).length=L.length
 | 0=>rfl
 | i+1=>by rw[YG,List.length_set,JU E L i]
theorem Ql(E:Env){L:List Mv}:∀{i:Nat},i<=L.length->∀k,k<L.length->mm (YG E L i) k=if k<i then ZY (mm L k) (pp E.st k).1 (pp E.st k).2 else mm L k
 | 0,_,k,hk=>by rw[YG,if_neg (by omega)]
 | i+1,hi,k,hk=>by
  rw[YG,Qk (by rw[JU];omega),Ql E (by omega) k hk];by_cases e:k=i
  ·subst e;rw[if_pos rfl,if_pos (by omega)]
  ·rw[if_neg e];by_cases e2:k<i
   ·rw[if_pos e2,if_pos (by omega)]
   ·rw[if_neg e2,if_neg (by omega)]
theorem Nz{n:Nat}{E:Env}{g:Gm}(h:Good n E g.w):Good n E (XQ E g).w:=by
 obtain⟨⟨h1,h2,h3,h4⟩,hR⟩:=h;refine⟨⟨by show(YG E g.w.ms g.w.ms.length).length=n;rw[JU];exact h1,fun i hi=>?_,h3,h4⟩,hR⟩;show May (mm (YG E g.w.ms g.w.ms.length) i);rw[Ql E (Nat.le_refl _) i (by omega),if_pos (by omega)];exact O9 _ _ (h2 i hi)
theorem N5:∀(l:List Cm) (g:Gm),(YJ l g).w.fr=g.w.fr
 | [],_=>rfl
 | x :: l,g=>by
  show(YJ l (act1 g x)).w.fr=_;rw[N5 l];unfold act1;dsimp only;split
  ·rfl
  ·split<;>rfl
theorem Good.fr{n:Nat}{E:Env}{w:Wd}(h:Good n E w)(f:Int):Good n E { w with fr:=f }:=h
theorem N6{n:Nat}{E:Env}{w:Wd}{l:List Cm}(hn:n<=6)(h:Good n E w)(hl:∀x∈l,Rgt n x):Good n E (frame E w l).w/\(frame E w l).w.fr=w.fr+1:=by
 have g1:=Dk (E:=E) (JS hn l ⟨w,[]⟩ h hl);have g2:=Dl (bod (Zd E (YJ l ⟨w,[]⟩)).w.ms) _ g1 (fun t ht=>by
  have:=Nr t ht;rw[g1.1.1]at this;exact this)
 have g3:=(Nz (Dn (f:=w.fr+1) (Dm g2))).fr (w.fr+1);unfold frame;dsimp only;exact⟨g3,rfl⟩
end Go.Proofs.YtcgmohldcokccaaGreatDoor.Ha
set_option maxRecDepth 100000
namespace Go.Proofs.YtcgmohldcokccaaGreatDoor.Ha
open Pu Gp Ap Vp Np Za Ka Ja Ea
/-! Commands in order. -/
def Y8(a b:Cm):Bool:=decide (a.pe<b.pe) || (decide (a.pe=b.pe) && decide (a.sq<b.sq))
theorem lessC_iff{a b:Cm}:Y8 a b=true ↔ a.pe<b.pe\/a.pe=b.pe/\a.sq<b.sq:=by
 unfold Y8;simp only[Bool.or_eq_true,Bool.and_eq_true,decide_eq_true_eq]
def XC:List Cm->Cm->List Cm
 | [],x=>[x]
 | y :: r,x=>if Y8 y x then x :: y :: r else y :: XC r x
def ofR(f:Int):List Cm->List Cm->List Cm
 | [],acc=>acc
 | x :: l,acc=>ofR f l (if x.fr=f then XC acc x else acc)
def ofC(l:List Cm)(f:Int):List Cm:=(ofR f l []).reverse
theorem Qm:∀(r:List Cm) (x:Cm),(XC r x).Perm (x :: r)
 | [],x=>List.Perm.refl _
 | y :: r,x=>by
  unfold XC;split
  ·exact List.Perm.refl _
  ·exact((Qm r x).cons y).trans (List.Perm.swap x y r)
theorem Qn(f:Int):∀(l acc:List Cm),(ofR f l acc).Perm (l.filter (fun x=>decide (x.fr=f)) ++ acc)
 | [],acc=>List.Perm.refl _
 | x :: l,acc=>by
  unfold ofR;by_cases h:x.fr=f
  ·rw[if_pos h,List.filter_cons_of_pos (by simpa using h)];refine(Qn f l (XC acc x)).trans ?_;refine((Qm acc x).append_left _).trans ?_;exact List.perm_middle
  ·rw[if_neg h,List.filter_cons_of_neg (by simpa using h)];exact Qn f l acc
theorem Qo(l:List Cm)(f:Int):(ofC l f).Perm (l.filter (fun x=>decide (x.fr=f))):=by
 unfold ofC;have h:=Qn f l [];rw[List.append_nil]at h;exact(List.reverse_perm _).trans h
theorem ofC_mem{l:List Cm}{f:Int}{x:Cm}:x∈ofC l f ↔ x∈l/\x.fr=f:=by
 rw[(Qo l f).mem_iff,List.mem_filter];simp
def Dst(l:List Cm):Prop:=l.Pairwise fun a b=>¬(a.pe=b.pe/\a.sq=b.sq)
theorem N7:∀{r:List Cm} {x:Cm},(r.Pairwise fun a b=>Y8 b a=true)->(∀y∈r,¬(y.pe=x.pe/\y.sq=x.sq))->(XC r x).Pairwise fun a b=>Y8 b a=true
 | [],x,_,_=>List.pairwise_singleton _ _
 | y :: r,x,h,hd=>by
  rw[List.pairwise_cons]at h;unfold XC;split
  ·rename_i hl;rw[List.pairwise_cons];refine⟨fun z hz=>?_,List.pairwise_cons.2 h⟩;rcases List.mem_cons.1 hz with rfl|hz
   ·exact hl
   ·have h1:=lessC_iff.1 (h.1 z hz);have h2:=lessC_iff.1 hl;rw[lessC_iff];omega
  ·rename_i hl;rw[List.pairwise_cons];refine⟨fun z hz=>?_,N7 h.2 (fun z hz=>hd z (List.mem_cons_of_mem _ hz))⟩;rcases List.mem_cons.1 ((Qm r x).mem_iff.1 hz)with rfl|hz
   ·have h1:=hd y (List.mem_cons_self ..);have h2:¬(y.pe<z.pe\/y.pe=z.pe/\y.sq<z.sq):=fun e=>hl (lessC_iff.2 e);rw[lessC_iff];omega
   ·exact h.1 z hz
theorem Dp(f:Int):∀{l acc:List Cm},Dst l->(acc.Pairwise fun a b=>Y8 b a=true)->(∀x∈l,∀y∈acc,¬(y.pe=x.pe/\y.sq=x.sq))->(ofR f l acc).Pairwise fun a b=>Y8 b a=true
 | [],_,_,h,_=>h
 | x :: l,acc,hd,h,hx=>by
  rw[Dst,List.pairwise_cons]at hd;unfold ofR;split
  ·refine Dp f hd.2 (N7 h (hx x (List.mem_cons_self ..))) (fun z hz y hy=>?_);rcases List.mem_cons.1 ((Qm acc x).mem_iff.1 hy)with rfl|hy
   ·exact hd.1 z hz
   ·exact hx z (List.mem_cons_of_mem _ hz) y hy
  ·exact Dp f hd.2 h (fun z hz=>hx z (List.mem_cons_of_mem _ hz))
theorem N8{l:List Cm}(hd:Dst l)(f:Int):(ofC l f).Pairwise fun a b=>Y8 a b=true:=by
 unfold ofC;rw[List.pairwise_reverse];exact Dp f hd List.Pairwise.nil (fun _ _ y hy=>by cases hy)
/-! The seed. -/
/-! What notes tell. -/
theorem MK{L:List Mv}{S:List Sh}:∀t∈sho L S,0<=t.2/\(ss S t.1.toNat).ow≠t.2:=by
 intro t ht;unfold sho at ht;split at ht
 ·obtain⟨i,hi,rfl⟩:=List.mem_iff_getElem.1 ht;obtain⟨j,k,h1,h2,h3,h4,_⟩:=JP _ _ _ i hi;rw[h3];refine⟨by show(0:Int)<=(k:Int);omega,?_⟩;show(ss S ((j:Int).toNat)).ow≠(k:Int);rw[Int.toNat_natCast];unfold hS at h4;simp only[Bool.and_eq_true,Bool.not_eq_true',beq_eq_false_iff_ne]at h4;exact fun e=>h4.1.2 e.symm
 ·simp at ht
theorem ML{L:List Mv}{Q:List Pk}{T:List (Int × Int)}:∀t∈pic L Q T,0<=t.2:=by
 intro t ht;unfold pic at ht;split at ht
 ·obtain⟨i,hi,rfl⟩:=List.mem_iff_getElem.1 ht;obtain⟨j,k,h1,h2,h3,_⟩:=JP _ _ _ i hi;rw[h3];show(0:Int)<=(k:Int);omega
 ·simp at ht
end Go.Proofs.YtcgmohldcokccaaGreatDoor.Ha
set_option maxRecDepth 100000
namespace Go.Proofs.YtcgmohldcokccaaGreatDoor.Hi
open Pu Gp Ap Vp Np Za Ka Ja Ea Ha
def lgs(l:List Int)(i:Nat):Int:=l.getD i 0
def Vl(l:List Int):Prop:=2<=l.length/\l.length<=5/\lgs l 0=0/\∀i,1<=i->i<l.length->lgs l (i-1)<lgs l i/\lgs l i<48
def Zl(p v:Int)(k:Nat)(l:List Int):Prop:=2<=p/\p<=6/\v=0/\p<=(k:Int)/\Vl l
open Classical in
noncomputable def Ul(p v:Int)(k:Nat)(l:List Int):Int:=if Zl p v k l then 0 else 130
theorem Dq{p v:Int}{k:Nat}{l:List Int}(h:Zl p v k l):Ul p v k l=0:=by unfold Ul;rw[if_pos h]
theorem XR{p v:Int}{k:Nat}{l:List Int}(h:¬Zl p v k l):Ul p v k l=130:=by unfold Ul;rw[if_neg h]
def Z3(p:Int)(E:Env)(w:Wd):Prop:=Ha.Good p.toNat E w/\0<=w.fr/\w.fr<=1099511627776
open Classical in
noncomputable def Xy(p:Int)(E:Env)(w:Wd):Int:=if Z3 p E w then 0 else 131
theorem JV{p:Int}{E:Env}{w:Wd}(h:Z3 p E w):Xy p E w=0:=by unfold Xy;rw[if_pos h]
theorem Qp{p:Int}{E:Env}{w:Wd}(h:¬Z3 p E w):Xy p E w=131:=by unfold Xy;rw[if_neg h]
def nwM(st:List (Int × Int)):Nat->List Mv
 | 0=>[]
 | k+1=>nwM st k ++ [XL (pp st k).1 (pp st k).2 (4*(k:Int))]
theorem XS(st:List (Int × Int)):∀k,(nwM st k).length=k
 | 0=>rfl
 | k+1=>by rw[nwM,List.length_append,XS st k];rfl
def nwC(k:Nat):List Scr:=List.replicate k zC
theorem MM(k:Nat):nwC (k+1)=nwC k ++ [zC]:=List.replicate_succ'
def nw0(E:Env)(n:Nat):Wd:=⟨0,nwM E.st n,nwC n,[],[],1⟩
def Z4(p f:Int)(l:List Cm):Prop:=∀i,i<l.length->(Rgt p.toNat (l.getD i ⟨0,0,0,0,0,0,0⟩)/\(l.getD i ⟨0,0,0,0,0,0,0⟩).fr=f)/\(0<i->Y8 (l.getD (i-1) ⟨0,0,0,0,0,0,0⟩) (l.getD i ⟨0,0,0,0,0,0,0⟩)=true)
def Vm(p:Int)(l:List Cm):Prop:=∃i,i<l.length/\(¬Rgt p.toNat (l.getD i ⟨0,0,0,0,0,0,0⟩) \/ ∃k,k<i/\(l.getD k ⟨0,0,0,0,0,0,0⟩).pe=(l.getD i ⟨0,0,0,0,0,0,0⟩).pe/\(l.getD k ⟨0,0,0,0,0,0,0⟩).sq=(l.getD i ⟨0,0,0,0,0,0,0⟩).sq)
end Go.Proofs.YtcgmohldcokccaaGreatDoor.Hi
namespace Go.Proofs.YtcgmohldcokccaaGreatDoor
open Go.RowKit
open Pu Gp Ap Vp Np Za Ka Ja
set_option maxRecDepth 100000
def KM:Kd Mv:=⟨fun m=>(mcs m).toList,13,zM,fun _=>rfl,fun m u hu=>by
 simp at hu;rcases hu with rfl|rfl|rfl|rfl|rfl|rfl|rfl|rfl|rfl|rfl|rfl|rfl|rfl<;>rfl,by decide⟩
def KS:Kd Sh:=⟨fun m=>(scs m).toList,8,zS,fun _=>rfl,fun m u hu=>by
 simp at hu;rcases hu with rfl|rfl|rfl|rfl|rfl|rfl|rfl|rfl<;>rfl,by decide⟩
def KT:Kd (Int × Int):=⟨fun p=>[.int .i64 p.1,.int .i64 p.2],2,(0,0),fun _=>rfl,fun m u hu=>by
 simp at hu;rcases hu with rfl|rfl<;>rfl,by decide⟩
theorem Qq:∃i,Tryz.prog.info? 59=some i/\i.zero=some (.agg (KM.f KM.d).toArray)/\i.size=KM.k/\i.bytes=104:=⟨_,rfl,rfl,rfl,rfl⟩
theorem MN:∃i,Tryz.prog.info? 126=some i/\i.zero=some (.agg (KT.f KT.d).toArray)/\i.size=KT.k/\i.bytes=16:=⟨_,rfl,rfl,rfl,rfl⟩
theorem rdM{w:World}{B o n:Nat}{L:List Mv}(h:RdG KM w (some ⟨B,o,none⟩) n L){i:Nat}(hi:i<n):w.cell? ⟨B,o+i*13,none⟩=some (.int .i64 (mm L i).ax)/\w.cell? ⟨B,o+i*13+1,none⟩=some (.int .i64 (mm L i).ay)/\w.cell? ⟨B,o+i*13+2,none⟩=some (.int .i64 (mm L i).sx)/\w.cell? ⟨B,o+i*13+3,none⟩=some (.int .i64 (mm L i).sy)/\w.cell? ⟨B,o+i*13+4,none⟩=some (.int .i64 (mm L i).px)/\w.cell? ⟨B,o+i*13+5,none⟩=some (.int .i64 (mm L i).py)/\w.cell? ⟨B,o+i*13+6,none⟩=some (.int .i64 (mm L i).fc)/\w.cell? ⟨B,o+i*13+7,none⟩=some (.int .i64 (mm L i).hl)/\w.cell? ⟨B,o+i*13+8,none⟩=some (.int .i64 (mm L i).en)/\w.cell? ⟨B,o+i*13+9,none⟩=some (.bool (mm L i).sh)/\w.cell? ⟨B,o+i*13+10,none⟩=some (.int .i64 (mm L i).co)/\w.cell? ⟨B,o+i*13+11,none⟩=some (.int .i64 (mm L i).ou)/\w.cell? ⟨B,o+i*13+12,none⟩=some (.int .i64 (mm L i).sd):=
 ⟨h.get hi 0 _ rfl,h.get hi 1 _ rfl,h.get hi 2 _ rfl,h.get hi 3 _ rfl,h.get hi 4 _ rfl,h.get hi 5 _ rfl,h.get hi 6 _ rfl,h.get hi 7 _ rfl,h.get hi 8 _ rfl,h.get hi 9 _ rfl,h.get hi 10 _ rfl,h.get hi 11 _ rfl,h.get hi 12 _ rfl⟩
theorem rdS{w:World}{B o n:Nat}{L:List Sh}(h:RdG KS w (some ⟨B,o,none⟩) n L){i:Nat}(hi:i<n):w.cell? ⟨B,o+i*8,none⟩=some (.int .i64 (ss L i).no)/\w.cell? ⟨B,o+i*8+1,none⟩=some (.int .i64 (ss L i).ow)/\w.cell? ⟨B,o+i*8+2,none⟩=some (.int .i64 (ss L i).pw)/\w.cell? ⟨B,o+i*8+3,none⟩=some (.int .i64 (ss L i).ax)/\w.cell? ⟨B,o+i*8+4,none⟩=some (.int .i64 (ss L i).ay)/\w.cell? ⟨B,o+i*8+5,none⟩=some (.int .i64 (ss L i).sx)/\w.cell? ⟨B,o+i*8+6,none⟩=some (.int .i64 (ss L i).sy)/\w.cell? ⟨B,o+i*8+7,none⟩=some (.int .i64 (ss L i).lf):=
 ⟨h.get hi 0 _ rfl,h.get hi 1 _ rfl,h.get hi 2 _ rfl,h.get hi 3 _ rfl,h.get hi 4 _ rfl,h.get hi 5 _ rfl,h.get hi 6 _ rfl,h.get hi 7 _ rfl⟩
theorem rdP{w:World}{B o n:Nat}{L:List (Int × Int)}(h:RdG KT w (some ⟨B,o,none⟩) n L){i:Nat}(hi:i<n):w.cell? ⟨B,o+i*2,none⟩=some (.int .i64 (pp L i).1)/\w.cell? ⟨B,o+i*2+1,none⟩=some (.int .i64 (pp L i).2):=
 ⟨h.get hi 0 _ rfl,h.get hi 1 _ rfl⟩
theorem owM{e:TypeId}{w:World}{B g n cap:Nat}{L:List Mv}(h:OwG KM e w B (.slice (some ⟨g,0,none⟩) n cap) L){i:Nat}(hi:i<L.length):w.cell? ⟨g,i*13,none⟩=some (.int .i64 (mm L i).ax)/\w.cell? ⟨g,i*13+1,none⟩=some (.int .i64 (mm L i).ay)/\w.cell? ⟨g,i*13+2,none⟩=some (.int .i64 (mm L i).sx)/\w.cell? ⟨g,i*13+3,none⟩=some (.int .i64 (mm L i).sy)/\w.cell? ⟨g,i*13+4,none⟩=some (.int .i64 (mm L i).px)/\w.cell? ⟨g,i*13+5,none⟩=some (.int .i64 (mm L i).py)/\w.cell? ⟨g,i*13+6,none⟩=some (.int .i64 (mm L i).fc)/\w.cell? ⟨g,i*13+7,none⟩=some (.int .i64 (mm L i).hl)/\w.cell? ⟨g,i*13+8,none⟩=some (.int .i64 (mm L i).en)/\w.cell? ⟨g,i*13+9,none⟩=some (.bool (mm L i).sh)/\w.cell? ⟨g,i*13+10,none⟩=some (.int .i64 (mm L i).co)/\w.cell? ⟨g,i*13+11,none⟩=some (.int .i64 (mm L i).ou)/\w.cell? ⟨g,i*13+12,none⟩=some (.int .i64 (mm L i).sd)/\∀o,w.frozen? ⟨g,o,none⟩=false:=
 ⟨h.get hi 0 _ rfl,h.get hi 1 _ rfl,h.get hi 2 _ rfl,h.get hi 3 _ rfl,h.get hi 4 _ rfl,h.get hi 5 _ rfl,h.get hi 6 _ rfl,h.get hi 7 _ rfl,h.get hi 8 _ rfl,h.get hi 9 _ rfl,h.get hi 10 _ rfl,h.get hi 11 _ rfl,h.get hi 12 _ rfl,h.frozen⟩
theorem owT{e:TypeId}{w:World}{B g n cap:Nat}{L:List (Int × Int)}(h:OwG KT e w B (.slice (some ⟨g,0,none⟩) n cap) L){i:Nat}(hi:i<L.length):w.cell? ⟨g,i*2,none⟩=some (.int .i64 (pp L i).1)/\w.cell? ⟨g,i*2+1,none⟩=some (.int .i64 (pp L i).2)/\∀o,w.frozen? ⟨g,o,none⟩=false:=
 ⟨h.get hi 0 _ rfl,h.get hi 1 _ rfl,h.frozen⟩
theorem UW(w:World){ops:Array Oper}{rest:List Oper}{o:Oper}{a:Act}{Q:Exit->Act->World->Prop}(hgd:o.guard=none)(s x:Operand)
  (hop:o.op=.call { callee:=.builtin .append,args:=#[s,x],argTypes:=#[120,120] })
  (B g:Nat) (v:Value) (L:List (Int × Int)) (p q:Int) (hs:a.eval s=v) (hx:a.eval x=.slice (some ⟨g,0,none⟩) 1 1) (ho:OwG KT 126 w B v L) (hr:w.heap[g]?=some (.cells #[.int .i64 p,.int .i64 q] 126 (0,0))) (h47:L.length<=100000) (hB:B<=w.heap.size)
  (h:∀v' w',OwG KT 126 w' B v' (L ++ [(p,q)])->Fr (fun k=>v.ownBlock=some k) w w'->wpList Tryz.prog ops Q rest (a.put o.dst v') w'):wpList Tryz.prog ops Q (o :: rest) a w:=
 Ou KT w hgd s x 120 hop Tryz.underlying120 16 MN (by decide) B g v L (p,q) hs hx ho hr h47 hB h
end Go.Proofs.YtcgmohldcokccaaGreatDoor
namespace Go.Proofs.YtcgmohldcokccaaGreatDoor
open Go.RowKit
open Pu Gp Np Ka
set_option maxRecDepth 100000
abbrev kcs(x:Pk):Array Value:=#[.int .i64 x.no,.int .i64 x.sp,.int .i64 x.kd]
abbrev kv(x:Pk):Value:=.agg (kcs x)
def Kb(w:World)(g:Nat)(x:Pk):Prop:=w.heap[g]?=some (.cells (kcs x) 71 (0,0))
theorem Kb.sT{w w':World}{g:Nat}{x:Pk}(h:Kb w g x)(hs:Yc w w'):Kb w' g x:=hs.kept_still h
theorem Kb.cells{w:World}{g:Nat}{x:Pk}(h:Kb w g x):w.cell? ⟨g,0,none⟩=some (.int .i64 x.no)/\w.cell? ⟨g,1,none⟩=some (.int .i64 x.sp)/\w.cell? ⟨g,2,none⟩=some (.int .i64 x.kd)/\∀o,w.frozen? ⟨g,o,none⟩=false:=by
 refine⟨?_,?_,?_,fun o=>frozen_of_row w g o _ _ h⟩<;>(rw[cell_of_row _ _ _ _ _ _ h];rfl)
abbrev Dr(w:World)(x:Pk):World:=w.alloc (.cells (kcs x) 71)
theorem Xr(w:World)(x:Pk):Kb (Dr w x) w.heap.size x:=heap_alloc_new w _
theorem Kb.put{w:World}{g:Nat}{x:Pk}(h0:Kb w g x)(a b c:Int):Kb (((w.setCell ⟨g,0,none⟩ (.int .i64 a)).setCell ⟨g,1,none⟩ (.int .i64 b)).setCell ⟨g,2,none⟩ (.int .i64 c)) g ⟨a,b,c⟩:=by
 unfold Kb at h0⊢;have h1:=heap_setCell_same _ g 0 _ _ (.int .i64 a) h0;have h2:=heap_setCell_same _ g 1 _ _ (.int .i64 b) h1;have h3:=heap_setCell_same _ g 2 _ _ (.int .i64 c) h2;exact h3.trans (by kernel_rfl)
theorem Kb.load{w:World}{g:Nat}{x:Pk}(h:Kb w g x):(loadVar 71 ⟨g,0,none⟩).run Tryz.prog w=.ok (kv x) w:=by
 obtain⟨c0,c1,c2,cf⟩:=h.cells;go_simp
theorem Kb.rest3{fn:Func}{p q r:Tmp}{w:World}{g:Nat}{x:Pk}(hb:Kb w g x)(h:fn.results=#[.cell p 71,.tmp q,.tmp r])(tmps:Array Value)(t s:Value)(hp:tmps.getD p undef=.pointer (some ⟨g,0,none⟩))(hq:tmps.getD q undef=t)(hr:tmps.getD r undef=s) :
  (results fn tmps).run Tryz.prog w=.ok (.tuple #[kv x,t,s]) w:=by
 rw[OA h,hp,hq,hr];simp[asAddr,Result.andThen,hb.load]
def eqK(x y:Pk):Bool:=(x.no == y.no) && ((x.sp == y.sp) && (x.kd == y.kd))
theorem MO(x:Pk):eqK x x=true:=by unfold eqK;simp
theorem UX(x:Pk)(w:World):(part 3 (kcs x) 0).run Tryz.prog w=.ok (.int .i64 x.no) w/\(part 3 (kcs x) 1).run Tryz.prog w=.ok (.int .i64 x.sp) w/\(part 3 (kcs x) 2).run Tryz.prog w=.ok (.int .i64 x.kd) w:=by
 refine⟨?_,?_,?_⟩<;>go_simp
theorem MP(x y:Pk)(w:World):(Op.equalIn 10000 71 (kv x) (kv y)).run Tryz.prog w=.ok (eqK x y) w:=by
 have c0:=fun w=>(UX x w).1;have d0:=fun w=>(UX y w).1;have r0:=fun w=>ZH 9998 x.no y.no w;have c1:=fun w=>(UX x w).2.1;have d1:=fun w=>(UX y w).2.1;have r1:=fun w=>ZH 9998 x.sp y.sp w;have c2:=fun w=>(UX x w).2.2;have d2:=fun w=>(UX y w).2.2;have r2:=fun w=>ZH 9998 x.kd y.kd w;rw[run_equalIn_struct w 9999 _ _ _ (by kernel_rfl) (by kernel_rfl)];have e : (Tryz.prog.fieldsOf 71) = #[⟨"No", 3, 0, false, "", "", 0⟩, ⟨"Spot", 3, 1, false, "", "", 8⟩, ⟨"Kind", 3, 2, false, "", "", 16⟩]:=by kernel_rfl
 rw[e];simp only[Op.eqFields,ne_eq,String.reduceEq,not_false_eq_true,if_true,Sem.run_bind,c0,c1,c2,d0,d1,d2,Result.andThen_ok,r0,r1,r2,Sem.run_ite,Sem.run_pure];unfold eqK;exact st (st (st1 _))
theorem MQ(x y:Pk)(w:World):(binOp .neq 71 (kv x) (kv y)).run Tryz.prog w=.ok (.bool (!eqK x y)) w:=by
 rw[run_neq_struct,MP];rfl
theorem MR(x:Pk)(w:World):(binOp .neq 71 (kv x) (kv x)).run Tryz.prog w=.ok (.bool false) w:=by
 rw[MQ,MO];rfl
theorem MS(op:BinOp)(a b:Operand)(xs ys:Array Value)(w:World):(eqGuard op 71 a b (.agg xs) (.agg ys)).run Tryz.prog w=.ok () w:=run_eqGuard_agg w op _ a b xs ys (by kernel_rfl)
def RdK(w:World)(ao:Option Addr)(n:Nat)(L:List Pk):Prop:=L.length=n/\n<=281474976710656/\(n=0 \/ ∃B o,ao=some ⟨B,o,none⟩/\∀i,i<n->w.cell? ⟨B,o+i*3,none⟩=some (.int .i64 (pk L i).no)/\w.cell? ⟨B,o+i*3+1,none⟩=some (.int .i64 (pk L i).sp)/\w.cell? ⟨B,o+i*3+2,none⟩=some (.int .i64 (pk L i).kd))
theorem RdK.sT{w w':World}{ao:Option Addr}{n:Nat}{L:List Pk}(h:RdK w ao n L)(hs:Yc w w'):RdK w' ao n L:=by
 refine⟨h.1,h.2.1,?_⟩;rcases h.2.2 with h0|⟨B,o,e,hc⟩
 ·exact .inl h0
 ·have on:∀{p:Addr} {x:Value},w.cell? p=some x->w'.cell? p=some x:=fun hp=>(hs.cell (World.block_lt_of_cell? w _ hp) (fun e=>e)).trans hp;exact .inr ⟨B,o,e,fun i hi=>⟨on (hc i hi).1,on (hc i hi).2.1,on (hc i hi).2.2⟩⟩
theorem RdK.at{w:World}{ao:Option Addr}{n:Nat}{L:List Pk}(h:RdK w ao n L)(hn:0<n):∃B o,ao=some ⟨B,o,none⟩/\∀i,i<n->w.cell? ⟨B,o+i*3,none⟩=some (.int .i64 (pk L i).no)/\w.cell? ⟨B,o+i*3+1,none⟩=some (.int .i64 (pk L i).sp)/\w.cell? ⟨B,o+i*3+2,none⟩=some (.int .i64 (pk L i).kd):=by
 rcases h.2.2 with h0|h
 ·omega
 ·exact h
theorem MT:∃i,Tryz.prog.info? 71=some i/\i.zero=some (kv zK)/\i.size=3/\i.bytes=24:=⟨_,rfl,rfl,rfl,rfl⟩
theorem MU(w:World)(ao:Option Addr)(n cap:Nat)(x:Int)(h0:0<=x)(h1:x<=cap) :
  (Instr.slice 31 (.slice ao n cap) none (some (.int .i64 x)) none).run Tryz.prog w=.ok (.slice ao x.toNat cap) w:=by
 obtain⟨i,hi,_,hs,_⟩:=MT;have ht:Tryz.prog.underlying 31=some (.slice 71):=Tryz.underlying31;have ht':Tryz.prog.underlying 31=some (.slice (Tryz.prog.elem 31)):=by simp[Program.elem,ht]
 have he:Tryz.prog.elem 31=71:=by simp[Program.elem,ht]
 rw[run_slice_h w 31 ao n cap ht' .i64 x h0 h1,he];have:=AB ao cap;simp only[Gn]at this;simp[sizeOf,typeInfo,hi,hs,Result.andThen,sliced];simpa using this
end Go.Proofs.YtcgmohldcokccaaGreatDoor
