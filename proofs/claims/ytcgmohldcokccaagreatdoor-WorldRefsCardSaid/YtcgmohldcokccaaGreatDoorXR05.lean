import Derived.Test.YtcgmohldcokccaaGreatDoorXR03
import Derived.Test.YtcgmohldcokccaaGreatDoorXR04
set_option linter.unusedVariables false
set_option maxRecDepth 100000
namespace Go.Proofs.YtcgmohldcokccaaGreatDoor
namespace Ka
open Np
structure Pk where
 no:Int
 sp:Int
 kd:Int
def zK:Pk:=⟨0,0,0⟩
def pk(L:List Pk)(i:Nat):Pk:=L.getD i zK
def Fit(L:List Pk)(s:Int)(i:Nat):Prop:=
 (1<=(pk L i).no/\(pk L i).no<=1099511627776)/\(0<i->(pk L (i-1)).no<(pk L i).no)/\(0<=(pk L i).sp/\(pk L i).sp<s)/\(1<=(pk L i).kd/\(pk L i).kd<=3)/\∀k,k<i->(pk L k).sp≠(pk L i).sp
def YW(L:List Pk)(s:Int):Prop:=(0<=s/\s<=16)/\L.length<=8/\∀i,i<L.length->Fit L s i
def E9(L:List Pk)(s:Int):Decidable (YW L s):=by unfold YW Fit;infer_instance
def ZW(L:List Pk)(s:Int):Bool:=@decide (YW L s) (E9 L s)
theorem mayK_iff{L:List Pk}{s:Int}:ZW L s=true ↔ YW L s:=@decide_eq_true_iff (YW L s) (E9 L s)
def Y5(L:List Pk)(s:Int):Int:=if ZW L s then 0 else 100
theorem V9{L:List Pk}{s:Int}(h:YW L s):Y5 L s=0:=by unfold Y5;rw[mayK_iff.2 h];rfl
theorem Vd{L:List Pk}{s:Int}(h:¬YW L s):Y5 L s=100:=by
 unfold Y5;rw[if_neg (fun e=>h (mayK_iff.1 e))]
def Xu(L:List Pk)(j:Nat):Bool:=L.any fun x=>x.sp == (j:Int)
theorem lies_iff{L:List Pk}{j:Nat}:Xu L j=true ↔ ∃i,i<L.length/\(pk L i).sp=(j:Int):=by
 unfold Xu;rw[List.any_eq_true];constructor
 ·rintro⟨x,hx,h⟩;obtain⟨i,hi,rfl⟩:=List.mem_iff_getElem.1 hx;refine⟨i,hi,?_⟩;have:pk L i=L[i]:=by simp[pk,List.getD,hi]
  rw[this];simpa using h
 ·rintro⟨i,hi,h⟩;have:pk L i=L[i]:=by simp[pk,List.getD,hi]
  rw[this]at h;exact⟨L[i],List.getElem_mem hi,by simpa using h⟩
theorem Mk{L:List Pk}{k j:Nat}(h:k<L.length):Xu (L.take (k+1)) j=(Xu (L.take k) j || (pk L k).sp == (j:Int)):=by
 have:pk L k=L[k]:=by simp[pk,List.getD,h]
 rw[this];unfold Xu;rw[List.take_succ_eq_append_getElem h,List.any_append];simp
def fre(L:List Pk):Nat->List Int
 | 0=>[]
 | j+1=>fre L j ++ (if Xu L j then []else [(j:Int)])
theorem KV(L:List Pk)(s:Nat):(fre L s).length<=s:=by
 induction s with
 | zero=>simp[fre]
 | succ s ih=>simp only[fre,List.length_append];split<;>simp<;>omega
theorem EC{L:List Pk}{x:Int}:∀{s:Nat},x∈fre L s->∃j,j<s/\x=(j:Int)/\Xu L j=false
 | 0,h=>by simp[fre]at h
 | s+1,h=>by
  rw[fre,List.mem_append]at h;rcases h with h|h
  ·obtain⟨j,h1,h2⟩:=EC h;exact⟨j,by omega,h2⟩
  ·cases hl:Xu L s with
   | true=>simp[hl]at h
   | false=>simp[hl]at h;exact⟨s,by omega,h,hl⟩
def low(L:List Pk)(s:Nat):Nat:=L.countP fun x=>decide (x.sp<(s:Int))
theorem YbC(L:List Pk)(s:Nat):low L (s+1)=low L s+L.countP fun x=>x.sp == (s:Int):=by
 unfold low;induction L with
 | nil=>simp
 | cons x L ih =>
  simp only[List.countP_cons,ih,decide_eq_true_eq,beq_iff_eq];split<;>split<;>split<;>omega
theorem Ve{L:List Pk}{x:Pk}{i:Nat}(h:i<L.length):pk (L ++ [x]) i=pk L i:=by
 simp[pk,List.getD,List.getElem?_append_left h]
theorem JI(L:List Pk)(x:Pk):pk (L ++ [x]) L.length=x:=by simp[pk]
theorem Ml{L:List Pk}{s:Int}{x:Pk}(h:YW L s)(h8:L.length<8)(h1:1<=x.no/\x.no<=1099511627776)(h2:∀i,i<L.length->(pk L i).no<x.no)(h3:0<=x.sp/\x.sp<s)(h4:1<=x.kd/\x.kd<=3)(h5:∀i,i<L.length->(pk L i).sp≠x.sp):YW (L ++ [x]) s:=by
 obtain⟨g1,g2,g3⟩:=h;refine⟨g1,by simp;omega,fun i hi=>?_⟩;simp at hi;by_cases he:i<L.length
 ·obtain⟨a1,a2,a3,a4,a5⟩:=g3 i he;refine⟨?_,fun h0=>?_,?_,?_,fun k hk=>?_⟩
  ·rw[Ve he];exact a1
  ·rw[Ve he,Ve (show i-1<L.length by omega)];exact a2 h0
  ·rw[Ve he];exact a3
  ·rw[Ve he];exact a4
  ·rw[Ve he,Ve (show k<L.length by omega)];exact a5 k hk
 ·obtain rfl:i=L.length:=by omega
  refine⟨?_,fun h0=>?_,?_,?_,fun k hk=>?_⟩
  ·rw[JI];exact h1
  ·rw[JI,Ve (show L.length-1<L.length by omega)];exact h2 _ (by omega)
  ·rw[JI];exact h3
  ·rw[JI];exact h4
  ·rw[JI,Ve hk];exact h5 k hk
def VA(f no:Int):Bool:=decide (0<=f) && decide (f<=1099511627776) && decide (1<=no) && decide (no<=1099511627776)
theorem argK_iff{f no:Int}:VA f no=true ↔ (0<=f/\f<=1099511627776)/\1<=no/\no<=1099511627776:=by
 unfold VA;simp only[Bool.and_eq_true,decide_eq_true_eq];omega
def Zo(L:List Pk)(f s no:Int):Int:=if ZW L s then(if VA f no then 0 else 1)else 100
def comes(L:List Pk)(f s no:Int):Bool:=(Zo L f s no == 0) && (f % 16 == 0) && !(L.length == 8) && !((fre L s.toNat).length == 0)
def ZX(q f:Int)(L:List Pk)(s:Int):Int:=(fre L s.toNat).getD (bel (atI q f 1) ((fre L s.toNat).length:Int)).toNat 0
def Vf(q f:Int):Int:=wgt (atI q f 2) [5,3,2]+1
def Yr(q f:Int)(L:List Pk)(s no:Int):Pk:=if comes L f s no then⟨no,ZX q f L s,Vf q f⟩else zK
theorem GQ{n:Int}{k:Nat}(hk:0<k):0<=bel n k/\bel n k<(k:Int):=by
 unfold bel;rw[if_neg (by omega)];exact⟨Int.emod_nonneg _ (by omega),Int.emod_lt_of_pos _ (by omega)⟩
theorem GR:ZG [5,3,2]=0:=by kernel_rfl
theorem GS(q f:Int):1<=Vf q f/\Vf q f<=3:=by
 unfold Vf wgt;rw[if_pos GR];have h:=Rg.pick_ok [5,3,2] (atI q f 2 % Rg.sum [5,3,2]) (by decide) (Int.emod_nonneg _ (by decide)) (Int.emod_lt_of_pos _ (by decide));obtain⟨h1,_⟩:=h;simp at h1;omega
theorem Mm{L:List Pk}{f s no:Int}(h:comes L f s no=true):YW L s/\(0<=f/\f<=1099511627776)/\(1<=no/\no<=1099511627776)/\f % 16=0/\L.length<8/\0<(fre L s.toNat).length:=by
 unfold comes Zo at h;simp only[Bool.and_eq_true,Bool.not_eq_true',beq_iff_eq,beq_eq_false_iff_ne]at h;obtain⟨⟨⟨h1,h2⟩,h3⟩,h4⟩:=h;cases hm:ZW L s with
 | false=>rw[hm]at h1;simp at h1
 | true =>
  cases ha:VA f no with
  | false=>rw[hm,ha]at h1;simp at h1
  | true =>
   have:=argK_iff.1 ha;have hm2:=mayK_iff.1 hm;exact⟨hm2,this.1,this.2,h2,by have:=hm2.2.1;omega,by omega⟩
theorem Mn{L:List Pk}{q f s:Int}(h:YW L s)(hl:0<(fre L s.toNat).length):(0<=ZX q f L s/\ZX q f L s<s)/\∀i,i<L.length->(pk L i).sp≠ZX q f L s:=by
 have hb:=GQ (n:=atI q f 1) (k:=(fre L s.toNat).length) hl;have hi:(bel (atI q f 1) ((fre L s.toNat).length:Int)).toNat<(fre L s.toNat).length:=by omega
 have e:ZX q f L s=(fre L s.toNat)[(bel (atI q f 1) ((fre L s.toNat).length:Int)).toNat]:=by
  unfold ZX;simp[List.getD,hi]
 have hm:ZX q f L s∈fre L s.toNat:=by rw[e];exact List.getElem_mem hi
 obtain⟨j,h1,h2,h3⟩:=EC hm;rw[h2];refine⟨⟨by omega,by have:=h.1;omega⟩,fun i hi he=>?_⟩;have:=lies_iff.2 ⟨i,hi,he⟩;rw[h3]at this;cases this
theorem Mo{L:List Pk}{q f s no:Int}(h:comes L f s no=true)(hn:∀i,i<L.length->(pk L i).no<no):YW (L ++ [Yr q f L s no]) s:=by
 obtain⟨h1,h2,h3,h4,h5,h6⟩:=Mm h;have e:Yr q f L s no=⟨no,ZX q f L s,Vf q f⟩:=by unfold Yr;rw[if_pos h]
 obtain⟨g1,g2⟩:=Mn (q:=q) (f:=f) h1 h6;rw[e];exact Ml h1 h5 h3 hn g1 (GS q f) g2
def Zi(m:Mv)(k:Int):Int:=if Yw m then(if 1<=k/\k<=3 then 0 else 1)else 80
def KW(m:Mv)(k:Int):Mv:=if m.ou=0 then(if k=1 then { m with hl:=min (m.hl+30) 100 } else if k=2 then { m with en:=min (m.en+40) 100 } else m)else m
def Xk(m:Mv)(k:Int):Mv:=if Zi m k=0 then KW m k else zM
def Z7(m:Mv)(k:Int):Int:=if Zi m k=0/\m.ou=0/\k=3 then 5 else 0
end Ka
namespace Ja
open Pu Gp Ap Vp Np Za Ka
def mm(L:List Mv)(i:Nat):Mv:=L.getD i zM
def ss(S:List Sh)(i:Nat):Sh:=S.getD i zS
def pp(T:List (Int × Int))(i:Nat):Int × Int:=T.getD i (0,0)
def Yt(L:List Mv):Bool:=decide (L.length<=6) && L.all Yw
theorem togB_iff{L:List Mv}:Yt L=true ↔ L.length<=6/\∀i,i<L.length->Yw (mm L i)=true:=by
 unfold Yt;rw[Bool.and_eq_true,List.all_eq_true,decide_eq_true_eq];refine and_congr Iff.rfl ⟨fun h i hi=>?_,fun h x hx=>?_⟩
 ·have e:mm L i=L[i]:=by simp[mm,List.getD,hi]
  rw[e];exact h _ (List.getElem_mem hi)
 ·obtain⟨i,hi,rfl⟩:=List.mem_iff_getElem.1 hx;have e:mm L i=L[i]:=by simp[mm,List.getD,hi]
  rw[<- e];exact h i hi
theorem ED{L:List Mv}{i:Nat}(hi:i<L.length)(h:Yw (mm L i)=false):Yt L=false:=by
 cases e:Yt L with
 | false=>rfl
 | true=>rw[(togB_iff.1 e).2 i hi]at h;cases h
def Zp(b:Bool):Int:=if b then 0 else 110
def ov(m:Mv)(x y r:Int):Bool:=mt (Ye m.ax 1280) (Ye m.ay 1280) (Yd m.ax 1280) (Yd m.ay 1280) (Ye x r) (Ye y r) (Yd x r) (Yd y r)
def inn(m:Mv)(x y:Int):Bool:=mt (Ye m.ax 1280) (Ye m.ay 1280) (Yd m.ax 1280) (Yd m.ay 1280) x y x y
def two(L:List Mv)(i k:Nat):Bool:=((mm L i).ou == 0) && ((mm L k).ou == 0) && ov (mm L i) (mm L k).ax (mm L k).ay 1280
def rowB(L:List Mv)(i:Nat):Nat->List (Int × Int)
 | 0=>[]
 | k+1=>rowB L i k ++ (if decide (i<k) && two L i k then [((i:Int),(k:Int))]else [])
def YO(L:List Mv):Nat->List (Int × Int)
 | 0=>[]
 | i+1=>YO L i ++ rowB L i L.length
theorem EE(L:List Mv)(i:Nat):∀k,k<=i+1->rowB L i k=[]
 | 0,_=>rfl
 | k+1,h=>by
  rw[rowB,EE L i k (by omega)];have e:decide (i<k)=false:=by simp;omega
  rw[e];rfl
theorem Mp(L:List Mv){i k:Nat}(h:i<k):rowB L i (k+1)=rowB L i k ++ (if two L i k then [((i:Int),(k:Int))]else []):=by
 rw[rowB];have e:decide (i<k)=true:=by simpa using h
 rw[e,Bool.true_and]
theorem GT(L:List Mv)(i:Nat):∀k,(rowB L i k).length<=k
 | 0=>by simp[rowB]
 | k+1=>by have:=GT L i k;simp only[rowB,List.length_append];split<;>simp<;>omega
theorem GU(L:List Mv):∀i,(YO L i).length<=i*L.length
 | 0=>by simp[YO]
 | i+1=>by have:=GU L i;have:=GT L i L.length;simp only[YO,List.length_append,Nat.succ_mul];omega
theorem EF{L:List Mv}{i:Nat}{x:Int × Int}:∀{k:Nat},x∈rowB L i k->∃j,j<k/\i<j/\x=((i:Int),(j:Int))/\two L i j=true
 | 0,h=>by simp[rowB]at h
 | k+1,h=>by
  rw[rowB,List.mem_append]at h;rcases h with h|h
  ·obtain⟨j,h1,h2⟩:=EF h;exact⟨j,by omega,h2⟩
  ·cases hc:(decide (i<k) && two L i k)with
   | false=>rw[hc]at h;simp at h
   | true =>
    rw[hc]at h;simp at h hc;exact⟨k,by omega,hc.1,h,hc.2⟩
theorem GV{L:List Mv}{x:Int × Int}:∀{n:Nat},x∈YO L n->∃i j,i<n/\j<L.length/\i<j/\x=((i:Int),(j:Int))/\two L i j=true
 | 0,h=>by simp[YO]at h
 | n+1,h=>by
  rw[YO,List.mem_append]at h;rcases h with h|h
  ·obtain⟨i,j,h1,h2⟩:=GV h;exact⟨i,j,by omega,h2⟩
  ·obtain⟨j,h1,h2⟩:=EF h;exact⟨n,j,by omega,h1,h2⟩
def bod(L:List Mv):List (Int × Int):=if Yt L then YO L L.length else []
theorem GW{L:List Mv}:(bod L).length<=36:=by
 unfold bod;cases h:Yt L with
 | false=>simp
 | true =>
  have h1:=(togB_iff.1 h).1;have:=GU L L.length;have h2:L.length*L.length<=6*6:=Nat.mul_le_mul h1 h1;simp;omega
def ZR(a b:Mv):Bool:=Yw a && Yw b
def Zq(a b:Mv):Mv:=if ZR a b then(if a.ou=0/\b.ou=0 then { a with sx:=b.sx,sy:=b.sy } else a)else zM
def Flo(S:List Sh):Prop:=S.length<=48/\∀i,i<S.length->YH (ss S i)=true/\(0<i->(ss S (i-1)).no<(ss S i).no)
def EG(S:List Sh):Decidable (Flo S):=by unfold Flo;infer_instance
def flo(S:List Sh):Bool:=@decide (Flo S) (EG S)
theorem flo_iff{S:List Sh}:flo S=true ↔ Flo S:=@decide_eq_true_iff (Flo S) (EG S)
theorem KY{S:List Sh}(h:¬Flo S):flo S=false:=by
 cases e:flo S with
 | false=>rfl
 | true=>exact absurd (flo_iff.1 e) h
def lo(P:Nat->Bool):Nat->Nat->Int
 | _,0=>-1
 | k,m+1=>if P k then(k:Int)else lo P (k+1) m
theorem EH(P:Nat->Bool):∀(m k:Nat),lo P k m=-1 \/ ∃j,k<=j/\j<k+m/\lo P k m=(j:Int)/\P j=true
 | 0,_=>.inl rfl
 | m+1,k=>by
  rw[lo];cases h:P k with
  | true=>exact .inr ⟨k,by omega,by omega,by simp,h⟩
  | false =>
   rcases EH P m (k+1)with h1|⟨j,h1,h2,h3⟩
   ·left;simpa using h1
   ·exact .inr ⟨j,by omega,by omega,by simpa using h3.1,h3.2⟩
theorem EI(P:Nat->Bool){n k:Nat}(h:k<n):lo P k (n-k)=if P k then(k:Int)else lo P (k+1) (n-(k+1)):=by
 obtain⟨m,e⟩:∃m,n-k=m+1:=⟨n-k-1,by omega⟩;rw[e,lo,show n-(k+1)=m by omega]
def Yj(P:Nat->Nat->Bool)(n:Nat):Nat->List (Int × Int)
 | 0=>[]
 | i+1=>Yj P n i ++ (if 0<=lo (P i) 0 n then [((i:Int),lo (P i) 0 n)]else [])
theorem Ud(P:Nat->Nat->Bool)(n:Nat):∀m,(Yj P n m).length<=m
 | 0=>by simp[Yj]
 | m+1=>by have:=Ud P n m;simp only[Yj,List.length_append];split<;>simp<;>omega
theorem JJ(P:Nat->Nat->Bool)(n:Nat):∀(m i:Nat) (h:i<(Yj P n m).length),∃j k:Nat,j<m/\k<n/\(Yj P n m)[i]=((j:Int),(k:Int))/\P j k=true/\∀i2,i2<i->∀h2:i2<(Yj P n m).length,(Yj P n m)[i2].1<(j:Int)
 | 0,i,h=>by simp[Yj]at h
 | m+1,i,h=>by
  by_cases hi:i<(Yj P n m).length
  ·obtain⟨j,k,h1,h2,h3,h4,h5⟩:=JJ P n m i hi;refine⟨j,k,by omega,h2,?_,h4,fun i2 hi2 hh=>?_⟩
   ·simp only[Yj];rw[List.getElem_append_left hi];exact h3
   ·simp only[Yj];rw[List.getElem_append_left (by omega)];exact h5 i2 hi2 (by omega)
  ·simp only[Yj,List.length_append]at h;by_cases hc:0<=lo (P m) 0 n
   ·rw[if_pos hc]at h;simp at h;have he:i=(Yj P n m).length:=by omega
    rcases EH (P m) n 0 with h1|⟨k,h1,h2,h3,h4⟩
    ·omega
    ·refine⟨m,k,by omega,by omega,?_,h4,fun i2 hi2 hh=>?_⟩
     ·subst he;simp only[Yj];rw[List.getElem_append_right (Nat.le_refl _)];simp[h3]
     ·have hi3:i2<(Yj P n m).length:=by omega
      obtain⟨j,k',g1,g2,g3,_⟩:=JJ P n m i2 hi3;simp only[Yj];rw[List.getElem_append_left hi3,g3];show(j:Int)<(m:Int);omega
   ·rw[if_neg hc]at h;simp at h;omega
def hS(L:List Mv)(s:Sh)(k:Nat):Bool:=((mm L k).ou == 0) && !((k:Int) == s.ow) && inn (mm L k) s.ax s.ay
def XK(L:List Mv)(S:List Sh):Bool:=Yt L && flo S
def sho(L:List Mv)(S:List Sh):List (Int × Int):=if XK L S then Yj (fun i k=>hS L (ss S i) k) L.length S.length else []
def hP(L:List Mv)(p:Int × Int)(k:Nat):Bool:=((mm L k).ou == 0) && ov (mm L k) p.1 p.2 768
def XL(L:List Mv)(Q:List Pk)(T:List (Int × Int)):Bool:=Yt L && ZW Q (T.length:Int)
def pic(L:List Mv)(Q:List Pk)(T:List (Int × Int)):List (Int × Int):=if XL L Q T then Yj (fun i k=>hP L (pp T (pk Q i).sp.toNat) k) L.length Q.length else []
theorem sho_len{L:List Mv}{S:List Sh}:(sho L S).length<=48:=by
 unfold sho XK;cases h:Yt L && flo S with
 | false=>simp
 | true =>
  simp only[Bool.and_eq_true]at h;have h1:=(flo_iff.1 h.2).1;have:=Ud (fun i k=>hS L (ss S i) k) L.length S.length;simp;omega
theorem KZ{L:List Mv}{Q:List Pk}{T:List (Int × Int)}:(pic L Q T).length<=8:=by
 unfold pic XL;cases h:Yt L && ZW Q (T.length:Int)with
 | false=>simp
 | true =>
  simp only[Bool.and_eq_true]at h;have h1:=(mayK_iff.1 h.2).2.1;have:=Ud (fun i k=>hP L (pp T (pk Q i).sp.toNat) k) L.length Q.length;simp;omega
end Ja
end Go.Proofs.YtcgmohldcokccaaGreatDoor
