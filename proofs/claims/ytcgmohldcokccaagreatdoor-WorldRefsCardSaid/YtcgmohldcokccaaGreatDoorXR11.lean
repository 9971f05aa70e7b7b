import Derived.Test.YtcgmohldcokccaaGreatDoorXR49
set_option linter.unusedVariables false
set_option maxHeartbeats 8000000
set_option maxRecDepth 100000
namespace Go.Proofs.YtcgmohldcokccaaGreatDoor
namespace Ygp
open Pu Gp Ap Vp Np Za Ka Ja
def ipl(L:List Mv):Nat->List (Fin L.length)
 | 0=>[]
 | k+1=>ipl L k ++ (if h:k<L.length then(if(mm L k).ou == 0 then [⟨k,h⟩]else [])else [])
theorem Qy{L:List Mv}{k:Nat}(h:k<L.length)(ho:((mm L k).ou == 0)=true):ipl L (k+1)=ipl L k ++ [⟨k,h⟩]:=by
 rw[ipl,dif_pos h,if_pos ho]
theorem D1{L:List Mv}{k:Nat}(h:k<L.length)(ho:((mm L k).ou == 0)=false):ipl L (k+1)=ipl L k:=by
 rw[ipl,dif_pos h,if_neg (by rw[ho];simp),List.append_nil]
theorem NS{L:List Mv}(k:Nat):∀m,ipl L k <+: ipl L (k+m)
 | 0=>List.prefix_refl _
 | m+1=>(NS k m).trans (by rw[show k+(m+1)=(k+m)+1 from rfl,ipl];exact List.prefix_append _ _)
theorem NT{L:List Mv}{k m:Nat}(h:k<=m):ipl L k <+: ipl L m:=by
 obtain⟨d,rfl⟩:∃d,m=k+d:=⟨m-k,by omega⟩;exact NS k d
theorem RH{L:List Mv}{k:Nat}(h:k<L.length)(ho:((mm L k).ou == 0)=true):(ipl L k).length<(ipl L L.length).length:=by
 have:=(NT (L:=L) (show k+1<=L.length from h)).length_le;rw[Qy h ho,List.length_append]at this;simp at this;omega
theorem ipl_mem{L:List Mv}{i:Fin L.length}:∀{k:Nat},i∈ipl L k ↔ i.1<k/\((mm L i.1).ou == 0)=true
 | 0=>by simp[ipl]
 | k+1=>by
  rw[ipl,List.mem_append,ipl_mem (k:=k)];constructor
  ·rintro(⟨h1,h2⟩|h)
   ·exact⟨by omega,h2⟩
   ·by_cases hk:k<L.length
    ·rw[dif_pos hk]at h;by_cases ho:((mm L k).ou == 0)=true
     ·rw[if_pos ho]at h;simp at h;subst h;exact⟨by simp,ho⟩
     ·rw[if_neg ho]at h;simp at h
    ·rw[dif_neg hk]at h;simp at h
  ·rintro⟨h1,h2⟩;by_cases hk:i.1<k
   ·exact .inl ⟨hk,h2⟩
   ·have e:i.1=k:=by omega
    right
    have hk:k<L.length:=by have:=i.2;omega
    rw[dif_pos hk,if_pos (by rw[<- e];exact h2)];simp[Fin.ext_iff,e]
theorem NU{L:List Mv}:∀(k:Nat),(ipl L k).Pairwise (fun a b=>a.1<b.1)
 | 0=>by simp[ipl]
 | k+1=>by
  rw[ipl,List.pairwise_append];refine⟨NU k,?_,?_⟩
  ·split
   ·split<;>simp
   ·simp
  ·intro a ha b hb;have h1:=(ipl_mem.1 ha).1;split at hb
   ·split at hb
    ·simp at hb;subst hb;exact h1
    ·simp at hb
   ·simp at hb
theorem NV{L:List Mv}:∀(k:Nat),(ipl L k).length<=k
 | 0=>by simp[ipl]
 | k+1=>by
  have:=NV (L:=L) k;rw[ipl,List.length_append];have:(if h:k<L.length then(if(mm L k).ou == 0 then [(⟨k,h⟩:Fin L.length)]else [])else []).length<=1:=by
   split
   ·split<;>simp
   ·simp
  omega
theorem NW(P:Nat->Bool){x:Nat}(hx:P x=true):∀(m k:Nat),k<=x->x<k+m->(∀j,k<=j->j<x->P j=false)->lo P k m=(x:Int)
 | 0,k,h1,h2,_=>by omega
 | m+1,k,h1,h2,h3=>by
  rw[Ja.lo];by_cases e:k=x
  ·subst e;rw[hx];rfl
  ·rw[h3 k (Nat.le_refl _) (by omega)];exact NW P hx m (k+1) (by omega) (by omega) (fun j h4 h5=>h3 j (by omega) h5)
theorem NZ(P:Nat->Bool):∀(m k:Nat),(∀j,k<=j->j<k+m->P j=false)->lo P k m=-1
 | 0,_,_=>rfl
 | m+1,k,h=>by
  rw[Ja.lo,h k (Nat.le_refl _) (by omega)];exact NZ P m (k+1) (fun j h1 h2=>h j (by omega) (by omega))
def Xd(L:List Mv)(so:Nat->Bool)(k:Nat):Bool:=((mm L k).ou == 0) && so k
theorem RI{L:List Mv}{so:Nat->Bool}(h:∀y∈ipl L L.length,so y.1=false):lo (Xd L so) 0 L.length=-1:=
 NZ _ _ _ (fun j _ hj=>by
  unfold Xd;cases ho:(mm L j).ou == 0 with
  | false=>rfl
  | true=>rw[h ⟨j,by omega⟩ (ipl_mem.2 ⟨by simp;omega,ho⟩)];rfl)
theorem RJ{L:List Mv}{so:Nat->Bool}{pre:List (Fin L.length)}{x:Fin L.length}(hp:pre ++ [x] <+: ipl L L.length)(hn:∀y∈pre,so y.1=false)(hx:so x.1=true):lo (Xd L so) 0 L.length=(x.1:Int):=by
 have hm:=ipl_mem.1 (hp.subset (show x∈pre ++ [x] by simp));refine NW _ (by unfold Xd;rw[hm.2,hx];rfl) _ _ (Nat.zero_le _) (by omega) (fun j _ hj=>?_);unfold Xd;cases ho:(mm L j).ou == 0 with
 | false=>rfl
 | true =>
  have hjm:(⟨j,by omega⟩:Fin L.length)∈ipl L L.length:=ipl_mem.2 ⟨by simp;omega,ho⟩;obtain⟨t,ht⟩:=hp;have hs:=NU (L:=L) L.length;rw[<- ht]at hjm hs;rw[List.append_assoc,List.pairwise_append]at hs;rw[List.append_assoc,List.mem_append]at hjm;rcases hjm with h|h
  ·rw[hn _ h];rfl
  ·simp at h;rcases h with h|h
   ·have:=Fin.ext_iff.1 h;simp at this;omega
   ·have:=(List.pairwise_append.1 hs.2.1).2.2 x (by simp) _ h;simp at this;omega
/-! pairs -/
def inr{n:Nat}(a:Fin n)(q:List (Fin n)):List (Fin n × Fin n):=q.flatMap fun b=>if a.1<b.1 then [(a,b)]else []
def prs{n:Nat}(q:List (Fin n))(pre:List (Fin n)):List (Fin n × Fin n):=pre.flatMap fun a=>inr a q
theorem D2{n:Nat}(a:Fin n)(q:List (Fin n))(b:Fin n):inr a (q ++ [b])=inr a q ++ (if a.1<b.1 then [(a,b)]else []):=by simp[inr]
theorem Fa{n:Nat}(q pre:List (Fin n))(a:Fin n):prs q (pre ++ [a])=prs q pre ++ inr a q:=by simp[prs]
theorem Fb{n:Nat}(a:Fin n)(q:List (Fin n)):(inr a q).length<=q.length:=by
 induction q with
 | nil=>simp[inr]
 | cons b q ih =>
  have e:inr a (b :: q)=(if a.1<b.1 then [(a,b)]else []) ++ inr a q:=by simp[inr]
  rw[e,List.length_append,List.length_cons];split<;>simp<;>omega
theorem RK{n:Nat}(q pre:List (Fin n)):(prs q pre).length<=pre.length*q.length:=by
 induction pre with
 | nil=>simp[prs]
 | cons a pre ih =>
  have e:prs q (a :: pre)=inr a q ++ prs q pre:=by simp[prs]
  have:=Fb a q;rw[e,List.length_append,List.length_cons,Nat.succ_mul];omega
def met(L:List Mv)(l:List (Fin L.length × Fin L.length)):List (Int × Int):=l.flatMap fun p=>if ov (mm L p.1.1) (mm L p.2.1).ax (mm L p.2.1).ay 1280 then [((p.1.1:Int),(p.2.1:Int))]else []
theorem RL(L:List Mv)(l:List (Fin L.length × Fin L.length))(a b:Fin L.length):met L (l ++ [(a,b)])=met L l ++ (if ov (mm L a.1) (mm L b.1).ax (mm L b.1).ay 1280 then [((a.1:Int),(b.1:Int))]else []):=by simp[met]
theorem Fc(L:List Mv)(l k:List (Fin L.length × Fin L.length)):met L (l ++ k)=met L l ++ met L k:=by simp[met]
theorem RM(L:List Mv)(l:List (Fin L.length × Fin L.length)):(met L l).length<=l.length:=by
 induction l with
 | nil=>simp[met]
 | cons p l ih =>
  have e:met L (p :: l)=(if ov (mm L p.1.1) (mm L p.2.1).ax (mm L p.2.1).ay 1280 then [((p.1.1:Int),(p.2.1:Int))]else []) ++ met L l:=by simp[met]
  rw[e,List.length_append,List.length_cons];split<;>simp<;>omega
theorem Fd(L:List Mv)(a:Fin L.length)(ha:((mm L a.1).ou == 0)=true):∀k,k<=L.length->met L (inr a (ipl L k))=Ja.rowB L a.1 k
 | 0,_=>by simp[ipl,inr,met,Ja.rowB]
 | k+1,h=>by
  have ih:=Fd L a ha k (by omega);rw[Ja.rowB,<- ih];cases ho:(mm L k).ou == 0 with
  | false =>
   rw[D1 (by omega) ho];have e:two L a.1 k=false:=by unfold two;rw[ha,ho];rfl
   rw[e];simp
  | true =>
   rw[Qy (by omega) ho,D2,Fc];have e:two L a.1 k=ov (mm L a.1) (mm L k).ax (mm L k).ay 1280:=by unfold two;rw[ha,ho];rfl
   rw[e];by_cases hk:a.1<k
   ·rw[if_pos hk];simp[met,hk]
   ·rw[if_neg hk];simp[met,hk]
theorem Fe(L:List Mv){i:Nat}(ho:((mm L i).ou == 0)=false):∀k,Ja.rowB L i k=[]
 | 0=>rfl
 | k+1=>by
  rw[Ja.rowB,Fe L ho k];have e:two L i k=false:=by unfold two;rw[ho];rfl
  rw[e];simp
theorem Ff(L:List Mv):∀i,i<=L.length->met L (prs (ipl L L.length) (ipl L i))=YO L i
 | 0,_=>by simp[ipl,prs,met,YO]
 | i+1,h=>by
  have ih:=Ff L i (by omega);rw[YO,<- ih];cases ho:(mm L i).ou == 0 with
  | false=>rw[D1 (by omega) ho,Fe L ho,List.append_nil]
  | true =>
   rw[Qy (by omega) ho,Fa,Fc,Fd L ⟨i,by omega⟩ ho L.length (Nat.le_refl _)]
end Ygp
namespace Ha
open Pu Gp Ap Vp Np Za Ka Ja Ea
end Ha
section
open Go.RowKit
open Pu Gp Ap Vp Np Za Ka Ja Ea Ha
theorem Gk.cl{w:World}{g:Nat}{F:Cf}{f fr nx:Int}{a b c d e:Value}(h:Gk w g F f fr nx a b c d e):(∀z:Aft w,z.u.cell? ⟨g,0,none⟩=some (.int .i64 F.p))/\(∀z:Aft w,z.u.cell? ⟨g,1,none⟩=some (.int .u64 F.q))/\(∀z:Aft w,z.u.cell? ⟨g,2,none⟩=some (.int .i64 F.C))/\(∀z:Aft w,z.u.cell? ⟨g,3,none⟩=some (.int .i64 F.R))/\(∀z:Aft w,z.u.cell? ⟨g,4,none⟩=some (.string F.s))/\(∀z:Aft w,z.u.cell? ⟨g,5,none⟩=some F.lg)/\(∀z:Aft w,z.u.cell? ⟨g,6,none⟩=some (.int .i64 fr))/\(∀z:Aft w,z.u.cell? ⟨g,7,none⟩=some a)/\(∀z:Aft w,z.u.cell? ⟨g,8,none⟩=some b)/\(∀z:Aft w,z.u.cell? ⟨g,9,none⟩=some c)/\(∀z:Aft w,z.u.cell? ⟨g,10,none⟩=some d)/\(∀z:Aft w,z.u.cell? ⟨g,11,none⟩=some (.int .i64 nx))/\(∀z:Aft w,z.u.cell? ⟨g,12,none⟩=some e)/\(∀z:Aft w,z.u.cell? ⟨g,13,none⟩=some (.int .i64 f)):=by
 obtain⟨c0,c1,c2,c3,c4,c5,c6,c7,c8,c9,c10,c11,c12,c13,_⟩:=h.cells;exact⟨kC c0,kC c1,kC c2,kC c3,kC c4,kC c5,kC c6,kC c7,kC c8,kC c9,kC c10,kC c11,kC c12,kC c13⟩
section
variable {B:Nat} {w w':World} {g:Nat} {F:Cf} {f:Int} {G:Gm} {a b c d e:Value}
theorem Gx.putM{gm n cp i:Nat}(h:Gx B w g F f G (.slice (some ⟨gm,0,none⟩) n cp) b c d e)(hi:i<G.w.ms.length)(m:Mv):Gx B (w.setCells gm (i*KM.k) (KM.f m)) g F f ⟨{ G.w with ms:=G.w.ms.set i m },G.ns⟩ (.slice (some ⟨gm,0,none⟩) n cp) b c d e/\FrT B [59] w (w.setCells gm (i*KM.k) (KM.f m)):=by
 have hT:=OwG.setT h.o1 (ts:=[59]) (by simp) (KM.f m) (i*KM.k) w (FrT.refl _ _ _) (h.o1.ty rfl);exact⟨⟨h.hb,h.k.keepT hT (by decide),h.o1.put hi m,h.o2.keepT hT (by decide),h.o3.keepT hT (by decide),h.o4.keepT hT (by decide),h.o5.keepT hT (by decide)⟩,hT⟩
theorem Gx.putC{gm n cp i:Nat}(h:Gx B w g F f G a (.slice (some ⟨gm,0,none⟩) n cp) c d e)(hi:i<G.w.cs.length)(m:Scr):Gx B (w.setCells gm (i*KC.k) (KC.f m)) g F f ⟨{ G.w with cs:=G.w.cs.set i m },G.ns⟩ a (.slice (some ⟨gm,0,none⟩) n cp) c d e/\FrT B [67] w (w.setCells gm (i*KC.k) (KC.f m)):=by
 have hT:=OwG.setT h.o2 (ts:=[67]) (by simp) (KC.f m) (i*KC.k) w (FrT.refl _ _ _) (h.o2.ty rfl);exact⟨⟨h.hb,h.k.keepT hT (by decide),h.o1.keepT hT (by decide),h.o2.put hi m,h.o3.keepT hT (by decide),h.o4.keepT hT (by decide),h.o5.keepT hT (by decide)⟩,hT⟩
theorem Gx.frT(h:Gx B w g F f G a b c d e)(o:Nat)(v:Value):FrT B [83] w (w.setCell ⟨g,o,none⟩ v):=(FrT.refl B [83] w).set h.k.ty (by simp) h.hb v
theorem Gx.setC(h:Gx B w g F f G a b c d e)(v:Value)(L:List Sh)(hv:OwG KS 69 w B v L):Gx B (w.setCell ⟨g,9,none⟩ v) g F f ⟨{ G.w with hs:=L },G.ns⟩ a b v d e:=
 ⟨h.hb,h.k.setC v,h.o1.setO h.k.ty (by decide) _,h.o2.setO h.k.ty (by decide) _,hv.setO h.k.ty (by decide) _,h.o4.setO h.k.ty (by decide) _,h.o5.setO h.k.ty (by decide) _⟩
theorem Gx.setD(h:Gx B w g F f G a b c d e)(v:Value)(L:List Pk)(hv:OwG KQ 71 w B v L):Gx B (w.setCell ⟨g,10,none⟩ v) g F f ⟨{ G.w with ks:=L },G.ns⟩ a b c v e:=
 ⟨h.hb,h.k.setD v,h.o1.setO h.k.ty (by decide) _,h.o2.setO h.k.ty (by decide) _,h.o3.setO h.k.ty (by decide) _,hv.setO h.k.ty (by decide) _,h.o5.setO h.k.ty (by decide) _⟩
theorem Gx.setX(h:Gx B w g F f G a b c d e)(v:Int):Gx B (w.setCell ⟨g,11,none⟩ (.int .i64 v)) g F f ⟨{ G.w with nx:=v },G.ns⟩ a b c d e:=
 ⟨h.hb,h.k.setX v,h.o1.setO h.k.ty (by decide) _,h.o2.setO h.k.ty (by decide) _,h.o3.setO h.k.ty (by decide) _,h.o4.setO h.k.ty (by decide) _,h.o5.setO h.k.ty (by decide) _⟩
theorem Gx.setF(h:Gx B w g F f G a b c d e)(v:Int):Gx B (w.setCell ⟨g,6,none⟩ (.int .i64 v)) g F f ⟨{ G.w with fr:=v },G.ns⟩ a b c d e:=
 ⟨h.hb,h.k.setF v,h.o1.setO h.k.ty (by decide) _,h.o2.setO h.k.ty (by decide) _,h.o3.setO h.k.ty (by decide) _,h.o4.setO h.k.ty (by decide) _,h.o5.setO h.k.ty (by decide) _⟩
theorem RN{B o n:Nat}{L:List Cm}(h:RdG KX w (some ⟨B,o,none⟩) n L){i:Nat}(hi:i<n){x:Cm}(hx:cm L i=x):(∀z:Aft w,z.u.cell? ⟨B,o+i*7,none⟩=some (.int .i64 x.fr))/\(∀z:Aft w,z.u.cell? ⟨B,o+i*7+1,none⟩=some (.int .i64 x.pe))/\(∀z:Aft w,z.u.cell? ⟨B,o+i*7+2,none⟩=some (.int .i64 x.sq))/\(∀z:Aft w,z.u.cell? ⟨B,o+i*7+3,none⟩=some (.int .i64 x.v))/\(∀z:Aft w,z.u.cell? ⟨B,o+i*7+4,none⟩=some (.int .i64 x.a))/\(∀z:Aft w,z.u.cell? ⟨B,o+i*7+5,none⟩=some (.int .i64 x.b))/\(∀z:Aft w,z.u.cell? ⟨B,o+i*7+6,none⟩=some (.int .i64 x.c)):=by
 subst hx;obtain⟨c0,c1,c2,c3,c4,c5,c6⟩:=rdX h hi;exact⟨kC c0,kC c1,kC c2,kC c3,kC c4,kC c5,kC c6⟩
end
end
section
open Go.RowKit
open Pu Gp Ap Vp Np Za Ka Ja Ea Ha Hi
def Ul(W:Wd)(i:Nat):Prop:=Yw (mm W.ms i)=true/\YZ (sc W.cs i)=0
theorem chkC_zero{s:Scr}:YZ s=0 ↔ Ym s:=⟨fun h=>Classical.byContradiction fun hc=>(by rw[UR hc]at h;cases h),Ue⟩
theorem RO{P:Nat}{W:Wd}:Seats P W ↔ (W.ms.length=P/\W.cs.length=P)/\∀i,i<P->Ul W i:=by
 unfold Seats Ul;constructor
 ·rintro⟨h1,h2,h3,h4⟩;exact⟨⟨h1,h3⟩,fun i hi=>⟨mayB_iff.2 (h2 i hi),chkC_zero.2 (h4 i hi)⟩⟩
 ·rintro⟨⟨h1,h3⟩,h⟩;exact⟨h1,fun i hi=>mayB_iff.1 (h i hi).1,h3,fun i hi=>chkC_zero.1 (h i hi).2⟩
def RP(P:Nat)(W:Wd)(v:Value):Prop:=∃b:Bool,v=.bool b/\(b=true ↔ Seats P W)
theorem RQ(F:Cf)(P:Nat)(hp:F.p=(P:Int))(hP6:P<=6)(W:Wd)(v:Value)(w:World)(hv:RdW w v W) :
  Calls Tryz.prog 61 #[cfv F,v] w fun e w'=>∃r,e=.returned r/\RP P W r/\Yc w w':=by
 obtain⟨a,b,c,d,rfl,⟨ma,mc,rfl,hmc,_,hm⟩,⟨ca,cc,rfl,hcc,_,hc⟩,⟨sa,sc',rfl,_,_,_⟩,⟨ka,kc,rfl,_,_,_⟩⟩:=hv;have A0:=sA w (.cells (cfc F) 27);have A1:=sA (Vm w F) (.cells (Yf W.fr W.nx (.slice ma W.ms.length mc) (.slice ca W.cs.length cc) (.slice sa W.hs.length sc') (.slice ka W.ks.length kc)) 33);have HP0:=hid ((Xp w F).sT A1);have q0:=Zw (Vm w F) W.fr W.nx (.slice ma W.ms.length mc) (.slice ca W.cs.length cc) (.slice sa W.hs.length sc') (.slice ka W.ks.length kc);simp only[size_alloc]at q0;have HQ0:=hid q0;have HA:=hid (A0.trans A1);have HM:=hid (hm.sT (A0.trans A1));have HC:=hid (hc.sT (A0.trans A1));have hm47:=hm.2.1;have hc47:=hc.2.1;have HIf:=hid (RO (P:=P) (W:=W));obtain⟨N,eN⟩:∃N,W.ms.length=N:=⟨_,rfl⟩;obtain⟨M,eM⟩:∃N,W.cs.length=N:=⟨_,rfl⟩;have HEN:=hid eN;have HEM:=hid eM;rw[eN]at HP0 HQ0 HA HM HC HIf hm47⊢;rw[eM]at HP0 HQ0 HA HM HC HIf hc47⊢;have HP1:=HP0;have HM1:=HM;have HC1:=HC;have HA1:=HA;obtain⟨c0,c1,c2,c3,c4,c5,cf⟩:=HP0.o.cells;obtain⟨d0,d1,d2,d3,d4,d5,df⟩:=HQ0.o.cells;rw[hp]at c0;clear A0 A1 hm hc q0 eN eM hmc hcc;have HNP:Hid (N≠P->¬Seats P W):=hid (fun h hs=>h (HIf.o.1 hs).1.1);have HMP:Hid (M≠P->¬Seats P W):=hid (fun h hs=>h (HIf.o.1 hs).1.2);by_cases hN:N=P
 ·subst hN;by_cases hMe:M=N
  ·subst hMe;have b0:((M:Int) != (M:Int))=false:=by simp
   go_enter Tryz.func61,Tryz.ntmps61;go_wp2_with fail;clear c0 c1 c2 c3 c4 c5 cf d0 d1 d2 d3 d4 d5 df b0;go_loopw [5] (fun u wr=>∃i:Nat,i<=M/\u=.int .i64 (i:Int)/\Hid (∀j,j<i->Ul W j)/\Yc ((Vm w F).alloc (.cells (Yf W.fr W.nx (.slice ma M mc) (.slice ca M cc) (.slice sa W.hs.length sc') (.slice ka W.ks.length kc)) 33)) wr) (fun u _=>M-(intOf u).toNat);case atStart=>exact⟨0,by omega,rfl,hid (fun j hj=>by omega),Fr.refl _ _⟩
   case round =>
    obtain⟨i,hi,rfl,HJ,hs⟩:=hrel;have HS:=hid hs;obtain⟨c0,c1,c2,c3,c4,c5,cf⟩:=(HP1.o.sT hs).cells;obtain⟨d0,d1,d2,d3,d4,d5,df⟩:=(HQ0.o.sT hs).cells;rw[hp]at c0;by_cases hin:i<M
    ·have hlt:(i:Int)<(M:Int):=by omega
     have hlN:(i:Int)<(M:Int):=by omega
     have hlM:(i:Int)<(M:Int):=by omega
     have hm1:=HM1.o.sT hs;have hc1:=HC1.o.sT hs;obtain⟨B1,o1,rfl⟩:=hm1.at (by omega);obtain⟨B2,o2,rfl⟩:=hc1.at (by omega);obtain⟨m0,m1,m2,m3,m4,m5,m6,m7,m8,m9,m10,m11,m12⟩:=rdM hm1 (i:=i) (by omega);have HC2:=hid (fun u (hu:Yc wr u)=>rdC (hc1.sT hu) (i:=i) (by omega));have HQ2:=hid (fun u (hu:Yc wr u)=>((HQ0.o.sT HS.o).sT hu).cells);have HNo:=hid (show ¬Ul W i->¬Seats M W from fun h hc=>h ((HIf.o.1 hc).2 i hin));have HYes:=hid (show Ul W i->∀j,j<i+1->Ul W j from fun h j hj=>by
      by_cases e:j=i
      ·subst e;exact h
      ·exact HJ.o j (by omega))
     have HDf:Hid (Ul W i ↔ Yw (mm W.ms i)=true/\YZ (sc W.cs i)=0):=hid Iff.rfl;have HMy:=hid (fun u=>GN (mm W.ms i) u);have HCy:=hid (fun u=>Qn (sc W.cs i) u);obtain⟨x,ex⟩:∃x,mm W.ms i=x:=⟨_,rfl⟩;obtain⟨y,ey⟩:∃x,sc W.cs i=x:=⟨_,rfl⟩;rw[ex]at m0 m1 m2 m3 m4 m5 m6 m7 m8 m9 m10 m11 m12 HMy HDf;rw[ey]at HC2 HCy HDf;obtain⟨b1,eb1⟩:∃b,Yw x=b:=⟨_,rfl⟩;obtain⟨E,eE⟩:∃b,YZ y=b:=⟨_,rfl⟩;rw[eb1]at HMy HDf;rw[eE]at HCy HDf;clear ex ey eb1 eE hm1 hc1 hs;go_wp2_with fail;refine(HMy.o _).mono ?_;rintro e w2 ⟨rfl,h2⟩;clear c0 c1 c2 c3 c4 c5 cf d0 d1 d2 d3 d4 d5 df m0 m1 m2 m3 m4 m5 m6 m7 m8 m9 m10 m11 m12;obtain⟨d0,d1,d2,d3,d4,d5,df⟩:=HQ2.o w2 h2;obtain⟨y0,y1,y2,y3⟩:=HC2.o w2 h2;have HS2:=hid (HS.o.trans h2);clear h2 HMy;go_wp2_with fail;refine(HCy.o _).mono ?_;rintro e w3 ⟨rfl,h3⟩;have HS3:=hid (HS2.o.trans h3);have HSw3:=hid (HA1.o.trans HS3.o);clear h3 HS2 HCy d0 d1 d2 d3 d4 d5 df y0 y1 y2 y3 HC2 HQ2 HS;cases b1 with
     | false =>
      have HN:=hid (HNo.o (fun h=>by have:=(HDf.o.1 h).1;cases this));clear HNo HYes HDf;go_wp2_with fail
      (try rw[Exit.noGoto_ret])
      go_ret;exact⟨_,rfl,⟨false,rfl,⟨fun h=>(by cases h),fun h=>absurd h HN.o⟩⟩,HSw3.o⟩
     | true =>
      cases b2:E != 0 with
      | true =>
       have HN:=hid (HNo.o (fun h=>by have:=(HDf.o.1 h).2;simp[this]at b2));clear HNo HYes HDf;go_wp2_with fail
       (try rw[Exit.noGoto_ret])
       go_ret;exact⟨_,rfl,⟨false,rfl,⟨fun h=>(by cases h),fun h=>absurd h HN.o⟩⟩,HSw3.o⟩
      | false =>
       have HY1:=hid (HYes.o (HDf.o.2 ⟨rfl,by simpa using b2⟩));clear HNo HYes HDf;go_wp2_with fail;go_roundw;case rel=>exact⟨i+1,by omega,by go_num,HY1,HS3.o⟩
       case measure=>first|(simp[intOf];done)|(simp[intOf];omega)
    ·have hge:¬(i:Int)<(M:Int):=by omega
     have HE:Hid (Seats M W):=hid (HIf.o.2 ⟨by first|exact⟨rfl,rfl⟩|simp,fun j hj=>HJ.o j (by omega)⟩);have HSw:=hid (HA1.o.trans HS.o);clear hin hs;go_wp2_with fail;go_ret;exact⟨_,rfl,⟨true,rfl,⟨fun _=>HE.o,fun _=>rfl⟩⟩,HSw.o⟩
  ·have b1:((M:Int) != (N:Int))=true:=by simp;omega
   have HNn:=hid (HMP.o hMe);go_enter Tryz.func61,Tryz.ntmps61;go_wp2_with fail;go_ret;exact⟨_,rfl,⟨false,rfl,⟨fun h=>(by cases h),fun h=>absurd h HNn.o⟩⟩,HA1.o⟩
 ·have b0:((N:Int) != (P:Int))=true:=by simp;omega
  have HNn:=hid (HNP.o hN);go_enter Tryz.func61,Tryz.ntmps61;go_wp2_with fail;go_ret;exact⟨_,rfl,⟨false,rfl,⟨fun h=>(by cases h),fun h=>absurd h HNn.o⟩⟩,HA1.o⟩
end
section
open Go.RowKit
open Pu Gp Ap Vp Np Za Ka Ja
theorem Um(L:List Mv)(ao:Option Addr)(n cap:Nat)(w:World)(hr:RdG KM w ao n L):Ya 124 #[.slice ao n cap] w (.bool (Yt L)):=by
 have HL:=hid hr.1;have HR:=hid hr;by_cases h6:6<n
 ·have HE:Hid (Yt L=false):=hid (by
   cases e:Yt L with
   | false=>rfl
   | true=>have:=(togB_iff.1 e).1;rw[HL.o]at this;omega)
  have h6':(n:Int) > 6:=by omega
  clear hr;go_enter Tryz.func124,Tryz.ntmps124;go_wp2_with fail;go_ret;exact⟨by rw[HE.o];rfl,Fr.refl _ _⟩
 ·have h6':decide ((6:Int)<(n:Int))=false:=by simp;omega
  have hn6:n<=6:=by omega
  clear hr h6;go_enter Tryz.func124,Tryz.ntmps124;go_wp2_with fail;clear h6';go_loopw [3] (fun u wr=>∃k:Nat,k<=n/\u=.int .i64 (k:Int)/\Hid (∀i,i<k->Yw (mm L i)=true)/\Yc w wr) (fun u _=>n-(intOf u).toNat);case atStart=>exact⟨0,by omega,rfl,hid (fun i hi=>by omega),Fr.refl _ _⟩
  case round =>
   obtain⟨k,hk,rfl,HF,hs⟩:=hrel;have HS:=hid hs;clear hs;by_cases hkn:k<n
   ·have hlt:(k:Int)<(n:Int):=by omega
    obtain⟨B,o,rfl⟩:=(HR.o.sT HS.o).at (by omega);obtain⟨c0,c1,c2,c3,c4,c5,c6,c7,c8,c9,c10,c11,c12⟩:=rdM (HR.o.sT HS.o) hkn;have HM:=hid (fun w=>GN (mm L k) w);have HNo:=hid (fun h=>ED (L:=L) (i:=k) (by rw[HL.o];exact hkn) h);have HYes:=hid (show Yw (mm L k)=true->∀i,i<k+1->Yw (mm L i)=true from fun h i hi=>by
     by_cases e:i=k
     ·subst e;exact h
     ·exact HF.o i (by omega))
    obtain⟨x,ex⟩:∃x,mm L k=x:=⟨_,rfl⟩;rw[ex]at c0 c1 c2 c3 c4 c5 c6 c7 c8 c9 c10 c11 c12 HM HNo HYes;obtain⟨b,eb⟩:∃b,Yw x=b:=⟨_,rfl⟩;rw[eb]at HM HNo HYes;clear ex eb;go_wp2_with fail;refine(HM.o _).mono ?_;rintro e w2 ⟨rfl,h2⟩;have HS2:=hid (HS.o.trans h2);clear h2 HS c0 c1 c2 c3 c4 c5 c6 c7 c8 c9 c10 c11 c12 HM;cases b with
    | true =>
     have HY:=hid (HYes.o rfl);clear HYes HNo;go_wp2_with fail;go_roundw;case rel=>exact⟨k+1,by omega,by go_num,HY,HS2.o⟩
     case measure=>simp[intOf];omega
    | false =>
     have HN:=hid (HNo.o rfl);clear HYes HNo;go_wp2_with fail
     (try rw[Exit.noGoto_ret])
     go_ret;exact⟨by rw[HN.o];rfl,HS2.o⟩
   ·have hge:¬(k:Int)<(n:Int):=by omega
    have HE:Hid (Yt L=true):=hid (togB_iff.2 ⟨by rw[HL.o];exact hn6,fun i hi=>HF.o i (by have:=HL.o;omega)⟩);clear hkn hk;go_wp2_with fail;go_ret;exact⟨by rw[HE.o];rfl,HS.o⟩
theorem Qz(m:Mv)(w:World):Ya 126 #[mv m] w (bx (Ye m.ax 1280) (Ye m.ay 1280) (Yd m.ax 1280) (Yd m.ay 1280)):=by
 have A0:=sA w (.cells (mcs m) 59);have A1:=sA (XZ w m) (.cells #[.int .i64 0,.int .i64 0,.int .i64 0,.int .i64 0] 172);have p0:=(Va w m).sT A1;have q0:=Xy (XZ w m) 0 0 0 0;simp only[size_alloc]at q0;have HS0:=hid (A0.trans A1);have HA:=hid (fun w=>Gs m.ax m.ay 1280 w);rw[NQ]at HA;obtain⟨x,ex⟩:∃x,Ye m.ax 1280=x:=⟨_,rfl⟩;obtain⟨y,ey⟩:∃x,Ye m.ay 1280=x:=⟨_,rfl⟩;obtain⟨z,ez⟩:∃x,Yd m.ax 1280=x:=⟨_,rfl⟩;obtain⟨u,eu⟩:∃x,Yd m.ay 1280=x:=⟨_,rfl⟩;rw[ex,ey,ez,eu]at HA⊢;clear A0 A1 ex ey ez eu;obtain⟨c0,c1,c2,c3,c4,c5,c6,c7,c8,c9,c10,c11,c12,cf⟩:=p0.cells;go_enter Tryz.func126,Tryz.ntmps126;go_wp2_with fail;refine(HA.o _).mono ?_;rintro e w1 ⟨rfl,h1⟩;have q1:=q0.sT h1;have HS1:=hid (HS0.o.trans h1);clear h1 HS0 p0 q0 c0 c1 c2 c3 c4 c5 c6 c7 c8 c9 c10 c11 c12 cf HA;obtain⟨k0,k1,k2,k3,kf⟩:=q1.cells;go_wp2_with fail;refine bodyPost_ret ((q1.set x y z u).res rfl _ rfl) rfl ⟨rfl,?_⟩;repeat(first|refine Zv ?_ _ _ _ (by omega)|with_reducible exact HS1.o)
theorem RR(L:List Mv)(ao:Option Addr)(n cap:Nat)(w:World)(hr:RdG KM w ao n L)(ht:Yt L=true):Calls Tryz.prog 69 #[.slice ao n cap] w fun e w'=>∃v,e=.returned (.tuple #[v,.int .i64 0])/\OwG KT 126 w' w.heap.size v (YO L L.length)/\Yc w w':=by
 have HL:=hid hr.1;have HR:=hid hr;have hn6:n<=6:=by have:=(togB_iff.1 ht).1;have:=hr.1;omega
 have H:=hid (Um L ao n cap w hr);rw[ht]at H;clear hr ht;go_enter Tryz.func69,Tryz.ntmps69;go_wp2_with fail;refine H.o.mono ?_;rintro e w1 ⟨rfl,h1⟩;have HS1:=hid h1;have HZ:=hid h1.size;clear h1 H;go_wp2_with fail;go_loopw [5,6] (fun v u wr=>∃i:Nat,i<=n/\u=.int .i64 (i:Int)/\OwG KT 126 wr w1.heap.size v (YO L i)/\Yc w1 wr) (fun _ u _=>n-(intOf u).toNat);case atStart=>exact⟨0,by omega,rfl,OwG.nil _ _,Fr.refl _ _⟩
 case round =>
  obtain⟨i,hi,rfl,ho,hs⟩:=hrel;have HS2:=hid hs;have HO2:=hid ho;clear hs;obtain⟨ao2,cap2,rfl,_⟩:=ho.slice;clear ho;obtain⟨m2,em2⟩:∃m,(YO L i).length=m:=⟨_,rfl⟩;rw[em2]at HO2⊢;clear em2;by_cases hin:i<n
  ·have hlt:(i:Int)<(n:Int):=by omega
   go_wp2_with fail;go_loopw [5,7] (fun v u wr=>∃k:Nat,i<k/\k<=n/\u=.int .i64 (k:Int)/\OwG KT 126 wr w1.heap.size v (YO L i ++ Ja.rowB L i k)/\Yc w1 wr) (fun _ u _=>n-(intOf u).toNat);case atStart=>exact⟨i+1,by omega,by omega,by go_num,by rw[EE L i (i+1) (Nat.le_refl _),List.append_nil];exact HO2.o,HS2.o⟩
   case round =>
    clear HO2 HS2;obtain⟨k,hik,hk,rfl,ho,hs⟩:=hrel;have HS2:=hid hs;have HO2:=hid ho;have hzz:=hs.size;clear hs;obtain⟨ao3,cap3,rfl,_⟩:=ho.slice;clear ho;have HLn:=hid (show(YO L i ++ Ja.rowB L i k).length<=100000 by
     have h1:=GU L i;have h2:=GT L i k;have h3:=HL.o;have h4:i*L.length<=6*6:=Nat.mul_le_mul (by omega) (by omega);rw[List.length_append];omega)
    obtain⟨m3,em3⟩:∃m,(YO L i ++ Ja.rowB L i k).length=m:=⟨_,rfl⟩;rw[em3]at HO2⊢;clear em3;by_cases hkn:k<n
    ·have hlt2:(k:Int)<(n:Int):=by omega
     have HRr:=hid ((HR.o.sT HS1.o).sT HS2.o);obtain⟨B,o,rfl⟩:=HRr.o.at (by omega);obtain⟨c0,c1,c2,c3,c4,c5,c6,c7,c8,c9,c10,c11,c12⟩:=rdM HRr.o hin;obtain⟨d0,d1,d2,d3,d4,d5,d6,d7,d8,d9,d10,d11,d12⟩:=rdM HRr.o hkn;have HC:=hid (fun u (hu:Yc wr u)=>(rdM (HRr.o.sT hu) hin).2.2.2.2.2.2.2.2.2.2.2.1);have HD:=hid (fun u (hu:Yc wr u)=>(rdM (HRr.o.sT hu) hkn).2.2.2.2.2.2.2.2.2.2.2.1);have HB1:=hid (fun w=>Qz (mm L i) w);have HB2:=hid (fun w=>Qz (mm L k) w);have HT2:Hid (two L i k=(((mm L i).ou == 0) && ((mm L k).ou == 0) && ov (mm L i) (mm L k).ax (mm L k).ay 1280)):=hid rfl;have HRow:=hid (Mp L hik);obtain⟨x,ex⟩:∃x,mm L i=x:=⟨_,rfl⟩;obtain⟨y,ey⟩:∃x,mm L k=x:=⟨_,rfl⟩;rw[ex]at c0 c1 c2 c3 c4 c5 c6 c7 c8 c9 c10 c11 c12 HC HB1 HT2;rw[ey]at d0 d1 d2 d3 d4 d5 d6 d7 d8 d9 d10 d11 d12 HD HB2 HT2;clear ex ey;have HV:=hid (fun w=>WV (Ye x.ax 1280) (Ye x.ay 1280) (Yd x.ax 1280) (Yd x.ay 1280) (Ye y.ax 1280) (Ye y.ay 1280) (Yd y.ax 1280) (Yd y.ay 1280) w);obtain⟨b3,eb3⟩:∃b,ov x y.ax y.ay 1280=b:=⟨_,rfl⟩;unfold ov at eb3;rw[show ov x y.ax y.ay 1280=b3 from eb3]at HT2;rw[eb3]at HV;clear eb3;obtain⟨x1,e1⟩:∃z,Ye x.ax 1280=z:=⟨_,rfl⟩;obtain⟨x2,e2⟩:∃z,Ye x.ay 1280=z:=⟨_,rfl⟩;obtain⟨x3,e3⟩:∃z,Yd x.ax 1280=z:=⟨_,rfl⟩;obtain⟨x4,e4⟩:∃z,Yd x.ay 1280=z:=⟨_,rfl⟩;rw[e1,e2,e3,e4]at HB1 HV;clear e1 e2 e3 e4;obtain⟨y1,e1⟩:∃z,Ye y.ax 1280=z:=⟨_,rfl⟩;obtain⟨y2,e2⟩:∃z,Ye y.ay 1280=z:=⟨_,rfl⟩;obtain⟨y3,e3⟩:∃z,Yd y.ax 1280=z:=⟨_,rfl⟩;obtain⟨y4,e4⟩:∃z,Yd y.ay 1280=z:=⟨_,rfl⟩;rw[e1,e2,e3,e4]at HB2 HV;clear e1 e2 e3 e4;have k0:=kC c0;have k1:=kC c1;have k2:=kC c2;have k3:=kC c3;have k4:=kC c4;have k5:=kC c5;have k6:=kC c6;have k7:=kC c7;have k8:=kC c8;have k9:=kC c9;have k10:=kC c10;have k11:=kC c11;have k12:=kC c12;have l0:=kC d0;have l1:=kC d1;have l2:=kC d2;have l3:=kC d3;have l4:=kC d4;have l5:=kC d5;have l6:=kC d6;have l7:=kC d7;have l8:=kC d8;have l9:=kC d9;have l10:=kC d10;have l11:=kC d11;have l12:=kC d12;have hne:=Aft.here wr;clear c0 c1 c2 c3 c4 c5 c6 c7 c8 c9 c10 c11 c12 d0 d1 d2 d3 d4 d5 d6 d7 d8 d9 d10 d11 d12;go_wp2_with fail;refine Yk (by kernel_rfl) (by kernel_rfl) ?_;repeat(go_big_quiet_step ((first|(go_at_call 126;with_reducible exact Calls.cl (HB1.o _))|(go_at_call 126;with_reducible exact Calls.cl (HB2.o _))|(go_at_call 125;with_reducible exact Calls.cl (HV.o _)))))
     refine wpQuiet_nil ?_;intro w3 h3;have c:=HC.o _ h3;have d:=HD.o _ h3;have HS3:=hid (HS2.o.trans h3);have HO3:=hid (HO2.o.sT h3);have hz3:w1.heap.size<=w3.heap.size:=HS3.o.size;clear h3 hne k0 k1 k2 k3 k4 k5 k6 k7 k8 k9 k10 k11 k12 l0 l1 l2 l3 l4 l5 l6 l7 l8 l9 l10 l11 l12 HS2 HO2 HB1 HB2 HV HC HD HRr;obtain⟨p,ep⟩:∃p,x.ou=p:=⟨_,rfl⟩;obtain⟨q,eq⟩:∃p,y.ou=p:=⟨_,rfl⟩;rw[ep]at c HT2;rw[eq]at d HT2;clear ep eq;have HK0:Hid (two L i k=false->Ja.rowB L i (k+1)=Ja.rowB L i k):=hid (fun h=>by rw[HRow.o,h];simp);have HK1:Hid (two L i k=true->YO L i ++ Ja.rowB L i (k+1)=(YO L i ++ Ja.rowB L i k) ++ [((i:Int),(k:Int))]):=hid (fun h=>by rw[HRow.o,h,List.append_assoc];rfl);cases hp:p == 0 with
     | false =>
      have HK:=hid (HK0.o (by rw[HT2.o,hp];rfl));clear HK0 HK1 HT2 HRow;go_wp2_with fail;go_roundw;case rel=>exact⟨k+1,by omega,by omega,by go_num,by rw[HK.o];exact HO3.o,HS3.o⟩
      case measure=>simp[intOf];omega
     | true =>
      cases hq:q == 0 with
      | false =>
       have HK:=hid (HK0.o (by rw[HT2.o,hp,hq];rfl));clear HK0 HK1 HT2 HRow;go_wp2_with fail;go_roundw;case rel=>exact⟨k+1,by omega,by omega,by go_num,by rw[HK.o];exact HO3.o,HS3.o⟩
       case measure=>simp[intOf];omega
      | true =>
       cases b3 with
       | false =>
        have HK:=hid (HK0.o (by rw[HT2.o,hp,hq];rfl));clear HK0 HK1 HT2 HRow;go_wp2_with fail;go_roundw;case rel=>exact⟨k+1,by omega,by omega,by go_num,by rw[HK.o];exact HO3.o,HS3.o⟩
        case measure=>simp[intOf];omega
       | true =>
        have HK:=hid (HK1.o (by rw[HT2.o,hp,hq];rfl));clear HK0 HK1 HT2 HRow;have A4:=sA w3 (.cells #[.int .i64 (i:Int),.int .i64 (k:Int)] 126);have HS4:=hid (HS3.o.trans A4);have HO4:=hid (HO3.o.sT A4);have HX4:Hid ((w3.alloc (.cells #[.int .i64 (i:Int),.int .i64 (k:Int)] 126)).heap[w3.heap.size]?=some (.cells #[.int .i64 (i:Int),.int .i64 (k:Int)] 126 (0,0))):=hid (heap_alloc_new w3 _);have HB4:=hid (show w1.heap.size<=(w3.alloc (.cells #[.int .i64 (i:Int),.int .i64 (k:Int)] 126)).heap.size by rw[size_alloc];omega);clear A4;go_wp2_with (at_builtin;refine US _ rfl _ _ rfl w1.heap.size w3.heap.size _ (YO L i ++ Ja.rowB L i k) (i:Int) (k:Int) rfl rfl HO4.o HX4.o HLn.o HB4.o ?_;intro v' w' ho' hf');go_roundw;case rel=>exact⟨k+1,by omega,by omega,by go_num,by rw[HK.o];exact ho',XO HS4.o HO4.o hf' (Nat.le_refl _)⟩
        case measure=>simp[intOf];omega
    ·have hge2:¬(k:Int)<(n:Int):=by omega
     have HE:Hid (YO L i ++ Ja.rowB L i k=YO L (i+1)):=hid (by rw[YO];congr;have:=HL.o;omega);clear hkn;go_wp2_with fail;go_roundw;case rel=>exact⟨i+1,by omega,by go_num,by rw[<- HE.o];exact HO2.o,HS2.o⟩
     case measure=>simp[intOf];omega
  ·have hge:¬(i:Int)<(n:Int):=by omega
   have HE:Hid (YO L L.length=YO L i):=hid (by congr;have:=HL.o;omega);clear hin;go_wp2_with fail;go_ret2
   exact⟨_,rfl,by rw[HE.o];exact HO2.o.less HZ.o,HS1.o.trans HS2.o⟩
theorem RS(L:List Mv)(ao:Option Addr)(n cap:Nat)(w:World)(hr:RdG KM w ao n L):Calls Tryz.prog 69 #[.slice ao n cap] w fun e w'=>∃v,e=.returned (.tuple #[v,.int .i64 (Zp (Yt L))])/\OwG KT 126 w' w.heap.size v (bod L)/\Yc w w':=by
 cases ht:Yt L with
 | true =>
  have e:bod L=YO L L.length:=by unfold bod;rw[ht];rfl
  rw[e];exact RR L ao n cap w hr ht
 | false =>
  have HE:Hid (bod L=[]):=hid (by unfold bod;rw[ht];rfl);have H:=hid (Um L ao n cap w hr);rw[ht]at H;clear ht hr;go_enter Tryz.func69,Tryz.ntmps69;go_wp2_with fail;refine H.o.mono ?_;rintro e w1 ⟨rfl,h1⟩;have HS1:=hid h1;clear h1 H;go_wp2_with fail;go_ret2
  exact⟨_,rfl,by rw[HE.o];exact OwG.nil _ _,HS1.o⟩
theorem D3(S:List Sh)(ao:Option Addr)(n cap:Nat)(w:World)(hr:RdG KS w ao n S):Ya 62 #[.slice ao n cap] w (.bool (flo S)):=by
 have HL:=hid hr.1;have HR:=hid hr;by_cases h6:48<n
 ·have HE:Hid (flo S=false):=hid (KY (fun h=>by have:=h.1;rw[HL.o]at this;omega));have h6':(n:Int) > 48:=by omega
  clear hr;go_enter Tryz.func62,Tryz.ntmps62;go_wp2_with fail;go_ret;exact⟨by rw[HE.o];rfl,Fr.refl _ _⟩
 ·have h6':decide ((48:Int)<(n:Int))=false:=by simp;omega
  have hn6:n<=48:=by omega
  clear hr h6;go_enter Tryz.func62,Tryz.ntmps62;go_wp2_with fail;clear h6';go_loopw [3] (fun u wr=>∃k:Nat,k<=n/\u=.int .i64 (k:Int)/\Hid (∀i,i<k->YH (ss S i)=true/\(0<i->(ss S (i-1)).no<(ss S i).no))/\Yc w wr) (fun u _=>n-(intOf u).toNat);case atStart=>exact⟨0,by omega,rfl,hid (fun i hi=>by omega),Fr.refl _ _⟩
  case round =>
   obtain⟨k,hk,rfl,HF,hs⟩:=hrel;have HS:=hid hs;clear hs;by_cases hkn:k<n
   ·have hlt:(k:Int)<(n:Int):=by omega
    obtain⟨B,o,rfl⟩:=(HR.o.sT HS.o).at (by omega);obtain⟨s0,s1,s2,s3,s4,s5,s6,s7⟩:=rdS (HR.o.sT HS.o) hkn;have HM:=hid (fun w=>Ei (ss S k) w);have HC1:=hid (fun u (hu:Yc wr u)=>(rdS ((HR.o.sT HS.o).sT hu) hkn).1);have HC2:=hid (fun u (hu:Yc wr u) (h0:0<k)=>(rdS ((HR.o.sT HS.o).sT hu) (i:=k-1) (by omega)).1);have HNo:=hid (show ¬(YH (ss S k)=true/\(0<k->(ss S (k-1)).no<(ss S k).no))->flo S=false from fun h=>KY (fun hf=>h (hf.2 k (by rw[HL.o];exact hkn))));have HYes:=hid (show(YH (ss S k)=true/\(0<k->(ss S (k-1)).no<(ss S k).no))->∀i,i<k+1->YH (ss S i)=true/\(0<i->(ss S (i-1)).no<(ss S i).no)from fun h i hi=>by
     by_cases e:i=k
     ·subst e;exact h
     ·exact HF.o i (by omega))
    obtain⟨x,ex⟩:∃x,ss S k=x:=⟨_,rfl⟩;obtain⟨y,ey⟩:∃y,(ss S (k-1)).no=y:=⟨_,rfl⟩;rw[ex]at s0 s1 s2 s3 s4 s5 s6 s7 HM HC1 HNo HYes;rw[ey]at HC2 HNo HYes;obtain⟨b,eb⟩:∃b,YH x=b:=⟨_,rfl⟩;have HCk:Hid (YM x=if b then 0 else 90):=hid (by unfold YM;rw[eb]);rw[eb]at HNo HYes;rw[HCk.o]at HM;clear ex eb ey HCk;go_wp2_with fail;refine(HM.o _).mono ?_;rintro e w2 ⟨rfl,h2⟩;have c1:=HC1.o _ h2;have HC:=hid (HC2.o _ h2);have HS2:=hid (HS.o.trans h2);clear h2 HS s0 s1 s2 s3 s4 s5 s6 s7 HM HC1 HC2;obtain⟨z,ez⟩:∃z,x.no=z:=⟨_,rfl⟩;rw[ez]at c1 HNo HYes;clear ez;have k1:=kC c1;have hne:=Aft.here w2;have hk48:k<48:=by omega
    clear c1;cases b with
    | false =>
     have HN:=hid (HNo.o (fun h=>by cases h.1));clear HYes HNo HC;go_wp2_with fail;refine Yk (by kernel_rfl) (by kernel_rfl) ?_;repeat(go_big_quiet_step (fail))
     refine wpQuiet_nil ?_;intro w3 h3;have HS3:=hid (HS2.o.trans h3);clear h3 HS2 hne k1;go_wp2_with fail
     (try rw[Exit.noGoto_ret])
     go_ret;exact⟨by rw[HN.o];rfl,HS3.o⟩
    | true =>
     by_cases hg:0<k
     ·have hg':(0:Int)<(k:Int):=by omega
      have hg1:decide ((0:Int)<(k:Int))=true:=by simpa using hg'
      have hg2:decide (0<k)=true:=by simpa using hg
      have k2:=kC (HC.o hg);by_cases hzy:z<=y
      ·have hz2:decide (z<=y)=true:=by simpa using hzy
       have HN:=hid (HNo.o (fun h=>by have:=h.2 hg;omega));clear HYes HNo HC;go_wp2_with fail;refine Yk (by kernel_rfl) (by kernel_rfl) ?_;repeat(go_big_quiet_step (fail))
       refine wpQuiet_nil ?_;intro w3 h3;have HS3:=hid (HS2.o.trans h3);clear h3 HS2 hne k1 k2;go_wp2_with fail
       (try rw[Exit.noGoto_ret])
       go_ret;exact⟨by rw[HN.o];rfl,HS3.o⟩
      ·have hz2:decide (z<=y)=false:=by simpa using hzy
       have HY:=hid (HYes.o ⟨rfl,fun _=>by omega⟩);clear HYes HNo HC;go_wp2_with fail;refine Yk (by kernel_rfl) (by kernel_rfl) ?_;repeat(go_big_quiet_step (fail))
       refine wpQuiet_nil ?_;intro w3 h3;have HS3:=hid (HS2.o.trans h3);clear h3 HS2 hne k1 k2;go_wp2_with fail;go_roundw;case rel=>exact⟨k+1,by omega,by go_num,HY,HS3.o⟩
       case measure=>first|(simp[intOf];done)|(simp[intOf];omega)
     ·have hg':¬(0:Int)<(k:Int):=by omega
      have hg1:decide ((0:Int)<(k:Int))=false:=by simpa using hg'
      have hg2:decide (0<k)=false:=by simpa using hg
      have HY:=hid (HYes.o ⟨rfl,fun h=>absurd h hg⟩);clear HYes HNo HC;go_wp2_with fail;refine Yk (by kernel_rfl) (by kernel_rfl) ?_;repeat(go_big_quiet_step (fail))
      refine wpQuiet_nil ?_;intro w3 h3;have HS3:=hid (HS2.o.trans h3);clear h3 HS2 hne k1;go_wp2_with fail;go_roundw;case rel=>exact⟨k+1,by omega,by go_num,HY,HS3.o⟩
      case measure=>first|(simp[intOf];done)|(simp[intOf];omega)
   ·have hge:¬(k:Int)<(n:Int):=by omega
    have HE:Hid (flo S=true):=hid (flo_iff.2 ⟨by rw[HL.o];exact hn6,fun i hi=>HF.o i (by have:=HL.o;omega)⟩);clear hkn hk;go_wp2_with fail;go_ret;exact⟨by rw[HE.o];rfl,HS.o⟩
theorem RT(L:List Mv)(S:List Sh)(ao:Option Addr)(n cap:Nat)(so:Option Addr)(r scap:Nat)(w:World)(hr:RdG KM w ao n L)(hs:RdG KS w so r S)(ht:Yt L=true)(hf:flo S=true):Calls Tryz.prog 72 #[.slice ao n cap,.slice so r scap] w fun e w'=>∃v,e=.returned (.tuple #[v,.int .i64 0])/\OwG KT 126 w' w.heap.size v (Yj (fun i k=>hS L (ss S i) k) n r)/\Yc w w':=by
 have HL:=hid hr.1;have HR:=hid hr;have HRS:=hid hs;have hn6:n<=6:=by have:=(togB_iff.1 ht).1;have:=hr.1;omega
 have hr48:r<=48:=by have:=(flo_iff.1 hf).1;have:=hs.1;omega
 have H:=hid (Um L ao n cap w hr);have H2:=hid (fun u hu=>D3 S so r scap u hu);rw[ht]at H;rw[hf]at H2;clear hr ht hs hf;obtain⟨P,eP⟩:∃P,(fun i k=>hS L (ss S i) k)=P:=⟨_,rfl⟩;have HP:=hid (show ∀i k,P i k=hS L (ss S i) k from fun i k=>by rw[<- eP]);rw[eP];clear eP;go_enter Tryz.func72,Tryz.ntmps72;go_wp2_with fail;refine H.o.mono ?_;rintro e w0 ⟨rfl,h0⟩;have HS0:=hid h0;clear h0 H;go_wp2_with fail;refine(H2.o _ (HRS.o.sT HS0.o)).mono ?_;rintro e w1 ⟨rfl,h1⟩;have HS1:=hid (HS0.o.trans h1);have HZ:=hid HS1.o.size;clear h1 H2 HS0;go_wp2_with fail;go_loopw [8,9] (fun v u wr=>∃i:Nat,i<=r/\u=.int .i64 (i:Int)/\OwG KT 126 wr w1.heap.size v (Yj P n i)/\Yc w1 wr) (fun _ u _=>r-(intOf u).toNat);case atStart=>exact⟨0,by omega,rfl,OwG.nil _ _,Fr.refl _ _⟩
 case round =>
  obtain⟨i,hi,rfl,ho,hs⟩:=hrel;have HS2:=hid hs;have HO2:=hid ho;clear hs;obtain⟨ao2,cap2,rfl,_⟩:=ho.slice;clear ho;have HLn:=hid (show(Yj P n i).length<=100000 by have:=Ud P n i;omega);obtain⟨m2,em2⟩:∃m,(Yj P n i).length=m:=⟨_,rfl⟩;rw[em2]at HO2⊢;clear em2;by_cases hin:i<r
  ·have hlt:(i:Int)<(r:Int):=by omega
   have HRow:Hid (Yj P n (i+1)=Yj P n i ++ (if 0<=lo (P i) 0 n then [((i:Int),lo (P i) 0 n)]else [])):=hid rfl;go_wp2_with fail;go_loopw [10,11] (fun v u wr=>∃j:Nat,j<=n/\v=.int .i64 (lo (P i) j (n-j))/\u=.int .i64 ((j:Int)-1)/\OwG KT 126 wr w1.heap.size (.slice ao2 m2 cap2) (Yj P n i)/\Yc w1 wr) (fun _ u _=>(intOf u+1).toNat);case atStart=>exact⟨n,Nat.le_refl _,by rw[Nat.sub_self];rfl,by go_num,HO2.o,HS2.o⟩
   case round =>
    clear HO2 HS2;obtain⟨j,hj,rfl,rfl,ho,hs⟩:=hrel;have HS2:=hid hs;have HO2:=hid ho;clear hs ho;by_cases hj0:0<j
    ·obtain⟨k,rfl⟩:∃k,j=k+1:=⟨j-1,by omega⟩;rw[show((k+1:Nat):Int)-1=(k:Int) by omega];have hkn:k<n:=by omega
     have hlt2:(k:Int)<(n:Int):=by omega
     have HLo:=hid (EI (P i) hkn);obtain⟨at0,eat⟩:∃z,lo (P i) (k+1) (n-(k+1))=z:=⟨_,rfl⟩;rw[eat]at HLo⊢;clear eat;have HRr:=hid ((HR.o.sT HS1.o).sT HS2.o);have HRs:=hid ((HRS.o.sT HS1.o).sT HS2.o);obtain⟨B,o,rfl⟩:=HRr.o.at (by omega);obtain⟨B2,o2,rfl⟩:=HRs.o.at (by omega);obtain⟨c0,c1,c2,c3,c4,c5,c6,c7,c8,c9,c10,c11,c12⟩:=rdM HRr.o hkn;obtain⟨s0,s1,s2,s3,s4,s5,s6,s7⟩:=rdS HRs.o hin;have HC:=hid (fun u (hu:Yc wr u)=>(rdM (HRr.o.sT hu) hkn).2.2.2.2.2.2.2.2.2.2.2.1);have HD:=hid (fun u (hu:Yc wr u)=>(rdS (HRs.o.sT hu) hin).2.1);have HB1:=hid (fun w=>Qz (mm L k) w);have HT2:Hid (P i k=(((mm L k).ou == 0) && !((k:Int) == (ss S i).ow) && inn (mm L k) (ss S i).ax (ss S i).ay)):=hid (HP.o i k);obtain⟨x,ex⟩:∃x,mm L k=x:=⟨_,rfl⟩;obtain⟨y,ey⟩:∃x,ss S i=x:=⟨_,rfl⟩;rw[ex]at c0 c1 c2 c3 c4 c5 c6 c7 c8 c9 c10 c11 c12 HC HB1 HT2;rw[ey]at s0 s1 s2 s3 s4 s5 s6 s7 HD HT2;clear ex ey;have HV:=hid (fun w=>AR (Ye x.ax 1280) (Ye x.ay 1280) (Yd x.ax 1280) (Yd x.ay 1280) y.ax y.ay w);obtain⟨b3,eb3⟩:∃b,inn x y.ax y.ay=b:=⟨_,rfl⟩;unfold inn at eb3;rw[show inn x y.ax y.ay=b3 from eb3]at HT2;rw[eb3]at HV;clear eb3;obtain⟨x1,e1⟩:∃z,Ye x.ax 1280=z:=⟨_,rfl⟩;obtain⟨x2,e2⟩:∃z,Ye x.ay 1280=z:=⟨_,rfl⟩;obtain⟨x3,e3⟩:∃z,Yd x.ax 1280=z:=⟨_,rfl⟩;obtain⟨x4,e4⟩:∃z,Yd x.ay 1280=z:=⟨_,rfl⟩;rw[e1,e2,e3,e4]at HB1 HV;clear e1 e2 e3 e4;have k0:=kC c0;have k1:=kC c1;have k2:=kC c2;have k3:=kC c3;have k4:=kC c4;have k5:=kC c5;have k6:=kC c6;have k7:=kC c7;have k8:=kC c8;have k9:=kC c9;have k10:=kC c10;have k11:=kC c11;have k12:=kC c12;have l3:=kC s3;have l4:=kC s4;have hne:=Aft.here wr;clear c0 c1 c2 c3 c4 c5 c6 c7 c8 c9 c10 c11 c12 s0 s1 s2 s3 s4 s5 s6 s7;go_wp2_with fail;refine Yk (by kernel_rfl) (by kernel_rfl) ?_;repeat(go_big_quiet_step ((first|(go_at_call 126;with_reducible exact Calls.cl (HB1.o _))|(go_at_call 128;with_reducible exact Calls.cl (HV.o _)))))
     refine wpQuiet_nil ?_;intro w3 h3;have c:=HC.o _ h3;have d:=HD.o _ h3;have HS3:=hid (HS2.o.trans h3);have HO3:=hid (HO2.o.sT h3);clear h3 hne k0 k1 k2 k3 k4 k5 k6 k7 k8 k9 k10 k11 k12 l3 l4 HS2 HO2 HB1 HV HC HD HRr HRs;obtain⟨p,ep⟩:∃p,x.ou=p:=⟨_,rfl⟩;obtain⟨q,eq⟩:∃p,y.ow=p:=⟨_,rfl⟩;rw[ep]at c HT2;rw[eq]at d HT2;clear ep eq;have HK0:Hid (P i k=false->lo (P i) k (n-k)=at0):=hid (fun h=>by rw[HLo.o,h];rfl);have HK1:Hid (P i k=true->lo (P i) k (n-k)=(k:Int)):=hid (fun h=>by rw[HLo.o,h];rfl);cases hp:p == 0 with
     | false =>
      have HK:=hid (HK0.o (by rw[HT2.o,hp];rfl));clear HK0 HK1 HT2 HLo;go_wp2_with fail;go_roundw;case rel=>exact⟨k,by omega,by rw[HK.o],by go_num,HO3.o,HS3.o⟩
      case measure=>first|(simp[intOf];done)|(simp[intOf];omega)
     | true =>
      cases hq:(k:Int) == q with
      | true =>
       have HK:=hid (HK0.o (by rw[HT2.o,hp,hq];rfl));have hq2:((k:Int) != q)=false:=by simpa using hq
       clear HK0 HK1 HT2 HLo;go_wp2_with fail;go_roundw;case rel=>exact⟨k,by omega,by rw[HK.o],by go_num,HO3.o,HS3.o⟩
       case measure=>first|(simp[intOf];done)|(simp[intOf];omega)
      | false =>
       have hq2:((k:Int) != q)=true:=by simpa using hq
       cases b3 with
       | false =>
        have HK:=hid (HK0.o (by rw[HT2.o,hp,hq];rfl));clear HK0 HK1 HT2 HLo;go_wp2_with fail;go_roundw;case rel=>exact⟨k,by omega,by rw[HK.o],by go_num,HO3.o,HS3.o⟩
        case measure=>first|(simp[intOf];done)|(simp[intOf];omega)
       | true =>
        have HK:=hid (HK1.o (by rw[HT2.o,hp,hq];rfl));clear HK0 HK1 HT2 HLo;go_wp2_with fail;go_roundw;case rel=>exact⟨k,by omega,by rw[HK.o],by go_num,HO3.o,HS3.o⟩
        case measure=>first|(simp[intOf];done)|(simp[intOf];omega)
    ·obtain rfl:j=0:=by omega
     rw[show((0:Nat):Int)-1=-1 by omega,Nat.sub_zero];obtain⟨z,ez⟩:∃z,lo (P i) 0 n=z:=⟨_,rfl⟩;rw[ez]at HRow⊢;clear ez hj0;have hz3:w1.heap.size<=wr.heap.size:=HS2.o.size;by_cases hz0:0<=z
     ·have hz1:z ≥ 0:=hz0;have HK:Hid (Yj P n (i+1)=Yj P n i ++ [((i:Int),z)]):=hid (by rw[HRow.o,if_pos hz0]);have A4:=sA wr (.cells #[.int .i64 (i:Int),.int .i64 z] 126);have HS4:=hid (HS2.o.trans A4);have HO4:=hid (HO2.o.sT A4);have HX4:Hid ((wr.alloc (.cells #[.int .i64 (i:Int),.int .i64 z] 126)).heap[wr.heap.size]?=some (.cells #[.int .i64 (i:Int),.int .i64 z] 126 (0,0))):=hid (heap_alloc_new wr _);have HB4:=hid (show w1.heap.size<=(wr.alloc (.cells #[.int .i64 (i:Int),.int .i64 z] 126)).heap.size by rw[size_alloc];omega);clear A4 HRow;go_wp2_with (at_builtin;refine US _ rfl _ _ rfl w1.heap.size wr.heap.size _ (Yj P n i) (i:Int) z rfl rfl HO4.o HX4.o HLn.o HB4.o ?_;intro v' w' ho' hf');go_roundw;case rel=>exact⟨i+1,by omega,by go_num,by rw[HK.o];exact ho',XO HS4.o HO4.o hf' (Nat.le_refl _)⟩
      case measure=>first|(simp[intOf];done)|(simp[intOf];omega)
     ·have hz1:¬z ≥ 0:=hz0;have HK:Hid (Yj P n (i+1)=Yj P n i):=hid (by rw[HRow.o,if_neg hz0,List.append_nil]);clear HRow;go_wp2_with fail;go_roundw;case rel=>exact⟨i+1,by omega,by go_num,by rw[HK.o];exact HO2.o,HS2.o⟩
      case measure=>first|(simp[intOf];done)|(simp[intOf];omega)
  ·have hge:¬(i:Int)<(r:Int):=by omega
   have HE:Hid (Yj P n r=Yj P n i):=hid (by congr;omega);clear hin;go_wp2_with fail;go_ret2
   exact⟨_,rfl,by rw[HE.o];exact HO2.o.less HZ.o,HS1.o.trans HS2.o⟩
theorem RU(L:List Mv)(S:List Sh)(ao:Option Addr)(n cap:Nat)(so:Option Addr)(r scap:Nat)(w:World)(hr:RdG KM w ao n L)(hs:RdG KS w so r S):Calls Tryz.prog 72 #[.slice ao n cap,.slice so r scap] w fun e w'=>∃v,e=.returned (.tuple #[v,.int .i64 (Zp (XK L S))])/\OwG KT 126 w' w.heap.size v (sho L S)/\Yc w w':=by
 cases he:XK L S with
 | true =>
  have h:=he;unfold XK at h;rw[Bool.and_eq_true]at h;have e:sho L S=Yj (fun i k=>hS L (ss S i) k) n r:=by unfold sho;rw[he,hr.1,hs.1];rfl
  rw[e];exact RT L S ao n cap so r scap w hr hs h.1 h.2
 | false =>
  have HE:Hid (sho L S=[]):=hid (by unfold sho;rw[he];rfl);have H:=hid (Um L ao n cap w hr);have H2:=hid (fun u hu=>D3 S so r scap u hu);have HRS:=hid hs;have HB:Hid ((Yt L && flo S)=false):=hid he;obtain⟨a,ea⟩:∃b,Yt L=b:=⟨_,rfl⟩;obtain⟨b,eb⟩:∃b,flo S=b:=⟨_,rfl⟩;rw[ea]at H HB;rw[eb]at H2 HB;clear he hr hs ea eb;go_enter Tryz.func72,Tryz.ntmps72;go_wp2_with fail;refine H.o.mono ?_;rintro e w1 ⟨rfl,h1⟩;have HS1:=hid h1;clear h1 H;go_wp2_with fail;refine(H2.o _ (HRS.o.sT HS1.o)).mono ?_;rintro e w2 ⟨rfl,h2⟩;have HS2:=hid (HS1.o.trans h2);clear h2 H2 HS1;cases a with
  | false =>
   go_wp2_with fail;go_ret2
   exact⟨_,rfl,by rw[HE.o];exact OwG.nil _ _,HS2.o⟩
  | true =>
   cases b with
   | true=>exact absurd HB.o (by decide)
   | false =>
    go_wp2_with fail;go_ret2
    exact⟨_,rfl,by rw[HE.o];exact OwG.nil _ _,HS2.o⟩
end
section
open Go.RowKit
open Pu Gp Np Ka
def VH(L:List Pk)(s:Int)(k:Nat):Bool:=decide ((pk L k).no<1) || decide (1099511627776<(pk L k).no) || (decide (0<k) && decide ((pk L k).no<=(pk L (k-1)).no)) || decide ((pk L k).sp<0) || decide (s<=(pk L k).sp) || decide ((pk L k).kd<1) || decide (3<(pk L k).kd)
theorem RV{L:List Pk}{s:Int}{k:Nat}(h:VH L s k=false)(hs:∀q,q<k->(pk L q).sp≠(pk L k).sp):Fit L s k:=by
 unfold VH at h;simp only[Bool.or_eq_false_iff,Bool.and_eq_false_iff,decide_eq_false_iff_not]at h;exact⟨by omega,fun h0=>by omega,by omega,by omega,hs⟩
theorem RW{L:List Pk}{s:Int}{k:Nat}(h:VH L s k=true):¬Fit L s k:=by
 rintro⟨h1,h2,h3,h4,_⟩;unfold VH at h;simp only[Bool.or_eq_true,Bool.and_eq_true,decide_eq_true_eq]at h;have:=h2;omega
theorem RdK.get{w:World}{B o n:Nat}{L:List Pk}(h:RdK w (some ⟨B,o,none⟩) n L){i:Nat}(hi:i<n):w.cell? ⟨B,o+i*3,none⟩=some (.int .i64 (pk L i).no)/\w.cell? ⟨B,o+i*3+1,none⟩=some (.int .i64 (pk L i).sp)/\w.cell? ⟨B,o+i*3+2,none⟩=some (.int .i64 (pk L i).kd):=by
 obtain⟨B',o',e,hc⟩:=h.at (by omega);cases e;exact hc i hi
theorem RX(a p sp kd s:Int)(k:Nat)(r:Bool)(hr:(decide (a<1) || decide (1099511627776<a) || (decide (0<k) && decide (a<=p)) || decide (sp<0) || decide (s<=sp) || decide (kd<1) || decide (3<kd))=r) :
  ((a<1)/\decide (a<1)=true/\r=true) \/
  ((¬a<1)/\decide (a<1)=false/\(1099511627776<a)/\decide (1099511627776<a)=true/\r=true) \/
  ((¬a<1)/\decide (a<1)=false/\(¬1099511627776<a)/\decide (1099511627776<a)=false/\(0:Int)<(k:Int)/\decide ((0:Int)<(k:Int))=true/\decide (0<k)=true/\(a<=p)/\decide (a<=p)=true/\r=true) \/
  ((¬a<1)/\decide (a<1)=false/\(¬1099511627776<a)/\decide (1099511627776<a)=false/\(0:Int)<(k:Int)/\decide ((0:Int)<(k:Int))=true/\decide (0<k)=true/\(¬a<=p)/\decide (a<=p)=false/\(sp<0)/\decide (sp<0)=true/\r=true) \/
  ((¬a<1)/\decide (a<1)=false/\(¬1099511627776<a)/\decide (1099511627776<a)=false/\(0:Int)<(k:Int)/\decide ((0:Int)<(k:Int))=true/\decide (0<k)=true/\(¬a<=p)/\decide (a<=p)=false/\(¬sp<0)/\decide (sp<0)=false/\(s<=sp)/\decide (s<=sp)=true/\r=true) \/
  ((¬a<1)/\decide (a<1)=false/\(¬1099511627776<a)/\decide (1099511627776<a)=false/\(0:Int)<(k:Int)/\decide ((0:Int)<(k:Int))=true/\decide (0<k)=true/\(¬a<=p)/\decide (a<=p)=false/\(¬sp<0)/\decide (sp<0)=false/\(¬s<=sp)/\decide (s<=sp)=false/\(kd<1)/\decide (kd<1)=true/\r=true) \/
  ((¬a<1)/\decide (a<1)=false/\(¬1099511627776<a)/\decide (1099511627776<a)=false/\(0:Int)<(k:Int)/\decide ((0:Int)<(k:Int))=true/\decide (0<k)=true/\(¬a<=p)/\decide (a<=p)=false/\(¬sp<0)/\decide (sp<0)=false/\(¬s<=sp)/\decide (s<=sp)=false/\(¬kd<1)/\decide (kd<1)=false/\(3<kd)/\decide (3<kd)=true/\r=true) \/
  ((¬a<1)/\decide (a<1)=false/\(¬1099511627776<a)/\decide (1099511627776<a)=false/\(0:Int)<(k:Int)/\decide ((0:Int)<(k:Int))=true/\decide (0<k)=true/\(¬a<=p)/\decide (a<=p)=false/\(¬sp<0)/\decide (sp<0)=false/\(¬s<=sp)/\decide (s<=sp)=false/\(¬kd<1)/\decide (kd<1)=false/\(¬3<kd)/\decide (3<kd)=false/\r=false) \/
  ((¬a<1)/\decide (a<1)=false/\(¬1099511627776<a)/\decide (1099511627776<a)=false/\(¬(0:Int)<(k:Int))/\decide ((0:Int)<(k:Int))=false/\decide (0<k)=false/\(sp<0)/\decide (sp<0)=true/\r=true) \/
  ((¬a<1)/\decide (a<1)=false/\(¬1099511627776<a)/\decide (1099511627776<a)=false/\(¬(0:Int)<(k:Int))/\decide ((0:Int)<(k:Int))=false/\decide (0<k)=false/\(¬sp<0)/\decide (sp<0)=false/\(s<=sp)/\decide (s<=sp)=true/\r=true) \/
  ((¬a<1)/\decide (a<1)=false/\(¬1099511627776<a)/\decide (1099511627776<a)=false/\(¬(0:Int)<(k:Int))/\decide ((0:Int)<(k:Int))=false/\decide (0<k)=false/\(¬sp<0)/\decide (sp<0)=false/\(¬s<=sp)/\decide (s<=sp)=false/\(kd<1)/\decide (kd<1)=true/\r=true) \/
  ((¬a<1)/\decide (a<1)=false/\(¬1099511627776<a)/\decide (1099511627776<a)=false/\(¬(0:Int)<(k:Int))/\decide ((0:Int)<(k:Int))=false/\decide (0<k)=false/\(¬sp<0)/\decide (sp<0)=false/\(¬s<=sp)/\decide (s<=sp)=false/\(¬kd<1)/\decide (kd<1)=false/\(3<kd)/\decide (3<kd)=true/\r=true) \/
  ((¬a<1)/\decide (a<1)=false/\(¬1099511627776<a)/\decide (1099511627776<a)=false/\(¬(0:Int)<(k:Int))/\decide ((0:Int)<(k:Int))=false/\decide (0<k)=false/\(¬sp<0)/\decide (sp<0)=false/\(¬s<=sp)/\decide (s<=sp)=false/\(¬kd<1)/\decide (kd<1)=false/\(¬3<kd)/\decide (3<kd)=false/\r=false):=by
 have e:decide ((0:Int)<(k:Int))=decide (0<k):=by simp
 rw[e];by_cases h1:a<1
 ·simp[h1]at hr;exact .inl ⟨h1,by simp[h1],hr⟩
 right
 by_cases h2:1099511627776<a
 ·simp[h2]at hr;exact .inl ⟨h1,by simp[h1],h2,by simp[h2],hr⟩
 right
 by_cases hg:0<k
 ·have hg':(0:Int)<(k:Int):=by omega
  by_cases h3:a<=p
  ·simp[hg,h3]at hr;exact .inl ⟨h1,by simp[h1],h2,by simp[h2],hg',by simp[hg],by simp[hg],h3,by simp[h3],hr⟩
  right
  by_cases h4:sp<0
  ·simp[h4]at hr;exact .inl ⟨h1,by simp[h1],h2,by simp[h2],hg',by simp[hg],by simp[hg],h3,by simp[h3],h4,by simp[h4],hr⟩
  right
  by_cases h5:s<=sp
  ·simp[h5]at hr;exact .inl ⟨h1,by simp[h1],h2,by simp[h2],hg',by simp[hg],by simp[hg],h3,by simp[h3],h4,by simp[h4],h5,by simp[h5],hr⟩
  right
  by_cases h6:kd<1
  ·simp[h6]at hr;exact .inl ⟨h1,by simp[h1],h2,by simp[h2],hg',by simp[hg],by simp[hg],h3,by simp[h3],h4,by simp[h4],h5,by simp[h5],h6,by simp[h6],hr⟩
  right
  by_cases h7:3<kd
  ·simp[h7]at hr;exact .inl ⟨h1,by simp[h1],h2,by simp[h2],hg',by simp[hg],by simp[hg],h3,by simp[h3],h4,by simp[h4],h5,by simp[h5],h6,by simp[h6],h7,by simp[h7],hr⟩
  right
  simp only[h1,h2,h3,h4,h5,h6,h7,decide_false,Bool.or_false,Bool.and_false]at hr;exact .inl ⟨h1,by simp[h1],h2,by simp[h2],hg',by simp[hg],by simp[hg],h3,by simp[h3],h4,by simp[h4],h5,by simp[h5],h6,by simp[h6],h7,by simp[h7],hr.symm⟩
 ·have hg':¬(0:Int)<(k:Int):=by omega
  right;right;right;right;right;right
  by_cases h4:sp<0
  ·simp[h4]at hr;exact .inl ⟨h1,by simp[h1],h2,by simp[h2],hg',by simp[hg],by simp[hg],h4,by simp[h4],hr⟩
  right
  by_cases h5:s<=sp
  ·simp[h5]at hr;exact .inl ⟨h1,by simp[h1],h2,by simp[h2],hg',by simp[hg],by simp[hg],h4,by simp[h4],h5,by simp[h5],hr⟩
  right
  by_cases h6:kd<1
  ·simp[h6]at hr;exact .inl ⟨h1,by simp[h1],h2,by simp[h2],hg',by simp[hg],by simp[hg],h4,by simp[h4],h5,by simp[h5],h6,by simp[h6],hr⟩
  right
  by_cases h7:3<kd
  ·simp[h7]at hr;exact .inl ⟨h1,by simp[h1],h2,by simp[h2],hg',by simp[hg],by simp[hg],h4,by simp[h4],h5,by simp[h5],h6,by simp[h6],h7,by simp[h7],hr⟩
  right
  simp only[h1,h2,hg,h4,h5,h6,h7,decide_false,Bool.or_false,Bool.false_and]at hr;exact⟨h1,by simp[h1],h2,by simp[h2],hg',by simp[hg],by simp[hg],h4,by simp[h4],h5,by simp[h5],h6,by simp[h6],h7,by simp[h7],hr.symm⟩
theorem RY(L:List Pk)(s:Int)(ao:Option Addr)(n cap:Nat)(w:World)(hr:RdK w ao n L)(h0:¬s<0)(h1:decide (16<s)=false)(h8:decide ((8:Int)<(n:Int))=false):Ya 63 #[.slice ao n cap,.int .i64 s] w (.int .i64 (Y5 L s)):=by
 have HN:=hid (show(0<=s/\s<=16)/\n<=8 by simp at h1 h8;omega);have HL:=hid hr.1;go_enter Tryz.func63,Tryz.ntmps63;go_wp2_with fail;clear h0 h1 h8;go_loopw [5] (fun u wr=>∃k:Nat,k<=n/\u=.int .i64 (k:Int)/\Hid (∀i,i<k->Fit L s i)/\Yc w wr) (fun u _=>n-(intOf u).toNat);case atStart=>exact⟨0,by omega,rfl,hid (fun i hi=>by omega),Fr.refl _ _⟩
 case round =>
  obtain⟨k,hk,rfl,HF,hs⟩:=hrel;by_cases hkn:k<n
  ·have hlt:(k:Int)<(n:Int):=by omega
   obtain⟨B,o,rfl,hc⟩:=(hr.sT hs).at (by omega);have HC:=hid hc;obtain⟨c0,c1,c2⟩:=hc k hkn;have HS1:=hid (hs.trans (sA wr (.cells (kcs (pk L k)) 71)));have q0:=Xn wr (pk L k);have A0:=sA wr (.cells (kcs (pk L k)) 71);have on:∀{p:Addr} {x:Value},wr.cell? p=some x->(Di wr (pk L k)).cell? p=some x:=fun hp=>(A0.cell (World.block_lt_of_cell? wr _ hp) (fun e=>e)).trans hp;have f0:0<k->(Di wr (pk L k)).cell? ⟨B,o+(k-1)*3,none⟩=some (.int .i64 (pk L (k-1)).no):=fun h=>on (hc (k-1) (by omega)).1;have HR0:=hid hr;have hcs:=RX (pk L k).no (pk L (k-1)).no (pk L k).sp (pk L k).kd s k (VH L s k) rfl;have HBad:=hid (show VH L s k=true->Y5 L s=100 from fun h=>Vd (fun hm=>RW h (hm.2.2 k (by rw[HL.o];exact hkn))));have HGood:=hid (show VH L s k=false->∀q,q<k->(pk L q).sp=(pk L k).sp->Y5 L s=100 from fun _ q hq he=>Vd (fun hm=>(hm.2.2 k (by rw[HL.o];exact hkn)).2.2.2.2 q hq he));have HFit:=hid (fun h hq=>RV (L:=L) (s:=s) (k:=k) h hq);obtain⟨W,eW⟩:∃W,wr.alloc (.cells (kcs (pk L k)) 71)=W:=⟨_,rfl⟩;obtain⟨g,eg⟩:∃g,wr.heap.size=g:=⟨_,rfl⟩;have q1:Kb W g (pk L k):=by rw[<- eW,<- eg];exact q0
   have f1:0<k->W.cell? ⟨B,o+(k-1)*3,none⟩=some (.int .i64 (pk L (k-1)).no):=by rw[<- eW];exact f0
   rw[eW]at HS1;clear on f0 q0 hr hs hc A0 HC;obtain⟨x,ex⟩:∃x,pk L k=x:=⟨_,rfl⟩;obtain⟨pv,ep⟩:∃x,(pk L (k-1)).no=x:=⟨_,rfl⟩;obtain⟨bad,eb⟩:∃b,VH L s k=b:=⟨_,rfl⟩;have HX:=hid ex;rw[ex]at c0 c1 c2 q1 hcs eW HGood;rw[ep]at hcs f1;rw[eb]at hcs HBad HGood HFit;clear ex ep eb;go_upto_region 7 with fail;clear eW eg;obtain⟨e0,e1,e2,ef⟩:=q1.cells;have k0:=kC e0;have k1:=kC e1;have k2:=kC e2;have hne:=Aft.here W;clear e0 e1 e2 ef c0 c1 c2;rcases hcs with⟨h1,d1,rfl⟩|⟨h1,d1,h2,d2,rfl⟩|⟨h1,d1,h2,d2,hg,dg,dg2,h3,d3,rfl⟩|⟨h1,d1,h2,d2,hg,dg,dg2,h3,d3,h4,d4,rfl⟩|⟨h1,d1,h2,d2,hg,dg,dg2,h3,d3,h4,d4,h5,d5,rfl⟩|⟨h1,d1,h2,d2,hg,dg,dg2,h3,d3,h4,d4,h5,d5,h6,d6,rfl⟩|⟨h1,d1,h2,d2,hg,dg,dg2,h3,d3,h4,d4,h5,d5,h6,d6,h7,d7,rfl⟩|⟨h1,d1,h2,d2,hg,dg,dg2,h3,d3,h4,d4,h5,d5,h6,d6,h7,d7,rfl⟩|⟨h1,d1,h2,d2,hg,dg,dg2,h4,d4,rfl⟩|⟨h1,d1,h2,d2,hg,dg,dg2,h4,d4,h5,d5,rfl⟩|⟨h1,d1,h2,d2,hg,dg,dg2,h4,d4,h5,d5,h6,d6,rfl⟩|⟨h1,d1,h2,d2,hg,dg,dg2,h4,d4,h5,d5,h6,d6,h7,d7,rfl⟩|⟨h1,d1,h2,d2,hg,dg,dg2,h4,d4,h5,d5,h6,d6,h7,d7,rfl⟩
   ·have HB:=hid (HBad.o rfl);clear HBad HGood;refine Yk (by kernel_rfl) (by kernel_rfl) ?_;repeat(go_big_quiet_step (fail))
    refine wpQuiet_nil ?_;intro w2 h2;have HS2:=hid (HS1.o.trans h2);clear h2 HS1 hne k0 k1 k2 HFit q1 f1;go_wp2_with fail
    (try rw[Exit.noGoto_ret])
    go_ret;exact⟨by rw[HB.o];rfl,HS2.o⟩
   ·have HB:=hid (HBad.o rfl);clear HBad HGood;refine Yk (by kernel_rfl) (by kernel_rfl) ?_;repeat(go_big_quiet_step (fail))
    refine wpQuiet_nil ?_;intro w2 h2;have HS2:=hid (HS1.o.trans h2);clear h2 HS1 hne k0 k1 k2 HFit q1 f1;go_wp2_with fail
    (try rw[Exit.noGoto_ret])
    go_ret;exact⟨by rw[HB.o];rfl,HS2.o⟩
   ·have k3:=kC (f1 (by omega));have hk8:k<8:=by have:=HN.o;omega
    have HB:=hid (HBad.o rfl);clear HBad HGood;refine Yk (by kernel_rfl) (by kernel_rfl) ?_;repeat(go_big_quiet_step (fail))
    refine wpQuiet_nil ?_;intro w2 h2;have HS2:=hid (HS1.o.trans h2);clear h2 HS1 hne k0 k1 k2 HFit q1 f1;go_wp2_with fail
    (try rw[Exit.noGoto_ret])
    go_ret;exact⟨by rw[HB.o];rfl,HS2.o⟩
   ·have k3:=kC (f1 (by omega));have hk8:k<8:=by have:=HN.o;omega
    have HB:=hid (HBad.o rfl);clear HBad HGood;refine Yk (by kernel_rfl) (by kernel_rfl) ?_;repeat(go_big_quiet_step (fail))
    refine wpQuiet_nil ?_;intro w2 h2;have HS2:=hid (HS1.o.trans h2);clear h2 HS1 hne k0 k1 k2 HFit q1 f1;go_wp2_with fail
    (try rw[Exit.noGoto_ret])
    go_ret;exact⟨by rw[HB.o];rfl,HS2.o⟩
   ·have k3:=kC (f1 (by omega));have hk8:k<8:=by have:=HN.o;omega
    have HB:=hid (HBad.o rfl);clear HBad HGood;refine Yk (by kernel_rfl) (by kernel_rfl) ?_;repeat(go_big_quiet_step (fail))
    refine wpQuiet_nil ?_;intro w2 h2;have HS2:=hid (HS1.o.trans h2);clear h2 HS1 hne k0 k1 k2 HFit q1 f1;go_wp2_with fail
    (try rw[Exit.noGoto_ret])
    go_ret;exact⟨by rw[HB.o];rfl,HS2.o⟩
   ·have k3:=kC (f1 (by omega));have hk8:k<8:=by have:=HN.o;omega
    have HB:=hid (HBad.o rfl);clear HBad HGood;refine Yk (by kernel_rfl) (by kernel_rfl) ?_;repeat(go_big_quiet_step (fail))
    refine wpQuiet_nil ?_;intro w2 h2;have HS2:=hid (HS1.o.trans h2);clear h2 HS1 hne k0 k1 k2 HFit q1 f1;go_wp2_with fail
    (try rw[Exit.noGoto_ret])
    go_ret;exact⟨by rw[HB.o];rfl,HS2.o⟩
   ·have k3:=kC (f1 (by omega));have hk8:k<8:=by have:=HN.o;omega
    have HB:=hid (HBad.o rfl);clear HBad HGood;refine Yk (by kernel_rfl) (by kernel_rfl) ?_;repeat(go_big_quiet_step (fail))
    refine wpQuiet_nil ?_;intro w2 h2;have HS2:=hid (HS1.o.trans h2);clear h2 HS1 hne k0 k1 k2 HFit q1 f1;go_wp2_with fail
    (try rw[Exit.noGoto_ret])
    go_ret;exact⟨by rw[HB.o];rfl,HS2.o⟩
   ·have k3:=kC (f1 (by omega));have hk8:k<8:=by have:=HN.o;omega
    have HG2:=hid (HGood.o rfl);have HF2:=hid (HFit.o rfl);clear HBad HGood HFit;refine Yk (by kernel_rfl) (by kernel_rfl) ?_;repeat(go_big_quiet_step (fail))
    refine wpQuiet_nil ?_;intro w2 h2;have q2:=q1.sT h2;have HS2:=hid (HS1.o.trans h2);clear h2 HS1 hne k0 k1 k2 q1 f1;go_wp2_with fail;go_loopw [7] (fun u wr=>∃q:Nat,q<=k/\u=.int .i64 (q:Int)/\Hid (∀j,j<q->(pk L j).sp≠x.sp)/\Kb wr g x/\Yc w wr) (fun u _=>k-(intOf u).toNat);case atStart=>exact⟨0,by omega,rfl,hid (fun i hi=>by omega),q2,HS2.o⟩
    case round =>
     clear q2 HS2;obtain⟨q,hq,rfl,HQ,q3,hs3⟩:=hrel;have HS3:=hid hs3;clear hs3;by_cases hqk:q<k
     ·have hlt2:(q:Int)<(k:Int):=by omega
      obtain⟨_,z1,_⟩:=(HR0.o.sT HS3.o).get (i:=q) (by omega);obtain⟨e0,e1,e2,ef⟩:=q3.cells;have HEq:=hid (fun h=>HG2.o q hqk h);have HNe:=hid (show(pk L q).sp≠x.sp->∀j,j<q+1->(pk L j).sp≠x.sp from fun h j hj=>by
       by_cases e:j=q
       ·subst e;exact h
       ·exact HQ.o j (by omega))
      obtain⟨y,ey⟩:∃y,(pk L q).sp=y:=⟨_,rfl⟩;obtain⟨t,et⟩:∃y,x.sp=y:=⟨_,rfl⟩;rw[ey]at z1 HEq HNe;rw[et]at e1 HEq;have k1:=kC z1;have k2:=kC e1;have hne:=Aft.here wr;clear z1 e0 e1 e2 ef ey HQ;by_cases hyt:y=t
      ·have hyt':(y == t)=true:=by simpa using hyt
       have HE:=hid (HEq.o hyt);clear hyt HEq HNe et;go_wp2_with fail;refine Yk (by kernel_rfl) (by kernel_rfl) ?_;repeat(go_big_quiet_step (fail))
       refine wpQuiet_nil ?_;intro w4 h4;have HS4:=hid (HS3.o.trans h4);clear h4 HS3 hne k1 k2;go_wp2_with fail
       (try rw[Exit.noGoto_ret])
       go_ret;exact⟨by rw[HE.o];rfl,HS4.o⟩
      ·have hyt':(y == t)=false:=by simpa using hyt
       have HE:=hid (HNe.o (by rw[et];exact hyt));clear hyt HEq HNe et;go_wp2_with fail;refine Yk (by kernel_rfl) (by kernel_rfl) ?_;repeat(go_big_quiet_step (fail))
       refine wpQuiet_nil ?_;intro w4 h4;have HS4:=hid (HS3.o.trans h4);have HQ4:=hid (q3.sT h4);clear h4 HS3 hne k1 k2 q3;go_wp2_with fail;go_roundw;case rel=>exact⟨q+1,by omega,by go_num,HE,HQ4.o,HS4.o⟩
       case measure=>simp[intOf];omega
     ·have hge2:¬(q:Int)<(k:Int):=by omega
      have HE:=hid (show ∀i,i<k+1->Fit L s i from fun i hi=>by
       by_cases e:i=k
       ·subst e;exact HF2.o (fun j hj=>HX.o ▸ HQ.o j (by omega))
       ·exact HF.o i (by omega))
      clear hqk hq q3 HF HQ;go_wp2_with fail;go_roundw;case rel=>exact⟨k+1,by omega,by go_num,HE,HS3.o⟩
      case measure=>simp[intOf];omega
   ·have HB:=hid (HBad.o rfl);clear HBad HGood;refine Yk (by kernel_rfl) (by kernel_rfl) ?_;repeat(go_big_quiet_step (fail))
    refine wpQuiet_nil ?_;intro w2 h2;have HS2:=hid (HS1.o.trans h2);clear h2 HS1 hne k0 k1 k2 HFit q1 f1;go_wp2_with fail
    (try rw[Exit.noGoto_ret])
    go_ret;exact⟨by rw[HB.o];rfl,HS2.o⟩
   ·have HB:=hid (HBad.o rfl);clear HBad HGood;refine Yk (by kernel_rfl) (by kernel_rfl) ?_;repeat(go_big_quiet_step (fail))
    refine wpQuiet_nil ?_;intro w2 h2;have HS2:=hid (HS1.o.trans h2);clear h2 HS1 hne k0 k1 k2 HFit q1 f1;go_wp2_with fail
    (try rw[Exit.noGoto_ret])
    go_ret;exact⟨by rw[HB.o];rfl,HS2.o⟩
   ·have HB:=hid (HBad.o rfl);clear HBad HGood;refine Yk (by kernel_rfl) (by kernel_rfl) ?_;repeat(go_big_quiet_step (fail))
    refine wpQuiet_nil ?_;intro w2 h2;have HS2:=hid (HS1.o.trans h2);clear h2 HS1 hne k0 k1 k2 HFit q1 f1;go_wp2_with fail
    (try rw[Exit.noGoto_ret])
    go_ret;exact⟨by rw[HB.o];rfl,HS2.o⟩
   ·have HB:=hid (HBad.o rfl);clear HBad HGood;refine Yk (by kernel_rfl) (by kernel_rfl) ?_;repeat(go_big_quiet_step (fail))
    refine wpQuiet_nil ?_;intro w2 h2;have HS2:=hid (HS1.o.trans h2);clear h2 HS1 hne k0 k1 k2 HFit q1 f1;go_wp2_with fail
    (try rw[Exit.noGoto_ret])
    go_ret;exact⟨by rw[HB.o];rfl,HS2.o⟩
   ·have HG2:=hid (HGood.o rfl);have HF2:=hid (HFit.o rfl);clear HBad HGood HFit;refine Yk (by kernel_rfl) (by kernel_rfl) ?_;repeat(go_big_quiet_step (fail))
    refine wpQuiet_nil ?_;intro w2 h2;have q2:=q1.sT h2;have HS2:=hid (HS1.o.trans h2);clear h2 HS1 hne k0 k1 k2 q1 f1;go_wp2_with fail;go_loopw [7] (fun u wr=>∃q:Nat,q<=k/\u=.int .i64 (q:Int)/\Hid (∀j,j<q->(pk L j).sp≠x.sp)/\Kb wr g x/\Yc w wr) (fun u _=>k-(intOf u).toNat);case atStart=>exact⟨0,by omega,rfl,hid (fun i hi=>by omega),q2,HS2.o⟩
    case round =>
     clear q2 HS2;obtain⟨q,hq,rfl,HQ,q3,hs3⟩:=hrel;have HS3:=hid hs3;clear hs3;by_cases hqk:q<k
     ·exact absurd hqk (by omega)
     ·have hge2:¬(q:Int)<(k:Int):=by omega
      have HE:=hid (show ∀i,i<k+1->Fit L s i from fun i hi=>by
       by_cases e:i=k
       ·subst e;exact HF2.o (fun j hj=>HX.o ▸ HQ.o j (by omega))
       ·exact HF.o i (by omega))
      clear hqk hq q3 HF HQ;go_wp2_with fail;go_roundw;case rel=>exact⟨k+1,by omega,by go_num,HE,HS3.o⟩
      case measure=>simp[intOf];omega
  ·have hge:¬(k:Int)<(n:Int):=by omega
   have HE:Hid (Y5 L s=0):=hid (V9 ⟨HN.o.1,by rw[HL.o];exact HN.o.2,fun i hi=>HF.o i (by have:=HL.o;omega)⟩);have HS1:=hid hs;clear hs hr hkn hk;go_wp2_with fail;go_ret;exact⟨by rw[HE.o];rfl,HS1.o⟩
theorem Je(L:List Pk)(s:Int)(ao:Option Addr)(n cap:Nat)(w:World)(hr:RdK w ao n L):Ya 63 #[.slice ao n cap,.int .i64 s] w (.int .i64 (Y5 L s)):=by
 by_cases h0:s<0
 ·have HE:Hid (Y5 L s=100):=hid (Vd (fun h=>by have:=h.1;omega));clear hr;go_enter Tryz.func63,Tryz.ntmps63;go_wp2_with fail;go_ret;exact⟨by rw[HE.o];rfl,Fr.refl _ _⟩
 ·by_cases h1:s > 16
  ·have HE:Hid (Y5 L s=100):=hid (Vd (fun h=>by have:=h.1;omega));clear hr;go_enter Tryz.func63,Tryz.ntmps63;go_wp2_with fail;go_ret;exact⟨by rw[HE.o];rfl,Fr.refl _ _⟩
  ·have h1':decide (16<s)=false:=by simpa using h1
   by_cases h8:8<n
   ·have HE:Hid (Y5 L s=100):=hid (Vd (fun h=>by have:=h.2.1;have:=hr.1;omega));have h8':(n:Int) > 8:=by omega
    clear hr;go_enter Tryz.func63,Tryz.ntmps63;go_wp2_with fail;go_ret;exact⟨by rw[HE.o];rfl,Fr.refl _ _⟩
   ·exact RY L s ao n cap w hr h0 h1' (by simp;omega)
end
end Go.Proofs.YtcgmohldcokccaaGreatDoor
