import Derived.Test.YtcgmohldcokccaaGreatDoorXR11
set_option linter.unusedVariables false
set_option maxHeartbeats 4000000
set_option maxRecDepth 100000
namespace Go.Proofs.YtcgmohldcokccaaGreatDoor
section
open Go.RowKit
open Pu Gp Np Ka
theorem Ybb(q f s no:Int)(L:List Pk)(ao:Option Addr)(n cap:Nat)(w:World)(hr:RdK w ao n L)(hm:ZW L s=false):Ya 77 #[.int .u64 q,.int .i64 f,.slice ao n cap,.int .i64 s,.int .i64 no] w (.tuple #[kv zK,.bool false,.int .i64 100]):=by
 have A0:=sA w (.cells (kcs zK) 71);have p0:=Xn w zK;have H:=hid (Je L s ao n cap _ (hr.sT A0));rw[show Y5 L s=100 by unfold Y5;rw[hm];rfl]at H;have HS0:=hid A0;clear hm hr A0;go_enter Tryz.func77,Tryz.ntmps77;go_wp2_with fail;refine H.o.mono ?_;rintro e w1 ⟨rfl,h1⟩;have p1:=p0.sT h1;have HS1:=hid (HS0.o.trans h1);clear h1 HS0 p0 H;obtain⟨c0,c1,c2,cf⟩:=p1.cells;go_wp2_with fail;refine bodyPost_ret (Kb.rest3 (Kb.put p1 _ _ _) rfl _ _ _ rfl rfl rfl) rfl ⟨rfl,?_⟩;repeat(first|refine Zv ?_ _ _ _ (by omega)|with_reducible exact HS1.o)
theorem Ybc(q f s no:Int)(L:List Pk)(ao:Option Addr)(n cap:Nat)(w:World)(hr:RdK w ao n L)(hm:ZW L s=true)(ha:VA f no=false):Ya 77 #[.int .u64 q,.int .i64 f,.slice ao n cap,.int .i64 s,.int .i64 no] w (.tuple #[kv zK,.bool false,.int .i64 1]):=by
 have HA:Hid (¬f<0->¬f > 1099511627776->¬no<1->no > 1099511627776):=hid (fun h1 h2 h3=>by
  cases h:decide (no > 1099511627776)with
  | true=>simpa using h
  | false =>
   have h6:¬no > 1099511627776:=by simpa using h
   have:=argK_iff.2 (show(0<=f/\f<=1099511627776)/\1<=no/\no<=1099511627776 by omega);rw[this]at ha;cases ha)
 have A0:=sA w (.cells (kcs zK) 71);have p0:=Xn w zK;have H:=hid (Je L s ao n cap _ (hr.sT A0));rw[show Y5 L s=0 by unfold Y5;rw[hm];rfl]at H;have HS0:=hid A0;clear hm hr A0 ha;go_enter Tryz.func77,Tryz.ntmps77;go_wp2_with fail;refine H.o.mono ?_;rintro e w1 ⟨rfl,h1⟩;have p1:=p0.sT h1;have HS1:=hid (HS0.o.trans h1);clear h1 HS0 p0 H;obtain⟨c0,c1,c2,cf⟩:=p1.cells;by_cases g0:f<0
 ·go_wp2_with fail;refine bodyPost_ret (Kb.rest3 (Kb.put p1 _ _ _) rfl _ _ _ rfl rfl rfl) rfl ⟨rfl,?_⟩;repeat(first|refine Zv ?_ _ _ _ (by omega)|with_reducible exact HS1.o)
 ·skip
  by_cases g1:f > 1099511627776
  ·go_wp2_with fail;refine bodyPost_ret (Kb.rest3 (Kb.put p1 _ _ _) rfl _ _ _ rfl rfl rfl) rfl ⟨rfl,?_⟩;repeat(first|refine Zv ?_ _ _ _ (by omega)|with_reducible exact HS1.o)
  ·skip
   by_cases g2:no<1
   ·go_wp2_with fail;refine bodyPost_ret (Kb.rest3 (Kb.put p1 _ _ _) rfl _ _ _ rfl rfl rfl) rfl ⟨rfl,?_⟩;repeat(first|refine Zv ?_ _ _ _ (by omega)|with_reducible exact HS1.o)
   ·skip
    have g3:no > 1099511627776:=HA.o (by omega) (by omega) (by omega);go_wp2_with fail;refine bodyPost_ret (Kb.rest3 (Kb.put p1 _ _ _) rfl _ _ _ rfl rfl rfl) rfl ⟨rfl,?_⟩;repeat(first|refine Zv ?_ _ _ _ (by omega)|with_reducible exact HS1.o)
theorem Ybd(L:List Pk)(j:Nat):fre L (j+1)=fre L j ++ (if Xu L j then []else [(j:Int)]):=rfl
theorem Ybe(q f no:Int)(S:Nat)(L:List Pk)(ao:Option Addr)(n cap:Nat)(w:World)(hr:RdK w ao n L)(hm:YW L (S:Int))(a0:¬f<0)(a1:decide (1099511627776<f)=false)(a2:¬no<1)(a3:decide (1099511627776<no)=false)(D:Bool)(X Y Z:Int)
  (hD:(f % 16≠0\/n=8\/(fre L S).length=0)->D=false/\X=0/\Y=0/\Z=0) (hD2:f % 16=0->n≠8->(fre L S).length≠0->D=true/\X=no/\Y=(fre L S).getD (bel (atI q f 1) ((fre L S).length:Int)).toNat 0/\Z=wgt (atI q f 2) [5,3,2]+1) :
  Ya 77 #[.int .u64 q,.int .i64 f,.slice ao n cap,.int .i64 (S:Int),.int .i64 no] w (.tuple #[kv ⟨X,Y,Z⟩,.bool D,.int .i64 0]):=by
 obtain⟨i0,hi,hz,hz1,hz2⟩:=info_parts En;have A0:=sA w (.cells (kcs zK) 71);have p0:=Xn w zK;have H:=hid (Je L (S:Int) ao n cap _ (hr.sT A0));rw[V9 hm]at H;have HS0:=hid A0;have HR:=hid hr;have HM:=hid (show S<=16/\n<=8/\L.length=n by have:=hm.1;have:=hm.2.1;have:=hr.1;omega);have HD:=hid (And.intro hD hD2);have hn8:n<=8:=HM.o.2.1;have hS16:S<=16:=HM.o.1;clear hm hr A0 hD hD2;go_enter Tryz.func77,Tryz.ntmps77;go_wp2_with fail;refine H.o.mono ?_;rintro e w1 ⟨rfl,h1⟩;have p1:=p0.sT h1;have HS1:=hid (HS0.o.trans h1);clear h1 HS0 p0 H;go_wp2_with fail;have hf0:0<=f/\f<=1099511627776:=by simp at a1;omega
 clear a0 a1 a2 a3;go_loopw [14,15] (fun v u wr=>∃(j:Nat) (bo:Option Addr) (m cp:Nat),j<=S/\v=.slice bo m cp/\u=.int .i64 (j:Int)/\OwI 3 wr bo m cp (fre L j)/\Yc w1 wr/\∀a,bo=some a->w1.heap.size<=a.block) (fun _ u _=>S-(intOf u).toNat);case atStart=>exact⟨0,none,0,0,Nat.zero_le _,rfl,rfl,OwI.empty _ _,Fr.refl _ _,fun _ h=>by cases h⟩
 case round =>
  obtain⟨j,bo,m,cp,hj,rfl,rfl,ho,hst,hbo⟩:=hrel;by_cases hjS:j<S
  ·have hlt:(j:Int)<(S:Int):=by omega
   have HO:=hid (And.intro ho (And.intro hst hbo));have HR2:=hid ((HR.o.sT HS1.o).sT hst);clear ho hst hbo;go_wp2_with fail;go_loopw [16,17] (fun v u wx=>∃k:Nat,k<=n/\v=.bool (Xu (L.take k) j)/\u=.int .i64 (k:Int)/\wx=wr) (fun _ u _=>n-(intOf u).toNat);case atStart=>exact⟨0,by omega,rfl,rfl,rfl⟩
   case round =>
    obtain⟨k,hk,rfl,rfl,rfl⟩:=hrel;by_cases hkn:k<n
    ·have hlt2:(k:Int)<(n:Int):=by omega
     obtain⟨B,o,rfl,hc⟩:=HR2.o.at (by omega);obtain⟨_,z1,_⟩:=hc k hkn;have HB:=hid (Mk (L:=L) (k:=k) (j:=j) (by have:=HM.o;omega));obtain⟨y,ey⟩:∃y,(pk L k).sp=y:=⟨_,rfl⟩;obtain⟨b,eb⟩:∃b,Xu (L.take k) j=b:=⟨_,rfl⟩;rw[ey]at z1 HB;rw[eb]at HB⊢;clear ey eb hc;cases b with
     | true =>
      go_wp2_with fail;go_roundw;case rel=>exact⟨k+1,by omega,by rw[HB.o];rfl,by go_num,by trivial⟩
      case measure=>simp[intOf];omega
     | false =>
      go_wp2_with fail;go_roundw;case rel=>exact⟨k+1,by omega,by rw[HB.o];rfl,by go_num,by trivial⟩
      case measure=>simp[intOf];omega
    ·have hge2:¬(k:Int)<(n:Int):=by omega
     have HT:Hid (L.take k=L):=hid (List.take_of_length_le (by have:=HM.o;omega));have HFr:=hid (Ybd L j);rw[HT.o];obtain⟨b,eb⟩:∃b,Xu L j=b:=⟨_,rfl⟩;rw[eb]at HFr⊢;clear eb hkn hk HT;cases b with
     | true =>
      go_wp2_with fail;go_roundw;case rel=>exact⟨j+1,bo,m,cp,by omega,rfl,by go_num,by rw[HFr.o];simpa using HO.o.1,HO.o.2.1,HO.o.2.2⟩
      case measure=>simp[intOf];omega
     | false =>
      have hml:m<=16:=by have:=HO.o.1.rd.len;have:=KV L j;have:=HM.o;omega
      go_wp2_with (at_builtin;refine Uc _ rfl _ _ 25 rfl 3 i0 Tryz.underlying25 hi hz hz1 hz2 bo (some ⟨wr.heap.size,0,none⟩) m cp 1 1 (fre L j) [(j:Int)] rfl rfl (HO.o.1.alloc _) (OwI.one _ wr _).rd (by omega) ?_;intro bo' cp' w2 ho' hf' hn' _);obtain⟨hst',hbo'⟩:=GP HO.o.2.1 HO.o.2.2 hf' hn';go_roundw;case rel=>exact⟨j+1,bo',m+1,cp',by omega,rfl,by go_num,by rw[HFr.o];exact ho',hst',hbo'⟩
      case measure=>simp[intOf];omega
  ·have hge:¬(j:Int)<(S:Int):=by omega
   obtain rfl:j=S:=by omega
   clear hi hz hz1 hz2 hge hj hjS;have HL:=hid ho.rd.len;have HO:=hid ho;have p2:=p1.sT hst;have HS2:=hid (HS1.o.trans hst);have HBO:=hid hbo;clear ho hst hbo HS1 p1;obtain⟨c0,c1,c2,cf⟩:=p2.cells;have hm16:m<=16:=by have:=HL.o;have:=KV L j;omega
   by_cases z0:f % 16=0
   ·have z0':f.tmod 16=0:=by rw[Int.tmod_eq_emod_of_nonneg (by omega)];exact z0
    have HZ:=hid z0;clear z0;by_cases z1:n=8
    ·have z1':((n:Int) == 8)=true:=by simp;omega
     have HE:=hid (HD.o.1 (.inr (.inl z1)));clear z1;go_wp2_with fail;obtain⟨rfl,rfl,rfl,rfl⟩:=HE.o;refine bodyPost_ret (Kb.rest3 (Kb.put p2 _ _ _) rfl _ _ _ rfl rfl rfl) rfl ⟨rfl,?_⟩;repeat(first|refine Zv ?_ _ _ _ (by omega)|with_reducible exact HS2.o)
    ·have z1':((n:Int) == 8)=false:=by simp;omega
     have HZ1:=hid z1;clear z1;by_cases z2:m=0
     ·have z2':((m:Int) == 0)=true:=by simp;omega
      have HE:=hid (HD.o.1 (.inr (.inr (by have:=HL.o;omega))));clear z2;go_wp2_with fail;obtain⟨rfl,rfl,rfl,rfl⟩:=HE.o;refine bodyPost_ret (Kb.rest3 (Kb.put p2 _ _ _) rfl _ _ _ rfl rfl rfl) rfl ⟨rfl,?_⟩;repeat(first|refine Zv ?_ _ _ _ (by omega)|with_reducible exact HS2.o)
     ·have z2':((m:Int) == 0)=false:=by simp;omega
      have HE:=hid (HD.o.2 HZ.o HZ1.o (by have:=HL.o;omega));rw[show(fre L j).length=m from HL.o]at HE;have HZ2:=hid (show 0<m by omega);clear z2 c0 c1 c2 cf;go_wp2_with fail;refine(LX q f 1 (m:Int) (by omega) _).mono ?_;rintro e w3 ⟨he,hw⟩;rw[he,hw];clear he hw w3;have hb:=GQ (n:=atI q f 1) (k:=m) HZ2.o;obtain⟨A,eA⟩:∃A:Nat,bel (atI q f 1) (m:Int)=(A:Int):=⟨(bel (atI q f 1) (m:Int)).toNat,by omega⟩;rw[eA]at hb HE⊢;have hA:A<m:=by omega
      clear eA hb;have A3:=sA wr (.cells #[.int .i64 5,.int .i64 3,.int .i64 2] 3);have p3:=p2.sT A3;have HS3:=hid (HS2.o.trans A3);have HO3:=hid (HO.o.sT A3);have HW:Hid (RdI (wr.alloc (.cells #[.int .i64 5,.int .i64 3,.int .i64 2] 3)) (some ⟨wr.heap.size,0,none⟩) 3 3 [5,3,2]):=hid (OwI.fresh (e:=3) wr _ 3 3 [5,3,2] rfl (Nat.le_refl _) (by unfold maxLen;omega) rfl (fun t ht=>by
       simp at ht;rcases(show t=0\/t=1\/t=2 by omega)with rfl|rfl|rfl<;>rfl)).rd
      clear A3;go_wp2_with fail;refine(Mj q f 2 _ 3 3 [5,3,2] _ HW.o).mono ?_;rintro e w4 ⟨he,hw⟩;rw[he,hw];clear he hw w4 HW;have hk3:=GS q f;unfold Vf at hk3;obtain⟨K,eK⟩:∃K,wgt (atI q f 2) [5,3,2]=K:=⟨_,rfl⟩;rw[eK]at HE hk3⊢;rw[GR];clear eK;obtain⟨c0,c1,c2,cf⟩:=p3.cells;obtain⟨g,rfl⟩:=HO3.o.head (by omega);have d0:=HO3.o.rd.byte (k:=A) (by rw[HL.o];exact hA);rw[Nat.zero_add]at d0;rw[show(fre L j).getD (A:Int).toNat 0=(fre L j)[A]'(by rw[HL.o];exact hA) by simp[List.getD,show A<(fre L j).length by rw[HL.o];exact hA]]at HE;obtain⟨V,eV⟩:∃V,(fre L j)[A]'(by rw[HL.o];exact hA)=V:=⟨_,rfl⟩;rw[eV]at d0 HE;clear eV;have hAi:(A:Int)<(m:Int):=by omega
      go_wp2_with fail;obtain⟨rfl,rfl,rfl,rfl⟩:=HE.o;refine bodyPost_ret (Kb.rest3 (Kb.put p3 _ _ _) rfl _ _ _ rfl rfl rfl) rfl ⟨rfl,?_⟩;repeat(first|refine Zv ?_ _ _ _ (by omega)|with_reducible exact HS3.o)
   ·have HE:=hid (HD.o.1 (.inl z0));go_wp2_with fail;obtain⟨rfl,rfl,rfl,rfl⟩:=HE.o;refine bodyPost_ret (Kb.rest3 (Kb.put p2 _ _ _) rfl _ _ _ rfl rfl rfl) rfl ⟨rfl,?_⟩;repeat(first|refine Zv ?_ _ _ _ (by omega)|with_reducible exact HS2.o)
theorem Ybf(q f s no:Int)(L:List Pk)(ao:Option Addr)(n cap:Nat)(w:World)(hr:RdK w ao n L):Ya 77 #[.int .u64 q,.int .i64 f,.slice ao n cap,.int .i64 s,.int .i64 no] w (.tuple #[kv (Yr q f L s no),.bool (comes L f s no),.int .i64 (Zo L f s no)]):=by
 cases hm:ZW L s with
 | false =>
  have e:Zo L f s no=100:=by unfold Zo;rw[hm];rfl
  have e1:comes L f s no=false:=by unfold comes;rw[e];rfl
  have e2:Yr q f L s no=zK:=by unfold Yr;rw[e1];rfl
  rw[e,e1,e2];exact Ybb q f s no L ao n cap w hr hm
 | true =>
  cases ha:VA f no with
  | false =>
   have e:Zo L f s no=1:=by unfold Zo;rw[hm,ha];rfl
   have e1:comes L f s no=false:=by unfold comes;rw[e];rfl
   have e2:Yr q f L s no=zK:=by unfold Yr;rw[e1];rfl
   rw[e,e1,e2];exact Ybc q f s no L ao n cap w hr hm ha
  | true =>
   have e:Zo L f s no=0:=by unfold Zo;rw[hm,ha];rfl
   have hM:=mayK_iff.1 hm;have hA:=argK_iff.1 ha;rw[e];obtain⟨S,rfl⟩:∃S:Nat,s=(S:Int):=⟨s.toNat,by have:=hM.1;omega⟩;refine Ybe q f no S L ao n cap w hr hM (by omega) (by simp;omega) (by omega) (by simp;omega) (comes L f S no) (Yr q f L S no).no (Yr q f L S no).sp (Yr q f L S no).kd (fun h=>?_) (fun h1 h2 h3=>?_)
   ·have e1:comes L f S no=false:=by
     unfold comes;rw[e,Int.toNat_natCast];have hl:=hr.1;rcases h with h|h|h
     ·simp[h]
     ·rw[hl,h];simp
     ·rw[h];simp
    have e2:Yr q f L S no=zK:=by unfold Yr;rw[e1];rfl
    rw[e2];exact⟨e1,rfl,rfl,rfl⟩
   ·have e1:comes L f S no=true:=by
     unfold comes;rw[e,Int.toNat_natCast,hr.1];simp[h1,h2,h3]
    have e2:Yr q f L S no=⟨no,ZX q f L S,Vf q f⟩:=by unfold Yr;rw[e1];rfl
    rw[e2];refine⟨e1,rfl,?_,rfl⟩;show ZX q f L S=_;unfold ZX;rw[Int.toNat_natCast]
end
section
open Go.RowKit
open Pu Gp Ap Vp Np Ka
attribute [local go_sem] zr Y0
theorem Ybg{x:Int}(h0:0<=x)(h1:x<=200):Yl x 0 100=min x 100:=by
 unfold Yl;rw[Pu.bnd_id (show -2147483647<=x by omega) (by omega),Pu.bnd_id (show -2147483647<=(0:Int) by omega) (by omega),Pu.bnd_id (show -2147483647<=(100:Int) by omega) (by omega)];repeat' split
 all_goals omega
theorem Wg{p:Prop}(h:p:=by
    unfold Ya;go_in;go_wp2_with (first|(go_at_call 118;refine zc (HC.o _) ?_;intro J n)|(go_at_call 122;refine zc (Ya.of (Jo _ _ _ _)) ?_;intro J1 n1;rw[Ybg (by omega) (by omega)]))
    all_goals
      first
        | (exfalso;simp_all;omega)
        | (refine bodyPost_ret (Y9 zbk rfl rfl) rfl ⟨?_, zst⟩
           go_tidy
           clear HC;simp[Xk,Z7,HE.o,KW,zM, *];try ((repeat' split)<;>first|omega|(exfalso;omega)|(simp_all<;>omega)))):p:=h
theorem Ybh(m:Mv)(k:Int)(w:World):Ya 75 #[mv m,.int .i64 k] w (.tuple #[mv (Xk m k),.int .i64 (Z7 m k),.int .i64 (Zi m k)]):=by
 have HC:=hid (UO m);rcases Xt m with⟨HM,e⟩|⟨HM,e,hm⟩<;>rw[e]at HC<;>clear e
 ·have HE:Hid (Zi m k=80):=hid (by unfold Zi;rw[HM.o];rfl);exact Wg
 obtain⟨-,-,-,-,⟨a1,a2⟩,⟨b1,b2⟩,-,⟨o1,o2⟩,-,-,-⟩:=hm;by_cases hk:1<=k/\k<=3
 ·have HE:Hid (Zi m k=0):=hid (by unfold Zi;rw[if_pos HM.o,if_pos hk]);obtain rfl|rfl|rfl:k=1\/k=2\/k=3:=by omega
  all_goals clear hk;exact Wg
 ·have HE:Hid (Zi m k=1):=hid (by unfold Zi;rw[if_pos HM.o,if_neg hk]);exact Wg
end
section
open Go.RowKit
open Pu Gp Ap Vp Np
open Ja
attribute [local go_sem] zr Y0
theorem Ybi(a b:Mv):Yt [a,b]=ZR a b:=by
 unfold Yt ZR;simp
theorem Ybj(w:World)(a b:Mv):RdG KM (w.alloc (.cells #[.int .i64 a.ax,.int .i64 a.ay,.int .i64 a.sx,.int .i64 a.sy,.int .i64 a.px,.int .i64 a.py,.int .i64 a.fc,.int .i64 a.hl,.int .i64 a.en,.bool a.sh,.int .i64 a.co,.int .i64 a.ou,.int .i64 a.sd,.int .i64 b.ax,.int .i64 b.ay,.int .i64 b.sx,.int .i64 b.sy,.int .i64 b.px,.int .i64 b.py,.int .i64 b.fc,.int .i64 b.hl,.int .i64 b.en,.bool b.sh,.int .i64 b.co,.int .i64 b.ou,.int .i64 b.sd] 59)) (some ⟨w.heap.size,0,none⟩) 2 [a,b]:=by
 have h:OwG KM 59 (w.alloc (.cells #[.int .i64 a.ax,.int .i64 a.ay,.int .i64 a.sx,.int .i64 a.sy,.int .i64 a.px,.int .i64 a.py,.int .i64 a.fc,.int .i64 a.hl,.int .i64 a.en,.bool a.sh,.int .i64 a.co,.int .i64 a.ou,.int .i64 a.sd,.int .i64 b.ax,.int .i64 b.ay,.int .i64 b.sx,.int .i64 b.sy,.int .i64 b.px,.int .i64 b.py,.int .i64 b.fc,.int .i64 b.hl,.int .i64 b.en,.bool b.sh,.int .i64 b.co,.int .i64 b.ou,.int .i64 b.sd] 59)) w.heap.size (.slice (some ⟨w.heap.size,0,none⟩) 2 2) ([a,b] ++ []):=
  World.ownsRow_lit (base:=w.heap.size) (e:=59) (size:=13) w #[.int .i64 a.ax,.int .i64 a.ay,.int .i64 a.sx,.int .i64 a.sy,.int .i64 a.px,.int .i64 a.py,.int .i64 a.fc,.int .i64 a.hl,.int .i64 a.en,.bool a.sh,.int .i64 a.co,.int .i64 a.ou,.int .i64 a.sd,.int .i64 b.ax,.int .i64 b.ay,.int .i64 b.sx,.int .i64 b.sy,.int .i64 b.px,.int .i64 b.py,.int .i64 b.fc,.int .i64 b.hl,.int .i64 b.en,.bool b.sh,.int .i64 b.co,.int .i64 b.ou,.int .i64 b.sd] 2 (Nat.le_refl _) (by unfold maxLen;omega) rfl
 exact h.rd (show 2<=281474976710656 by decide)
theorem TS{p:Prop}(h:p:=by
  unfold Ya;go_in
  go_wp2_with (go_at_call 124;refine zc HT.o ?_;intro J n);try (go_region;all_goals go_wp2_with fail)
  all_goals
   refine bodyPost_ret (X3 zbk zbk rfl rfl rfl) rfl ⟨?_,zst⟩;clear HT;have he:=He.o;try have hc:=Hc.o
   try have hd:=Hd.o
   have h2:ZR b a=ZR a b:=by unfold ZR;rw[Bool.and_comm]
   simp_all[Zq,Zp,zM]):p:=h
theorem Ybk(a b:Mv)(w:World):Ya 70 #[mv a,mv b] w (.tuple #[mv (Zq a b),mv (Zq b a),.int .i64 (Zp (ZR a b))]):=by
 have HT:=hid (Um [a,b] _ 2 2 _ (Ybj (XZ (XZ (XZ (XZ w a) b) zM) zM) a b));simp only[size_alloc]at HT;rw[Ybi]at HT;rcases he:ZR a b<;>rw[he]at HT<;>have He:=hid he<;>clear he
 ·exact TS
 ·rcases ha:a.ou == 0<;>rcases hb:b.ou == 0<;>have Hc:=hid ha<;>have Hd:=hid hb
  all_goals exact TS
end
section
open Go.RowKit
open Pu Gp Ap Vp Np Za Ka Ja
theorem Ybl(L:List Mv)(Q:List Pk)(T:List (Int × Int))(ao:Option Addr)(n cap:Nat)(po:Option Addr)(r pcap:Nat)(xo:Option Addr)(t tcap:Nat)(w:World)(hr:RdG KM w ao n L)(hq:RdK w po r Q)(htt:RdG KT w xo t T)(ht:Yt L=true)(hf:YW Q (t:Int)):Calls Tryz.prog 74 #[.slice ao n cap,.slice po r pcap,.slice xo t tcap] w fun e w'=>∃v,e=.returned (.tuple #[v,.int .i64 0])/\OwG KT 126 w' w.heap.size v (Yj (fun i k=>hP L (pp T (pk Q i).sp.toNat) k) n r)/\Yc w w':=by
 have HL:=hid hr.1;have HR:=hid hr;have HRQ:=hid hq;have HRT:=hid htt;have hn6:n<=6:=by have:=(togB_iff.1 ht).1;have:=hr.1;omega
 have hr8:r<=8:=by have:=hf.2.1;have:=hq.1;omega
 have ht16:t<=16:=by have:=hf.1;omega
 have HSp:=hid (show ∀i,i<r->0<=(pk Q i).sp/\(pk Q i).sp<(t:Int)from fun i hi=>(hf.2.2 i (by rw[hq.1];exact hi)).2.2.1);have H:=hid (Um L ao n cap w hr);have H2:=hid (fun u hu=>Je Q (t:Int) po r pcap u hu);rw[ht]at H;rw[V9 hf]at H2;clear hr ht hq htt hf;obtain⟨P,eP⟩:∃P,(fun i k=>hP L (pp T (pk Q i).sp.toNat) k)=P:=⟨_,rfl⟩;have HP:=hid (show ∀i k,P i k=hP L (pp T (pk Q i).sp.toNat) k from fun i k=>by rw[<- eP]);rw[eP];clear eP;go_enter Tryz.func74,Tryz.ntmps74;go_wp2_with fail;refine H.o.mono ?_;rintro e w0 ⟨rfl,h0⟩;have HS0:=hid h0;clear h0 H;go_wp2_with fail;refine(H2.o _ (HRQ.o.sT HS0.o)).mono ?_;rintro e w1 ⟨rfl,h1⟩;have HS1:=hid (HS0.o.trans h1);have HZ:=hid HS1.o.size;clear h1 H2 HS0;go_wp2_with fail;go_loopw [10,11] (fun v u wr=>∃i:Nat,i<=r/\u=.int .i64 (i:Int)/\OwG KT 126 wr w1.heap.size v (Yj P n i)/\Yc w1 wr) (fun _ u _=>r-(intOf u).toNat);case atStart=>exact⟨0,by omega,rfl,OwG.nil _ _,Fr.refl _ _⟩
 case round =>
  obtain⟨i,hi,rfl,ho,hs⟩:=hrel;have HS2:=hid hs;have HO2:=hid ho;clear hs;obtain⟨ao2,cap2,rfl,_⟩:=ho.slice;clear ho;have HLn:=hid (show(Yj P n i).length<=100000 by have:=Ud P n i;omega);obtain⟨m2,em2⟩:∃m,(Yj P n i).length=m:=⟨_,rfl⟩;rw[em2]at HO2⊢;clear em2;by_cases hin:i<r
  ·have hlt:(i:Int)<(r:Int):=by omega
   have HRow:Hid (Yj P n (i+1)=Yj P n i ++ (if 0<=lo (P i) 0 n then [((i:Int),lo (P i) 0 n)]else [])):=hid rfl;have HRq:=hid ((HRQ.o.sT HS1.o).sT HS2.o);have HRt:=hid ((HRT.o.sT HS1.o).sT HS2.o);obtain⟨sp,esp⟩:∃c:Nat,(pk Q i).sp=(c:Int):=⟨(pk Q i).sp.toNat,by have:=(HSp.o i hin).1;omega⟩;have hspt:sp<t:=by have:=(HSp.o i hin).2;omega
   have hspi:(sp:Int)<(t:Int):=by omega
   obtain⟨B2,o2,rfl⟩:∃B o,po=some ⟨B,o,none⟩:=by
    obtain⟨B,o,e,_⟩:=HRq.o.at (by omega);exact⟨B,o,e⟩
   obtain⟨B3,o3,rfl⟩:=HRt.o.at (by omega);obtain⟨_,q1,_⟩:=HRq.o.get hin;obtain⟨t0,t1⟩:=rdP HRt.o hspt;rw[esp]at q1;have HPi:Hid (∀k,P i k=(((mm L k).ou == 0) && ov (mm L k) (pp T sp).1 (pp T sp).2 768)):=hid (fun k=>by rw[HP.o i k,esp,Int.toNat_natCast];rfl);have HA:=hid (fun w=>Gs (pp T sp).1 (pp T sp).2 768 w);rw[NR]at HA;obtain⟨px,ex⟩:∃z,(pp T sp).1=z:=⟨_,rfl⟩;obtain⟨py,ey⟩:∃z,(pp T sp).2=z:=⟨_,rfl⟩;rw[ex]at t0 HPi HA;rw[ey]at t1 HPi HA;clear esp ex ey;have HOv:Hid (∀k,ov (mm L k) px py 768=mt (Ye (mm L k).ax 1280) (Ye (mm L k).ay 1280) (Yd (mm L k).ax 1280) (Yd (mm L k).ay 1280) (Ye px 768) (Ye py 768) (Yd px 768) (Yd py 768)):=hid (fun k=>rfl);obtain⟨y1,e1⟩:∃z,Ye px 768=z:=⟨_,rfl⟩;obtain⟨y2,e2⟩:∃z,Ye py 768=z:=⟨_,rfl⟩;obtain⟨y3,e3⟩:∃z,Yd px 768=z:=⟨_,rfl⟩;obtain⟨y4,e4⟩:∃z,Yd py 768=z:=⟨_,rfl⟩;rw[e1,e2,e3,e4]at HA HOv;clear e1 e2 e3 e4;go_wp2_with fail;refine(HA.o _).mono ?_;rintro e w2 ⟨rfl,h2⟩;have A2:=sA w2 (.cells #[.int .i64 y1,.int .i64 y2,.int .i64 y3,.int .i64 y4] 172);have bb:=Xy w2 y1 y2 y3 y4;have HS3:=hid ((HS2.o.trans h2).trans A2);have HO3:=hid ((HO2.o.sT h2).sT A2);clear h2 A2 HS2 HO2 q1 t0 t1 HA HRq HRt;obtain⟨g,eg⟩:∃g,w2.heap.size=g:=⟨_,rfl⟩;have HBB:Hid (Bb (w2.alloc (.cells #[.int .i64 y1,.int .i64 y2,.int .i64 y3,.int .i64 y4] 172)) g y1 y2 y3 y4):=hid (by rw[<- eg];exact bb);clear bb;go_wp2_with fail;clear eg;go_loopw [12,14] (fun v u wr=>∃j:Nat,j<=n/\v=.int .i64 (lo (P i) j (n-j))/\u=.int .i64 ((j:Int)-1)/\Bb wr g y1 y2 y3 y4/\OwG KT 126 wr w1.heap.size (.slice ao2 m2 cap2) (Yj P n i)/\Yc w1 wr) (fun _ u _=>(intOf u+1).toNat);case atStart=>exact⟨n,Nat.le_refl _,by rw[Nat.sub_self];rfl,by go_num,HBB.o,HO3.o,HS3.o⟩
   case round =>
    clear HO3 HS3 HBB;obtain⟨j,hj,rfl,rfl,bb,ho,hs⟩:=hrel;have HS2:=hid hs;have HO2:=hid ho;clear hs ho;by_cases hj0:0<j
    ·obtain⟨k,rfl⟩:∃k,j=k+1:=⟨j-1,by omega⟩;rw[show((k+1:Nat):Int)-1=(k:Int) by omega];have hkn:k<n:=by omega
     have hlt2:(k:Int)<(n:Int):=by omega
     have HLo:=hid (EI (P i) hkn);obtain⟨at0,eat⟩:∃z,lo (P i) (k+1) (n-(k+1))=z:=⟨_,rfl⟩;rw[eat]at HLo⊢;clear eat;have HRr:=hid ((HR.o.sT HS1.o).sT HS2.o);obtain⟨B,o,rfl⟩:=HRr.o.at (by omega);obtain⟨c0,c1,c2,c3,c4,c5,c6,c7,c8,c9,c10,c11,c12⟩:=rdM HRr.o hkn;obtain⟨b0,b1,b2,b3,bf⟩:=bb.cells;have HC:=hid (fun u (hu:Yc wr u)=>(rdM (HRr.o.sT hu) hkn).2.2.2.2.2.2.2.2.2.2.2.1);have HB1:=hid (fun w=>Qz (mm L k) w);have HT2:=hid (HPi.o k);rw[HOv.o k]at HT2;obtain⟨x,ex⟩:∃x,mm L k=x:=⟨_,rfl⟩;rw[ex]at c0 c1 c2 c3 c4 c5 c6 c7 c8 c9 c10 c11 c12 HC HB1 HT2;clear ex;have HV:=hid (fun w=>WV (Ye x.ax 1280) (Ye x.ay 1280) (Yd x.ax 1280) (Yd x.ay 1280) y1 y2 y3 y4 w);obtain⟨bo,ebo⟩:∃b,mt (Ye x.ax 1280) (Ye x.ay 1280) (Yd x.ax 1280) (Yd x.ay 1280) y1 y2 y3 y4=b:=⟨_,rfl⟩;rw[ebo]at HV HT2;clear ebo;obtain⟨x1,e1⟩:∃z,Ye x.ax 1280=z:=⟨_,rfl⟩;obtain⟨x2,e2⟩:∃z,Ye x.ay 1280=z:=⟨_,rfl⟩;obtain⟨x3,e3⟩:∃z,Yd x.ax 1280=z:=⟨_,rfl⟩;obtain⟨x4,e4⟩:∃z,Yd x.ay 1280=z:=⟨_,rfl⟩;rw[e1,e2,e3,e4]at HB1 HV;clear e1 e2 e3 e4;have k0:=kC c0;have k1:=kC c1;have k2:=kC c2;have k3:=kC c3;have k4:=kC c4;have k5:=kC c5;have k6:=kC c6;have k7:=kC c7;have k8:=kC c8;have k9:=kC c9;have k10:=kC c10;have k11:=kC c11;have k12:=kC c12;have l0:=kC b0;have l1:=kC b1;have l2:=kC b2;have l3:=kC b3;have hne:=Aft.here wr;clear c0 c1 c2 c3 c4 c5 c6 c7 c8 c9 c10 c11 c12 b0 b1 b2 b3 bf;go_wp2_with fail;refine Yk (by kernel_rfl) (by kernel_rfl) ?_;repeat(go_big_quiet_step ((first|(go_at_call 126;with_reducible exact Calls.cl (HB1.o _))|(go_at_call 125;with_reducible exact Calls.cl (HV.o _)))))
     refine wpQuiet_nil ?_;intro w3 h3;have c:=HC.o _ h3;have HS3:=hid (HS2.o.trans h3);have HO3:=hid (HO2.o.sT h3);have HBB:=hid (bb.sT h3);clear h3 hne k0 k1 k2 k3 k4 k5 k6 k7 k8 k9 k10 k11 k12 l0 l1 l2 l3 HS2 HO2 HB1 HV HC HRr bb;obtain⟨p,ep⟩:∃p,x.ou=p:=⟨_,rfl⟩;rw[ep]at c HT2;clear ep;have HK0:Hid (P i k=false->lo (P i) k (n-k)=at0):=hid (fun h=>by rw[HLo.o,h];rfl);have HK1:Hid (P i k=true->lo (P i) k (n-k)=(k:Int)):=hid (fun h=>by rw[HLo.o,h];rfl);cases hp:p == 0 with
     | false =>
      have HK:=hid (HK0.o (by rw[HT2.o,hp];rfl));clear HK0 HK1 HT2 HLo;go_wp2_with fail;go_roundw;case rel=>exact⟨k,by omega,by rw[HK.o],by go_num,HBB.o,HO3.o,HS3.o⟩
      case measure=>first|(simp[intOf];done)|(simp[intOf];omega)
     | true =>
      cases bo with
      | false =>
       have HK:=hid (HK0.o (by rw[HT2.o,hp];rfl));clear HK0 HK1 HT2 HLo;go_wp2_with fail;go_roundw;case rel=>exact⟨k,by omega,by rw[HK.o],by go_num,HBB.o,HO3.o,HS3.o⟩
       case measure=>first|(simp[intOf];done)|(simp[intOf];omega)
      | true =>
       have HK:=hid (HK1.o (by rw[HT2.o,hp];rfl));clear HK0 HK1 HT2 HLo;go_wp2_with fail;go_roundw;case rel=>exact⟨k,by omega,by rw[HK.o],by go_num,HBB.o,HO3.o,HS3.o⟩
       case measure=>first|(simp[intOf];done)|(simp[intOf];omega)
    ·obtain rfl:j=0:=by omega
     rw[show((0:Nat):Int)-1=-1 by omega,Nat.sub_zero];obtain⟨z,ez⟩:∃z,lo (P i) 0 n=z:=⟨_,rfl⟩;rw[ez]at HRow⊢;clear ez hj0 bb;have hz3:w1.heap.size<=wr.heap.size:=HS2.o.size;by_cases hz0:0<=z
     ·have hz1:z ≥ 0:=hz0;have HK:Hid (Yj P n (i+1)=Yj P n i ++ [((i:Int),z)]):=hid (by rw[HRow.o,if_pos hz0]);have A4:=sA wr (.cells #[.int .i64 (i:Int),.int .i64 z] 126);have HS4:=hid (HS2.o.trans A4);have HO4:=hid (HO2.o.sT A4);have HX4:Hid ((wr.alloc (.cells #[.int .i64 (i:Int),.int .i64 z] 126)).heap[wr.heap.size]?=some (.cells #[.int .i64 (i:Int),.int .i64 z] 126 (0,0))):=hid (heap_alloc_new wr _);have HB4:=hid (show w1.heap.size<=(wr.alloc (.cells #[.int .i64 (i:Int),.int .i64 z] 126)).heap.size by rw[size_alloc];omega);clear A4 HRow;go_wp2_with (at_builtin;refine US _ rfl _ _ rfl w1.heap.size wr.heap.size _ (Yj P n i) (i:Int) z rfl rfl HO4.o HX4.o HLn.o HB4.o ?_;intro v' w' ho' hf');go_roundw;case rel=>exact⟨i+1,by omega,by go_num,by rw[HK.o];exact ho',XO HS4.o HO4.o hf' (Nat.le_refl _)⟩
      case measure=>first|(simp[intOf];done)|(simp[intOf];omega)
     ·have hz1:¬z ≥ 0:=hz0;have HK:Hid (Yj P n (i+1)=Yj P n i):=hid (by rw[HRow.o,if_neg hz0,List.append_nil]);clear HRow;go_wp2_with fail;go_roundw;case rel=>exact⟨i+1,by omega,by go_num,by rw[HK.o];exact HO2.o,HS2.o⟩
      case measure=>first|(simp[intOf];done)|(simp[intOf];omega)
  ·have hge:¬(i:Int)<(r:Int):=by omega
   have HE:Hid (Yj P n r=Yj P n i):=hid (by congr;omega);clear hin;go_wp2_with fail;go_ret2
   exact⟨_,rfl,by rw[HE.o];exact HO2.o.less HZ.o,HS1.o.trans HS2.o⟩
theorem Ybm(L:List Mv)(Q:List Pk)(T:List (Int × Int))(ao:Option Addr)(n cap:Nat)(po:Option Addr)(r pcap:Nat)(xo:Option Addr)(t tcap:Nat)(w:World)(hr:RdG KM w ao n L)(hq:RdK w po r Q)(htt:RdG KT w xo t T):Calls Tryz.prog 74 #[.slice ao n cap,.slice po r pcap,.slice xo t tcap] w fun e w'=>∃v,e=.returned (.tuple #[v,.int .i64 (Zp (XL L Q T))])/\OwG KT 126 w' w.heap.size v (pic L Q T)/\Yc w w':=by
 have htl:=htt.1;cases he:XL L Q T with
 | true =>
  have h:=he;unfold XL at h;rw[Bool.and_eq_true,htl]at h;have e:pic L Q T=Yj (fun i k=>hP L (pp T (pk Q i).sp.toNat) k) n r:=by unfold pic;rw[he,hr.1,hq.1];rfl
  rw[e];exact Ybl L Q T ao n cap po r pcap xo t tcap w hr hq htt h.1 (mayK_iff.1 h.2)
 | false =>
  have HE:Hid (pic L Q T=[]):=hid (by unfold pic;rw[he];rfl);have H:=hid (Um L ao n cap w hr);have H2:=hid (fun u hu=>Je Q (t:Int) po r pcap u hu);have HRQ:=hid hq;have ht48:=htt.2.1;have HB:Hid ((Yt L && ZW Q (t:Int))=false):=hid (by rw[<- htl];exact he);obtain⟨a,ea⟩:∃b,Yt L=b:=⟨_,rfl⟩;obtain⟨E,eE⟩:∃E,Y5 Q (t:Int)=E:=⟨_,rfl⟩;have HE2:Hid (a=true->E=100):=hid (fun h=>by
   have hb:=HB.o;rw[ea,h,Bool.true_and]at hb;rw[<- eE];unfold Y5;rw[hb];rfl)
  rw[ea]at H;rw[eE]at H2;clear he hr hq htt ea eE htl HB;go_enter Tryz.func74,Tryz.ntmps74;go_wp2_with fail;refine H.o.mono ?_;rintro e w1 ⟨rfl,h1⟩;have HS1:=hid h1;clear h1 H;go_wp2_with fail;refine(H2.o _ (HRQ.o.sT HS1.o)).mono ?_;rintro e w2 ⟨rfl,h2⟩;have HS2:=hid (HS1.o.trans h2);clear h2 H2 HS1;cases a with
  | false =>
   clear HE2;go_wp2_with fail;go_ret2
   exact⟨_,rfl,by rw[HE.o];exact OwG.nil _ _,HS2.o⟩
  | true =>
   obtain rfl:=HE2.o rfl;clear HE2;go_wp2_with fail;go_ret2
   exact⟨_,rfl,by rw[HE.o];exact OwG.nil _ _,HS2.o⟩
end
section
open Go.RowKit
open Pu Gp Ap Vp Np Za Ka Ja Ea Ha Hi
def XR(x y:Cm):Bool:=(x.pe == y.pe) && (x.sq == y.sq)
def Uz(p:Int)(l:List Cm)(i:Nat):Prop:=X9 p (cm l i)=true/\∀k,k<i->XR (cm l k) (cm l i)=false
theorem refA_iff{p:Int}{l:List Cm}:(∀i,i<l.length->Uz p l i) ↔ ¬Vj p l:=by
 unfold Uz Vj;constructor
 ·rintro h ⟨i,hi,h1|⟨k,hk,h2,h3⟩⟩
  ·exact h1 (rgtB_iff.1 (h i hi).1)
  ·have:=(h i hi).2 k hk;unfold XR at this;rw[show(cm l k).pe=(cm l i).pe from h2,show(cm l k).sq=(cm l i).sq from h3]at this;simp at this
 ·intro h i hi;refine⟨?_,fun k hk=>?_⟩
  ·refine Classical.byContradiction fun hc=>h ⟨i,hi,.inl fun hr=>hc (rgtB_iff.2 hr)⟩
  ·cases e:XR (cm l k) (cm l i)with
   | false=>rfl
   | true =>
    unfold XR at e;rw[Bool.and_eq_true]at e;exact absurd ⟨i,hi,.inr ⟨k,hk,eq_of_beq e.1,eq_of_beq e.2⟩⟩ h
def Ybn(p:Int)(l:List Cm)(v:Value):Prop:=∃b:Bool,v=.bool b/\(b=true ↔ Vj p l)
theorem Ybo(F:Cf)(l:List Cm)(ao:Option Addr)(n cap:Nat)(w:World)(hr:RdG KX w ao n l)(hk:∀(x:Cm) (u:World),Yc w u->Ya 117 #[od x.v x.a x.b x.c] u (.int .i64 (YB x.v x.a x.b x.c))) :
  Calls Tryz.prog 47 #[cfv F,.slice ao n cap] w fun e w'=>∃v,e=.returned v/\Ybn F.p l v/\Yc w w':=by
 have A0:=sA w (.cells (cfc F) 27);have HP0:=hid (Xp w F);have HA0:=hid A0;have HR:=hid hr;have HL:=hid hr.1;have hn47:n<=281474976710656:=hr.2.1;have HR1:=hid (fun(x:Cm) (u:World) (hu:Yc w u)=>NH F x u (fun v hv=>hk x v (hu.trans hv)));clear hr hk A0;go_enter Tryz.func47,Tryz.ntmps47;go_wp2_with fail;go_loopw [5] (fun u wr=>∃i:Nat,i<=n/\u=.int .i64 (i:Int)/\Hid (∀j,j<i->Uz F.p l j)/\Yc (Vm w F) wr) (fun u _=>n-(intOf u).toNat);case atStart=>exact⟨0,by omega,rfl,hid (fun j hj=>by omega),Fr.refl _ _⟩
 case round =>
  obtain⟨i,hi,rfl,HJ,hs⟩:=hrel;have HS:=hid hs;have HSw:=hid (HA0.o.trans hs);by_cases hin:i<n
  ·have hlt:(i:Int)<(n:Int):=by omega
   have hr1:=HR.o.sT HSw.o;obtain⟨B,o,rfl⟩:=hr1.at (by omega);have HX:=hid (fun u (hu:Yc wr u)=>rdX (hr1.sT hu) hin);have HC:=hid (fun u (hu:Yc wr u)=>((HP0.o.sT HS.o).sT hu).cells);have HRg:=hid (fun u (hu:Yc wr u)=>HR1.o (cm l i) u (HSw.o.trans hu));have HNo:=hid (show ¬Uz F.p l i->Vj F.p l from fun h=>Classical.byContradiction fun hc=>h (refA_iff.2 hc i (by rw[HL.o];exact hin)));have HYes:=hid (show Uz F.p l i->∀j,j<i+1->Uz F.p l j from fun h j hj=>by
    by_cases e:j=i
    ·subst e;exact h
    ·exact HJ.o j (by omega))
   have HDf:Hid (Uz F.p l i ↔ X9 F.p (cm l i)=true/\∀k,k<i->XR (cm l k) (cm l i)=false):=hid Iff.rfl;obtain⟨x,ex⟩:∃x,cm l i=x:=⟨_,rfl⟩;have EX:=hid ex;rw[ex]at HX HRg HDf;obtain⟨b1,eb1⟩:∃b,X9 F.p x=b:=⟨_,rfl⟩;rw[eb1]at HRg HDf;obtain⟨x0,x1,x2,x3,x4,x5,x6⟩:=HX.o wr (Fr.refl _ _);obtain⟨c0,c1,c2,c3,c4,c5,cf⟩:=HC.o wr (Fr.refl _ _);have k0:=kC c0;have k1:=kC c1;have k2:=kC c2;have k3:=kC c3;have k4:=kC c4;have k5:=kC c5;have l0:=kC x0;have l1:=kC x1;have l2:=kC x2;have l3:=kC x3;have l4:=kC x4;have l5:=kC x5;have l6:=kC x6;have HRz:=hid (fun(z:Aft wr)=>HRg.o z.u z.s);have hne:=Aft.here wr;clear ex eb1 c0 c1 c2 c3 c4 c5 cf x0 x1 x2 x3 x4 x5 x6 hr1 hs;go_upto_region 4 with fail;refine Yk (by kernel_rfl) (by kernel_rfl) ?_;repeat(go_big_quiet_step ((go_at_call 64;with_reducible exact Calls.cl (HRz.o _))))
   refine wpQuiet_nil ?_;intro w2 h2;have HS2:=hid (HS.o.trans h2);have HSw2:=hid (HSw.o.trans h2);clear k0 k1 k2 k3 k4 k5 l0 l1 l2 l3 l4 l5 l6 hne h2 HC HRg HRz HX HS HSw;cases b1 with
   | false =>
    have HN:=hid (HNo.o (fun h=>by have:=(HDf.o.1 h).1;cases this));clear HNo HYes HDf;go_wp2_with fail
    (try rw[Exit.noGoto_ret])
    go_ret;exact⟨_,rfl,⟨true,rfl,⟨fun _=>HN.o,fun _=>rfl⟩⟩,HSw2.o⟩
   | true =>
    go_wp2_with fail;go_loopw [7] (fun u wx=>∃k:Nat,k<=i/\u=.int .i64 (k:Int)/\Hid (∀j,j<k->XR (cm l j) x=false)/\Yc (Vm w F) wx) (fun u _=>i-(intOf u).toNat);case atStart=>exact⟨0,by omega,rfl,hid (fun j hj=>by omega),HS2.o⟩
    case round =>
     clear HS2 HSw2;obtain⟨k,hk,rfl,HT,hs⟩:=hrel;have HS:=hid hs;have HSw:=hid (HA0.o.trans hs);by_cases hki:k<i
     ·have hlk:(k:Int)<(i:Int):=by omega
      have hkn:k<n:=by omega
      have hkn':(k:Int)<(n:Int):=by omega
      have hr1:=HR.o.sT HSw.o;obtain⟨x0,x1,x2,x3,x4,x5,x6⟩:=rdX hr1 hin;obtain⟨y0,y1,y2,y3,y4,y5,y6⟩:=rdX hr1 hkn;have HNx:=hid (show XR (cm l k) x=true->Vj F.p l from fun e=>HNo.o (fun h=>by have:=(HDf.o.1 h).2 k hki;rw[e]at this;cases this));have HYx:=hid (show XR (cm l k) x=false->∀j,j<k+1->XR (cm l j) x=false from fun e j hj=>by
       by_cases ej:j=k
       ·subst ej;exact e
       ·exact HT.o j (by omega))
      rw[EX.o]at x0 x1 x2 x3 x4 x5 x6;have HTw:Hid (XR (cm l k) x=(((cm l k).pe == x.pe) && ((cm l k).sq == x.sq))):=hid rfl;obtain⟨y,ey⟩:∃y,cm l k=y:=⟨_,rfl⟩;rw[ey]at y0 y1 y2 y3 y4 y5 y6 HTw HNx HYx;have l0:=kC x0;have l1:=kC x1;have l2:=kC x2;have l3:=kC x3;have l4:=kC x4;have l5:=kC x5;have l6:=kC x6;have q0:=kC y0;have q1:=kC y1;have q2:=kC y2;have q3:=kC y3;have q4:=kC y4;have q5:=kC y5;have q6:=kC y6;have hne:=Aft.here wr;clear x0 x1 x2 x3 x4 x5 x6 y0 y1 y2 y3 y4 y5 y6 hr1 hs ey;cases b2:y.pe == x.pe with
      | false =>
       have HY1:=hid (HYx.o (by rw[HTw.o,b2];rfl));clear HNx HYx HTw;go_upto_region 10 with fail;refine Yk (by kernel_rfl) (by kernel_rfl) ?_;repeat(go_big_quiet_step (fail))
       refine wpQuiet_nil ?_;intro w3 h3;have HS3:=hid (HS.o.trans h3);clear l0 l1 l2 l3 l4 l5 l6 q0 q1 q2 q3 q4 q5 q6 hne h3 HS HSw;go_wp2_with fail;go_roundw;case rel=>exact⟨k+1,by omega,by go_num,HY1,HS3.o⟩
       case measure=>first|(simp[intOf];done)|(simp[intOf];omega)
      | true =>
       cases b3:y.sq == x.sq with
       | false =>
        have HY1:=hid (HYx.o (by rw[HTw.o,b2,b3];rfl));clear HNx HYx HTw;go_upto_region 10 with fail;refine Yk (by kernel_rfl) (by kernel_rfl) ?_;repeat(go_big_quiet_step (fail))
        refine wpQuiet_nil ?_;intro w3 h3;have HS3:=hid (HS.o.trans h3);clear l0 l1 l2 l3 l4 l5 l6 q0 q1 q2 q3 q4 q5 q6 hne h3 HS HSw;go_wp2_with fail;go_roundw;case rel=>exact⟨k+1,by omega,by go_num,HY1,HS3.o⟩
        case measure=>first|(simp[intOf];done)|(simp[intOf];omega)
       | true =>
        have HN:=hid (HNx.o (by rw[HTw.o,b2,b3];rfl));clear HNx HYx HTw;go_upto_region 10 with fail;refine Yk (by kernel_rfl) (by kernel_rfl) ?_;repeat(go_big_quiet_step (fail))
        refine wpQuiet_nil ?_;intro w3 h3;have HSw3:=hid (HSw.o.trans h3);clear l0 l1 l2 l3 l4 l5 l6 q0 q1 q2 q3 q4 q5 q6 hne h3 HS HSw;go_wp2_with fail
        (try rw[Exit.noGoto_ret])
        go_ret;exact⟨_,rfl,⟨true,rfl,⟨fun _=>HN.o,fun _=>rfl⟩⟩,HSw3.o⟩
     ·have hge:¬(k:Int)<(i:Int):=by omega
      obtain rfl:k=i:=by omega
      have HY1:=hid (HYes.o (HDf.o.2 ⟨by first|rfl|trivial,HT.o⟩));clear hki hs;go_wp2_with fail;go_roundw;case rel=>exact⟨k+1,by omega,by go_num,HY1,HS.o⟩
      case measure=>first|(simp[intOf];done)|(simp[intOf];omega)
  ·have hge:¬(i:Int)<(n:Int):=by omega
   have HE:Hid (¬Vj F.p l):=hid (refA_iff.1 (fun j hj=>HJ.o j (by have:=HL.o;omega)));clear hin hs;go_wp2_with fail;go_ret;exact⟨_,rfl,⟨false,rfl,⟨fun h=>(by cases h),fun h=>absurd h HE.o⟩⟩,HSw.o⟩
end
end Go.Proofs.YtcgmohldcokccaaGreatDoor
