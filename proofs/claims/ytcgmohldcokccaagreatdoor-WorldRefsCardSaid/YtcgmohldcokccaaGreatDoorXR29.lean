import Derived.Test.YtcgmohldcokccaaGreatDoorXR28
import Derived.Test.YtcgmohldcokccaaGreatDoorXR10
import Derived.OwnWalk
set_option linter.unusedVariables false
set_option maxHeartbeats 8000000
set_option maxRecDepth 100000
namespace Go.Proofs.YtcgmohldcokccaaGreatDoor
section
open Go.RowKit
open Pu Gp Ap
theorem Ti:∃i,Tryz.prog.info? 3=some i/\i.zero=some (.int .i64 0)/\i.size=1/\i.bytes=8:=⟨_,rfl,rfl,rfl,rfl⟩
theorem OwI.take{e:TypeId}{w:World}{ao:Option Addr}{n cap:Nat}{bs:List Int}(h:OwI e w ao n cap bs){i:Nat}(hi:i<=n):OwI e w ao i cap (bs.take i):=⟨h.rd.take hi,h.row⟩
def stL(s:ByteArray)(n:Nat):List Int:=(List.range n).map fun(i:Nat)=>fnd s (49+(i:Int)) 0
theorem Co(s:ByteArray)(n:Nat):stL s (n+1)=stL s n ++ [fnd s (49+(n:Int)) 0]:=by simp[stL,List.range_succ]
theorem QD(s:ByteArray)(n:Nat):(stL s n).length=n:=by simp[stL]
theorem Tj(C R:Int)(s:ByteArray)(w:World) :
  Calls Tryz.prog 92 #[ar C R s] w fun e w'=>∃ao cap,e=.returned (.slice ao (mny s) cap)/\OwI 3 w' ao (mny s) cap (stL s (mny s))/\Yc w w'/\∀a,ao=some a->w.heap.size<=a.block:=by
 obtain⟨i0,hi,hz0,hz1,hz2⟩:=Ti;obtain⟨T,eT⟩:∃T,T=mny s:=⟨_,rfl⟩;have HT:=hid (show T=ZO s 6 0 from eT);rw[<- eT];clear eT;have p:=YA w C R s;have HS0:=hid (sA w (.cells #[.int .i64 C,.int .i64 R,.string s] 24));go_enter Tryz.func92,Tryz.ntmps92;go_wp2_with fail;go_loopw [3,4] (fun v3 v4 wr=>∃(k:Nat) (ao:Option Addr) (cap:Nat),k<=6/\v3=.slice ao k cap/\v4=.int .u8 (49+(k:Int))/\T=ZO s (6-k) k/\OwI 3 wr ao k cap (stL s k)/\Yc (Yi w C R s) wr/\∀a,ao=some a->(Yi w C R s).heap.size<=a.block) (fun _ v _=>55-(intOf v).toNat);case atStart=>exact⟨0,none,0,by omega,rfl,rfl,HT.o,OwI.empty _ _,Fr.refl _ _,fun _ h=>by cases h⟩
 case round =>
  obtain⟨k,ao,cap,hk,rfl,rfl,hf,ho,hst,hao⟩:=hrel;obtain⟨c0,c1,c2,cf⟩:=(p.sT hst).cells;have HE:=hid (show Yc w wr/\∀a,ao=some a->w.heap.size<=a.block from⟨HS0.o.trans hst,fun a h=>by have:=hao a h;rw[size_alloc]at this;omega⟩);by_cases hlt:k<6
  ·rw[show 6-k=(6-(k+1))+1 by omega,ZO]at hf;obtain⟨F,eF⟩:∃F,fnd s (49+(k:Int)) 0=F:=⟨_,rfl⟩;have HC:Hid (∀u:World,Yb 159 #[.string s,.int .u8 (49+(k:Int))] u (.int .i64 F)):=hid (fun u=>by
    have h:=Tryz.strings_IndexByte s (49+(k:Int)) u;rw[PV s _ (by omega) (by omega),eF]at h;exact h)
   have HL:=hid (show stL s (k+1)=stL s k ++ [F] by rw[Co,eF]);rw[eF]at hf;clear eF;have wr8:IntKind.u8.wrap (49+(k:Int)+1)=49+(k:Int)+1:=by rw[IntKind.wrap_u8];omega
   by_cases hF:0<=F
   ·rw[if_pos hF]at hf;have HF:=hid hf;have hF':decide (F<0)=false:=decide_eq_false (by omega);clear hf hF;go_wp2_with (first|(go_at_call 159;refine(HC.o _).mono ?_;rintro e w' ⟨he,hw⟩;rw[he,hw];clear he hw w')|(at_builtin;refine Uc _ rfl _ _ 25 rfl 3 i0 Tryz.underlying25 hi hz0 hz1 hz2 ao (some ⟨wr.heap.size,0,none⟩) k cap 1 1 (stL s k) [F] rfl rfl (ho.alloc _) (OwI.one _ wr _).rd (by omega) ?_;intro ao' cap' w1 ho' hf' hn' _));obtain⟨hst',hao'⟩:=GP hst hao hf' hn';go_roundw;case rel=>exact⟨k+1,ao',cap',by omega,rfl,by go_num,HF.o,by rw[HL.o];exact ho',hst',hao'⟩
    case measure=>simp[intOf];omega
   ·rw[if_neg hF]at hf;have HF:=hid hf;have hF':F<0:=by omega
    clear hf hF;go_wp2_with (go_at_call 159;refine(HC.o _).mono ?_;rintro e w' ⟨he,hw⟩;rw[he,hw];clear he hw w');go_ret;exact⟨ao,cap,by rw[HF.o];rfl,by rw[HF.o];exact ho,HE.o.1,HE.o.2⟩
  ·obtain rfl:k=6:=by omega
   have HF:=hid (show T=6 by rw[hf];rfl);clear hf;go_wp2_with fail;go_ret;exact⟨ao,cap,by rw[HF.o];rfl,by rw[HF.o];exact ho,HE.o.1,HE.o.2⟩
theorem Tl(c:Int){t:Bool}(h:Vr c=t)(w:World):Yb 212 #[.int .u8 c] w (.bool t):=by
 rw[<- h];exact Ta c w
theorem Cp(s:ByteArray)(hz:s.size<=281474976710656)(w:World) :
  Yb 156 #[.string s] w (.int .i64 ((Z4 s s.size:Nat):Int)):=by
 obtain⟨T,eT⟩:∃T,T=Z4 s s.size:=⟨_,rfl⟩;have HT:=hid eT;rw[<- eT];clear eT;go_enter Tryz.func156,Tryz.ntmps156;go_wp2_with fail;go_loop [3,7] (fun v u=>∃j:Nat,j<=s.size/\u=.int .i64 (j:Int)/\v=.int .i64 ((Z4 s j:Nat):Int)) (fun _ u=>s.size-(intOf u).toNat);case atStart=>exact⟨0,by omega,rfl,rfl⟩
 case round =>
  obtain⟨j,hj,rfl,rfl⟩:=hrel;have sl:=DN s j;have HX:=hid (show Z4 s (j+1)=Z4 s j+if(49<=byt s j/\byt s j<=54)then 1 else 0 from rfl);obtain⟨n,en⟩:∃n,Z4 s j=n:=⟨_,rfl⟩;have HN:=hid en;rw[en]at sl HX⊢;clear en;by_cases hlt:j<s.size
  ·have e:=ZJ s j hlt;obtain⟨b,eb⟩:∃b,byt s j=b:=⟨_,rfl⟩;rw[eb]at e HX;clear eb;cases hm:Vr b with
   | true =>
    have HM:=hid (fun u=>Tl b hm u);have HF:=hid (show Z4 s (j+1)=n+1 by
     rw[HX.o,if_pos];unfold Vr at hm;simpa using hm)
    clear hm HX;go_wp2_with (go_at_call 212;refine(HM.o _).mono ?_;rintro e w' ⟨he,hw⟩;rw[he,hw];clear he hw w');go_round
    case rel=>exact⟨j+1,by omega,by go_num,by rw[HF.o];go_num⟩
    case measure=>simp[intOf];omega
   | false =>
    have HM:=hid (fun u=>Tl b hm u);have HF:=hid (show Z4 s (j+1)=n by
     rw[HX.o,if_neg,Nat.add_zero];unfold Vr at hm;simp only[Bool.and_eq_false_iff,decide_eq_false_iff_not]at hm;omega)
    clear hm HX;go_wp2_with (go_at_call 212;refine(HM.o _).mono ?_;rintro e w' ⟨he,hw⟩;rw[he,hw];clear he hw w');go_round
    case rel=>exact⟨j+1,by omega,by go_num,by rw[HF.o]⟩
    case measure=>simp[intOf];omega
  ·have HF:=hid (show((n:Nat):Int)=(T:Nat) by rw[HT.o,<- HN.o,show s.size=j by omega]);clear HX;go_wp2_with fail;go_ret;exact⟨Ze HF.o,rfl⟩
theorem Tm:∀n,YQ (fun _=>false) n=n
 | 0=>rfl
 | n+1=>by rw[YQ,Tm n];rfl
def slN(v:Value):Nat:=match v with
 | .slice _ n _=>n
 | _=>0
theorem Rb.keep{F:Nat->Prop}{w w':World}{g n:Nat}{I:Nat->Bool}(h:Rb w g n I)(hf:Fr F w w')(hn:¬F g):Rb w' g n I:=hf.kept h hn
theorem Ab.keep{F:Nat->Prop}{w w':World}{b:Nat}{C R:Int}{s:ByteArray}(h:Ab w b C R s)(hf:Fr F w w')(hn:¬F b):Ab w' b C R s:=hf.kept h hn
theorem QE{w wr w1:World}{C R:Int}{s:ByteArray}{N m n cap:Nat}{ao ao':Option Addr}{J:Nat->Bool}{V:List Int}{o:Obj}(ha:Ab wr w.heap.size C R s)(hr:Rb wr (w.heap.size+1) N J)(hm:m<N)(_ho:OwI 3 wr ao n cap V)(hs:Yc w wr)(hb:∀a,ao=some a->w.heap.size+2<=a.block)
  (hf:Fr (fun k=>∃a,ao=some a/\a.block=k) ((wr.setCell ⟨w.heap.size+1,m,none⟩ (.bool true)).alloc o) w1) (hn:∀a,ao'=some a->ao=some a\/((wr.setCell ⟨w.heap.size+1,m,none⟩ (.bool true)).alloc o).heap.size<=a.block) :
  Ab w1 w.heap.size C R s/\Rb w1 (w.heap.size+1) N (upd J m)/\Yc w w1/\∀a,ao'=some a->w.heap.size+2<=a.block:=by
 have hr1:=hr.set hm;have ha1:Ab (wr.setCell ⟨w.heap.size+1,m,none⟩ (.bool true)) w.heap.size C R s:=by
  unfold Ab;rw[heap_setCell_other _ _ _ _ (show w.heap.size≠w.heap.size+1 by omega)];exact ha
 have hs1:Yc w (wr.setCell ⟨w.heap.size+1,m,none⟩ (.bool true)):=Fr.setCell hs _ _ (.inr (show w.heap.size<=w.heap.size+1 by omega));have hlt:=Yz hr1;refine⟨(ha1.sT (sA _ o)).keep hf ?_,(hr1.sT (sA _ o)).keep hf ?_,Fr.trans (Fr.alloc hs1 o) hf ?_,fun a h=>?_⟩
 ·rintro⟨a,h1,h2⟩;have:=hb a h1;omega
 ·rintro⟨a,h1,h2⟩;have:=hb a h1;omega
 ·rintro k hk ⟨a,h1,rfl⟩;have:=hb a h1;omega
 ·rcases hn a h with h1|h1
  ·exact hb a h1
  ·rw[size_alloc]at h1;omega
theorem OwI.setB{w wr:World}{n cap m:Nat}{ao:Option Addr}{V:List Int}(h:OwI 3 wr ao n cap V)(hb:∀a,ao=some a->w.heap.size+2<=a.block)(v:Value):OwI 3 (wr.setCell ⟨w.heap.size+1,m,none⟩ v) ao n cap V:=
 h.kept (F:=fun k=>k=w.heap.size+1) ((Fr.refl _ wr).setCell _ _ (.inl rfl)) (fun a ha e=>by have:=hb a ha;omega)
theorem QF{w:World}(wr:World)(m:Nat)(x:Int):RdI ((wr.setCell ⟨w.heap.size+1,m,none⟩ (.bool true)).alloc (.cells #[.int .i64 x] 3)) (some ⟨wr.heap.size,0,none⟩) 1 1 [x]:=by
 have h:=(OwI.one 3 (wr.setCell ⟨w.heap.size+1,m,none⟩ (.bool true)) x).rd;have e:(wr.setCell ⟨w.heap.size+1,m,none⟩ (.bool true)).heap.size=wr.heap.size:=by simp[World.setCell]
 rw[e]at h;exact h
theorem Cq(C R:Nat)(s:ByteArray)(f:Nat)(hform:YL (C:Int) (R:Int) s=true)(hf:f<s.size)(hff:byt s f≠35)(w:World) :
    Calls Tryz.prog 157 #[ar (C:Int) (R:Int) s,.int .i64 (f:Int)] w fun e w'=>∃g I,e=.returned (.slice (some ⟨g,0,none⟩) s.size s.size)/\IsR C s.size s f I/\Rb w' g s.size I/\Yc w w':=by
  obtain⟨q1,q2,q3,q4,q5,q6⟩:=Xs hform;clear q5;have hmk:=fun u=>BE u s.size (by omega);have p:=(YA w C R s).sT (sA (Yi w C R s) (.cells (rowB (fun _=>false) s.size) 4));have q:Rb ((Yi w C R s).alloc (.cells (rowB (fun _=>false) s.size) 4)) (w.heap.size+1) s.size (fun _=>false):=by
    have:=heap_alloc_new (Yi w C R s) (.cells (rowB (fun _=>false) s.size) 4);rw[size_alloc]at this;exact this
  have HS0:=hid ((sA w (.cells #[.int .i64 (C:Int),.int .i64 (R:Int),.string s] 24)).trans (sA (Yi w C R s) (.cells (rowB (fun _=>false) s.size) 4)));obtain⟨c0,c1,c2,cf⟩:=(YA w C R s).cells;have c3:=q.cell hf;have c4:=q.frozen f;simp only[Yi]at c0 c1 c2 cf c3 c4 p q HS0;have hfi:(f:Int)<(s.size:Int):=by omega
  go_in
  go_wp21
  have p2:Ab (((w.alloc (.cells #[.int .i64 (C:Int),.int .i64 (R:Int),.string s] 24)).alloc (.cells ((rowB (fun _=>false) s.size).setIfInBounds f (.bool true)) 4)).alloc (.cells #[.int .i64 (f:Int)] 3)) w.heap.size C R s:=
    ((YA w C R s).sT (sA _ _)).sT (sA _ _)
  have q2:Rb (((w.alloc (.cells #[.int .i64 (C:Int),.int .i64 (R:Int),.string s] 24)).alloc (.cells ((rowB (fun _=>false) s.size).setIfInBounds f (.bool true)) 4)).alloc (.cells #[.int .i64 (f:Int)] 3)) (w.heap.size+1) s.size (upd (fun _=>false) f):=by
    have:=heap_alloc_new (Yi w C R s) (.cells ((rowB (fun _=>false) s.size).setIfInBounds f (.bool true)) 4);rw[size_alloc,J7 _ hf]at this;rw[J7 _ hf];exact Rb.sT this (sA _ _)
  have o2:=OwI.one 3 ((w.alloc (.cells #[.int .i64 (C:Int),.int .i64 (R:Int),.string s] 24)).alloc (.cells ((rowB (fun _=>false) s.size).setIfInBounds f (.bool true)) 4)) (f:Int);simp only[size_alloc]at o2;have HS2:=hid (((sA w (.cells #[.int .i64 (C:Int),.int .i64 (R:Int),.string s] 24)).trans (sA (Yi w C R s) (.cells ((rowB (fun _=>false) s.size).setIfInBounds f (.bool true)) 4))).trans (sA _ (.cells #[.int .i64 (f:Int)] 3)));have HK0:=hid (Wk.start (C:=C) hf hff);have HFM:=hid hform;obtain⟨i0,hi0,hz0,hz1,hz2⟩:=Ti;go_loopw [6] (fun v wr=>∃(I:Nat->Bool) (W:List Int) (ao:Option Addr) (cap:Nat),v=.slice ao W.length cap/\Ab wr w.heap.size C R s/\Rb wr (w.heap.size+1) s.size I/\OwI 3 wr ao W.length cap W/\Wk C s f I W none/\2*YQ I s.size+W.length<=2*s.size/\Yc w wr/\∀a,ao=some a->w.heap.size+2<=a.block) (fun v wr=>2*J9 wr (w.heap.size+1) s.size+slN v);case atStart=>exact⟨upd (fun _=>false) f,[(f:Int)],some ⟨w.heap.size+1+1,0,none⟩,1,rfl,p2,q2,o2,HK0.o,by have h:=XG (I:=fun _=>false) (k:=f) rfl (n:=s.size) hf;rw[Tm]at h;simp only[List.length_singleton];omega,HS2.o,fun a h=>by cases h;exact Nat.le_refl _⟩
  case round =>
    obtain⟨I,W,ao,cap,rfl,a3,r3,o3,k3,hcnt,hs,hb⟩:=hrel;have HS3:=hid hs;have HB3:=hid hb;clear hs hb p2 q2 o2 HS2 HK0;by_cases hW:W=[]
    · subst hW
      have HR:=hid (k3.isR (by omega));clear k3;go_wp21
      go_ret;exact⟨_,I,rfl,HR.o,r3,HS3.o⟩
    · obtain⟨V, i, rfl⟩ : ∃(V : List Int) (i : Nat), W = V ++ [(i : Int)]:=by
        obtain⟨i,e,_⟩:=k3.work (W.getLast hW) (List.getLast_mem hW);exact⟨W.dropLast,i,by rw[<- e];exact(List.dropLast_concat_getLast hW).symm⟩
      obtain⟨k4,hIi⟩:=k3.pop;obtain⟨b1,b2,b3⟩:=k3.in_ i hIi;obtain⟨l1,l2⟩:=DU HFM.o b1 b2;obtain⟨g,rfl⟩:=o3.head (by simp);have cg:=o3.rd.byte (k:=V.length) (by simp);simp only[Nat.zero_add,List.getElem_concat_length]at cg;have o4:=o3.take (i:=V.length) (by simp);rw[List.take_left]at o4;have hcap:=o3.rd.le;have hmax:=o3.rd.max;have HM:=hid (JA r3 (Nat.le_refl _));have HW0:=hid k4;have HI0:=hid hIi;clear o3 k3 k4 hIi b3 hW b2;simp only[List.length_append,List.length_singleton]at hcap hcnt⊢;unfold maxLen at hmax;have c0c:=a3.cells;obtain⟨m0,e0⟩:∃m0,i-C=m0:=⟨_,rfl⟩;obtain⟨m1,e1⟩:∃m1,i-1=m1:=⟨_,rfl⟩;obtain⟨m2,e2⟩:∃m2,i+1=m2:=⟨_,rfl⟩;obtain⟨m3,e3⟩:∃m3,i+C=m3:=⟨_,rfl⟩;have z0:(i:Int)-(C:Int)=(m0:Int):=by omega
      have z1:(i:Int)-1=(m1:Int):=by omega
      have z2:(i:Int)+1=(m2:Int):=by omega
      have z3:(i:Int)+(C:Int)=(m3:Int):=by omega
      have HNB:=hid (show nbr C i 0=m0/\nbr C i 1=m1/\nbr C i 2=m2/\nbr C i 3=m3 from⟨e0,e1,e2,e3⟩);have y0:m0<s.size:=by omega
      have y1:m1<s.size:=by omega
      have y2:m2<s.size:=by omega
      have y3:m3<s.size:=by omega
      clear e0 e1 e2 e3;go_wp21
      clear c0 c1 c2 cf cg z0 z1 z2 z3;go_loopw [6, 46] (fun v6 vk wt => ∃(k : Nat) (J : Nat -> Bool) (V' : List Int) (ao' : Option Addr) (cap' : Nat), k <= 4 /\ vk = .int .i64 (k : Int) /\ v6 = .slice ao' V'.length cap' /\ Ab wt w.heap.size C R s /\ Rb wt (w.heap.size + 1) s.size J /\ OwI 3 wt ao' V'.length cap' V' /\ Wk C s f J V' (some i) /\ J i = true /\
          (∀x,x<k->byt s (nbr C i x)≠35->J (nbr C i x)=true)/\2*YQ J s.size+V'.length<=2*YQ I s.size+V.length/\Yc w wt/\∀a,ao'=some a->w.heap.size+2<=a.block) (fun _ vk _=>4-(intOf vk).toNat)
      case atStart=>exact⟨0,I,V,_,cap,by omega,rfl,rfl,a3,r3,o4,HW0.o,HI0.o,fun x hx=>by omega,Nat.le_refl _,HS3.o,HB3.o⟩
      case round =>
        obtain⟨k,J,V',ao',cap',hk4,rfl,rfl,a5,r5,o5,w5,j5,dn5,c5,hs,hb⟩:=hrel;have HW5:=hid w5;have HJ5:=hid j5;have HDN:=hid dn5;have HC5:=hid c5;have HS5:=hid hs;have HB5:=hid hb;have hlen:V'.length<=2000:=by omega
        clear w5 j5 dn5 hs hb a3 r3 o4;have c0c:=a5.cells;by_cases hlt:k<4
        · rcases(show k=0\/k=1\/k=2\/k=3 by omega)with rfl|rfl|rfl|rfl
          · have ix:∀u:World,(Instr.index 238 (.agg #[.int .i64 (m0:Int),.int .i64 (m1:Int),.int .i64 (m2:Int),.int .i64 (m3:Int)]) (.int .i64 0)).run Tryz.prog u=.ok (.int .i64 (m0:Int)) u:=fun _=>by kernel_rfl
            have hy:=ZJ s m0 y0;have hn:=HNB.o.1;obtain⟨b,eb⟩:∃b,byt s m0=b:=⟨_,rfl⟩;rw[eb]at hy;have yi:(m0:Int)<(s.size:Int):=by omega
            have kc:=r5.cell (i:=m0) y0;have kf:=r5.frozen m0;by_cases h35:b=35
            · have n35:(b != 35)=false:=by simpa using h35
              have HD:=hid (show ∀x,x<0+1->byt s (nbr C i x)≠35->J (nbr C i x)=true from fun x hx hb=>by
                by_cases e:x=0
                · subst e;rw[hn,eb]at hb;exact absurd h35 hb
                · exact HDN.o x (by omega) hb)
              clear eb h35 kc kf;go_wp21
              go_roundw;case rel=>exact⟨0+1,J,V',ao',cap',by omega,by go_num,rfl,a5,r5,o5,HW5.o,HJ5.o,HD.o,HC5.o,HS5.o,HB5.o⟩
              case measure=>simp[intOf]
            · have n35:(b != 35)=true:=by simpa using h35
              cases hJ:J m0 with
              | true =>
                rw[hJ]at kc;have HD:=hid (show ∀x,x<0+1->byt s (nbr C i x)≠35->J (nbr C i x)=true from fun x hx hb=>by
                  by_cases e:x=0
                  · subst e;rw[hn];exact hJ
                  · exact HDN.o x (by omega) hb)
                clear eb h35 hJ;go_wp21
                go_roundw;case rel=>exact⟨0+1,J,V',ao',cap',by omega,by go_num,rfl,a5,r5,o5,HW5.o,HJ5.o,HD.o,HC5.o,HS5.o,HB5.o⟩
                case measure=>simp[intOf]
              | false =>
                rw[hJ]at kc;have HP:=hid (show Wk C s f (upd J m0) (V' ++ [(m0:Int)]) (some i) by
                  have h:=HW5.o.push (k:=0) HFM.o HJ5.o (by rw[hn,eb];exact h35);rw[hn]at h;exact h)
                have HU:=hid (show ∀j,J j=true->upd J m0 j=true from fun j hj=>by
                  unfold upd;split
                  · rfl
                  · exact hj)
                have HV:=hid (XG hJ (n:=s.size) y0);have HD:=hid (show ∀x,x<0+1->byt s (nbr C i x)≠35->upd J m0 (nbr C i x)=true from fun x hx hb=>by
                  by_cases e:x=0
                  · subst e;rw[hn];simp[upd]
                  · exact HU.o _ (HDN.o x (by omega) hb))
                have HO1:=hid ((OwI.setB (m:=m0) o5 HB5.o (.bool true)).alloc (.cells #[.int .i64 (m0:Int)] 3));have HO2:=hid (QF (w:=w) wr m0 (m0:Int));clear eb h35 hJ;go_wp2_with (at_builtin;refine Uc _ rfl _ _ 25 rfl 3 i0 Tryz.underlying25 hi0 hz0 hz1 hz2 ao' (some ⟨wr.heap.size,0,none⟩) V'.length cap' 1 1 V' [(m0:Int)] rfl rfl HO1.o HO2.o (by omega) ?_;intro ao'' cap'' w1 ho' hf' hn' _);obtain⟨a6,r6,hs6,hb6⟩:=QE a5 r5 y0 o5 HS5.o HB5.o hf' hn';go_roundw;case rel=>exact⟨0+1,upd J m0,V' ++ [(m0:Int)],ao'',cap'',by omega,by go_num,by simp,a6,r6,by simpa using ho',HP.o,HU.o _ HJ5.o,HD.o,by have h1:=HC5.o;have h2:=HV.o;simp only[List.length_append,List.length_singleton];omega,hs6,hb6⟩
                case measure=>simp[intOf]
          · have ix:∀u:World,(Instr.index 238 (.agg #[.int .i64 (m0:Int),.int .i64 (m1:Int),.int .i64 (m2:Int),.int .i64 (m3:Int)]) (.int .i64 1)).run Tryz.prog u=.ok (.int .i64 (m1:Int)) u:=fun _=>by kernel_rfl
            have hy:=ZJ s m1 y1;have hn:nbr C i 1=m1:=HNB.o.2.1;obtain⟨b,eb⟩:∃b,byt s m1=b:=⟨_,rfl⟩;rw[eb]at hy;have yi:(m1:Int)<(s.size:Int):=by omega
            have kc:=r5.cell (i:=m1) y1;have kf:=r5.frozen m1;by_cases h35:b=35
            · have n35:(b != 35)=false:=by simpa using h35
              have HD:=hid (show ∀x,x<1+1->byt s (nbr C i x)≠35->J (nbr C i x)=true from fun x hx hb=>by
                by_cases e:x=1
                · subst e;rw[hn,eb]at hb;exact absurd h35 hb
                · exact HDN.o x (by omega) hb)
              clear eb h35 kc kf;go_wp21
              go_roundw;case rel=>exact⟨1+1,J,V',ao',cap',by omega,by go_num,rfl,a5,r5,o5,HW5.o,HJ5.o,HD.o,HC5.o,HS5.o,HB5.o⟩
              case measure=>simp[intOf]
            · have n35:(b != 35)=true:=by simpa using h35
              cases hJ:J m1 with
              | true =>
                rw[hJ]at kc;have HD:=hid (show ∀x,x<1+1->byt s (nbr C i x)≠35->J (nbr C i x)=true from fun x hx hb=>by
                  by_cases e:x=1
                  · subst e;rw[hn];exact hJ
                  · exact HDN.o x (by omega) hb)
                clear eb h35 hJ;go_wp21
                go_roundw;case rel=>exact⟨1+1,J,V',ao',cap',by omega,by go_num,rfl,a5,r5,o5,HW5.o,HJ5.o,HD.o,HC5.o,HS5.o,HB5.o⟩
                case measure=>simp[intOf]
              | false =>
                rw[hJ]at kc;have HP:=hid (show Wk C s f (upd J m1) (V' ++ [(m1:Int)]) (some i) by
                  have h:=HW5.o.push (k:=1) HFM.o HJ5.o (by rw[hn,eb];exact h35);rw[hn]at h;exact h)
                have HU:=hid (show ∀j,J j=true->upd J m1 j=true from fun j hj=>by
                  unfold upd;split
                  · rfl
                  · exact hj)
                have HV:=hid (XG hJ (n:=s.size) y1);have HD:=hid (show ∀x,x<1+1->byt s (nbr C i x)≠35->upd J m1 (nbr C i x)=true from fun x hx hb=>by
                  by_cases e:x=1
                  · subst e;rw[hn];simp[upd]
                  · exact HU.o _ (HDN.o x (by omega) hb))
                have HO1:=hid ((OwI.setB (m:=m1) o5 HB5.o (.bool true)).alloc (.cells #[.int .i64 (m1:Int)] 3));have HO2:=hid (QF (w:=w) wr m1 (m1:Int));clear eb h35 hJ;go_wp2_with (at_builtin;refine Uc _ rfl _ _ 25 rfl 3 i0 Tryz.underlying25 hi0 hz0 hz1 hz2 ao' (some ⟨wr.heap.size,0,none⟩) V'.length cap' 1 1 V' [(m1:Int)] rfl rfl HO1.o HO2.o (by omega) ?_;intro ao'' cap'' w1 ho' hf' hn' _);obtain⟨a6,r6,hs6,hb6⟩:=QE a5 r5 y1 o5 HS5.o HB5.o hf' hn';go_roundw;case rel=>exact⟨1+1,upd J m1,V' ++ [(m1:Int)],ao'',cap'',by omega,by go_num,by simp,a6,r6,by simpa using ho',HP.o,HU.o _ HJ5.o,HD.o,by have h1:=HC5.o;have h2:=HV.o;simp only[List.length_append,List.length_singleton];omega,hs6,hb6⟩
                case measure=>simp[intOf]
          · have ix:∀u:World,(Instr.index 238 (.agg #[.int .i64 (m0:Int),.int .i64 (m1:Int),.int .i64 (m2:Int),.int .i64 (m3:Int)]) (.int .i64 2)).run Tryz.prog u=.ok (.int .i64 (m2:Int)) u:=fun _=>by kernel_rfl
            have hy:=ZJ s m2 y2;have hn:nbr C i 2=m2:=HNB.o.2.2.1;obtain⟨b,eb⟩:∃b,byt s m2=b:=⟨_,rfl⟩;rw[eb]at hy;have yi:(m2:Int)<(s.size:Int):=by omega
            have kc:=r5.cell (i:=m2) y2;have kf:=r5.frozen m2;by_cases h35:b=35
            · have n35:(b != 35)=false:=by simpa using h35
              have HD:=hid (show ∀x,x<2+1->byt s (nbr C i x)≠35->J (nbr C i x)=true from fun x hx hb=>by
                by_cases e:x=2
                · subst e;rw[hn,eb]at hb;exact absurd h35 hb
                · exact HDN.o x (by omega) hb)
              clear eb h35 kc kf;go_wp21
              go_roundw;case rel=>exact⟨2+1,J,V',ao',cap',by omega,by go_num,rfl,a5,r5,o5,HW5.o,HJ5.o,HD.o,HC5.o,HS5.o,HB5.o⟩
              case measure=>simp[intOf]
            · have n35:(b != 35)=true:=by simpa using h35
              cases hJ:J m2 with
              | true =>
                rw[hJ]at kc;have HD:=hid (show ∀x,x<2+1->byt s (nbr C i x)≠35->J (nbr C i x)=true from fun x hx hb=>by
                  by_cases e:x=2
                  · subst e;rw[hn];exact hJ
                  · exact HDN.o x (by omega) hb)
                clear eb h35 hJ;go_wp21
                go_roundw;case rel=>exact⟨2+1,J,V',ao',cap',by omega,by go_num,rfl,a5,r5,o5,HW5.o,HJ5.o,HD.o,HC5.o,HS5.o,HB5.o⟩
                case measure=>simp[intOf]
              | false =>
                rw[hJ]at kc;have HP:=hid (show Wk C s f (upd J m2) (V' ++ [(m2:Int)]) (some i) by
                  have h:=HW5.o.push (k:=2) HFM.o HJ5.o (by rw[hn,eb];exact h35);rw[hn]at h;exact h)
                have HU:=hid (show ∀j,J j=true->upd J m2 j=true from fun j hj=>by
                  unfold upd;split
                  · rfl
                  · exact hj)
                have HV:=hid (XG hJ (n:=s.size) y2);have HD:=hid (show ∀x,x<2+1->byt s (nbr C i x)≠35->upd J m2 (nbr C i x)=true from fun x hx hb=>by
                  by_cases e:x=2
                  · subst e;rw[hn];simp[upd]
                  · exact HU.o _ (HDN.o x (by omega) hb))
                have HO1:=hid ((OwI.setB (m:=m2) o5 HB5.o (.bool true)).alloc (.cells #[.int .i64 (m2:Int)] 3));have HO2:=hid (QF (w:=w) wr m2 (m2:Int));clear eb h35 hJ;go_wp2_with (at_builtin;refine Uc _ rfl _ _ 25 rfl 3 i0 Tryz.underlying25 hi0 hz0 hz1 hz2 ao' (some ⟨wr.heap.size,0,none⟩) V'.length cap' 1 1 V' [(m2:Int)] rfl rfl HO1.o HO2.o (by omega) ?_;intro ao'' cap'' w1 ho' hf' hn' _);obtain⟨a6,r6,hs6,hb6⟩:=QE a5 r5 y2 o5 HS5.o HB5.o hf' hn';go_roundw;case rel=>exact⟨2+1,upd J m2,V' ++ [(m2:Int)],ao'',cap'',by omega,by go_num,by simp,a6,r6,by simpa using ho',HP.o,HU.o _ HJ5.o,HD.o,by have h1:=HC5.o;have h2:=HV.o;simp only[List.length_append,List.length_singleton];omega,hs6,hb6⟩
                case measure=>simp[intOf]
          · have ix:∀u:World,(Instr.index 238 (.agg #[.int .i64 (m0:Int),.int .i64 (m1:Int),.int .i64 (m2:Int),.int .i64 (m3:Int)]) (.int .i64 3)).run Tryz.prog u=.ok (.int .i64 (m3:Int)) u:=fun _=>by kernel_rfl
            have hy:=ZJ s m3 y3;have hn:nbr C i 3=m3:=HNB.o.2.2.2;obtain⟨b,eb⟩:∃b,byt s m3=b:=⟨_,rfl⟩;rw[eb]at hy;have yi:(m3:Int)<(s.size:Int):=by omega
            have kc:=r5.cell (i:=m3) y3;have kf:=r5.frozen m3;by_cases h35:b=35
            · have n35:(b != 35)=false:=by simpa using h35
              have HD:=hid (show ∀x,x<3+1->byt s (nbr C i x)≠35->J (nbr C i x)=true from fun x hx hb=>by
                by_cases e:x=3
                · subst e;rw[hn,eb]at hb;exact absurd h35 hb
                · exact HDN.o x (by omega) hb)
              clear eb h35 kc kf;go_wp21
              go_roundw;case rel=>exact⟨3+1,J,V',ao',cap',by omega,by go_num,rfl,a5,r5,o5,HW5.o,HJ5.o,HD.o,HC5.o,HS5.o,HB5.o⟩
              case measure=>simp[intOf]
            · have n35:(b != 35)=true:=by simpa using h35
              cases hJ:J m3 with
              | true =>
                rw[hJ]at kc;have HD:=hid (show ∀x,x<3+1->byt s (nbr C i x)≠35->J (nbr C i x)=true from fun x hx hb=>by
                  by_cases e:x=3
                  · subst e;rw[hn];exact hJ
                  · exact HDN.o x (by omega) hb)
                clear eb h35 hJ;go_wp21
                go_roundw;case rel=>exact⟨3+1,J,V',ao',cap',by omega,by go_num,rfl,a5,r5,o5,HW5.o,HJ5.o,HD.o,HC5.o,HS5.o,HB5.o⟩
                case measure=>simp[intOf]
              | false =>
                rw[hJ]at kc;have HP:=hid (show Wk C s f (upd J m3) (V' ++ [(m3:Int)]) (some i) by
                  have h:=HW5.o.push (k:=3) HFM.o HJ5.o (by rw[hn,eb];exact h35);rw[hn]at h;exact h)
                have HU:=hid (show ∀j,J j=true->upd J m3 j=true from fun j hj=>by
                  unfold upd;split
                  · rfl
                  · exact hj)
                have HV:=hid (XG hJ (n:=s.size) y3);have HD:=hid (show ∀x,x<3+1->byt s (nbr C i x)≠35->upd J m3 (nbr C i x)=true from fun x hx hb=>by
                  by_cases e:x=3
                  · subst e;rw[hn];simp[upd]
                  · exact HU.o _ (HDN.o x (by omega) hb))
                have HO1:=hid ((OwI.setB (m:=m3) o5 HB5.o (.bool true)).alloc (.cells #[.int .i64 (m3:Int)] 3));have HO2:=hid (QF (w:=w) wr m3 (m3:Int));clear eb h35 hJ;go_wp2_with (at_builtin;refine Uc _ rfl _ _ 25 rfl 3 i0 Tryz.underlying25 hi0 hz0 hz1 hz2 ao' (some ⟨wr.heap.size,0,none⟩) V'.length cap' 1 1 V' [(m3:Int)] rfl rfl HO1.o HO2.o (by omega) ?_;intro ao'' cap'' w1 ho' hf' hn' _);obtain⟨a6,r6,hs6,hb6⟩:=QE a5 r5 y3 o5 HS5.o HB5.o hf' hn';go_roundw;case rel=>exact⟨3+1,upd J m3,V' ++ [(m3:Int)],ao'',cap'',by omega,by go_num,by simp,a6,r6,by simpa using ho',HP.o,HU.o _ HJ5.o,HD.o,by have h1:=HC5.o;have h2:=HV.o;simp only[List.length_append,List.length_singleton];omega,hs6,hb6⟩
                case measure=>simp[intOf]
        · obtain rfl:k=4:=by omega
          have HX:=hid (HW5.o.shut HDN.o);have HM2:=hid (JA r5 (Nat.le_refl _));clear hlt;go_wp21
          go_roundw;case rel=>exact⟨J,V',ao',cap',rfl,a5,r5,o5,HX.o,by omega,HS5.o,HB5.o⟩
          case measure =>
            have h1:=HM.o;have h2:=HM2.o;rw[h1,h2];simp only[slN];omega
theorem Cr{s:ByteArray}{n:Nat}(hn:0<n):(stL s n)[0]'(by rw[QD];exact hn)=fnd s 49 0:=by simp[stL]
theorem Tn(C N:Nat)(s:ByteArray)(f:Nat):∃I,IsR C N s f I:=by
 have d:∀i,Decidable (Rch C N s f i):=fun i=>Classical.propDecidable _;have k:∀j,decide (Rch C N s f j)=true->Rch C N s f j:=fun j h=>of_decide_eq_true h;exact⟨fun i=>decide (Rch C N s f i),decide_eq_true (KG C N s f),fun i h1 h2 h3 h4=>decide_eq_true (UI k h1 h2 h3 h4),k⟩
def Cs(C R:Int)(s:ByteArray)(e:Ending):Prop:=∃b:Bool,e=.returned (.bool b)/\Zg C R s (if b then 0 else 62)
theorem Ct(C R:Nat)(s:ByteArray)(hform:YL (C:Int) (R:Int) s=true)(w:World) :
  Calls Tryz.prog 91 #[ar (C:Int) (R:Int) s] w fun e w'=>Cs (C:Int) (R:Int) s e/\Yc w w':=by
 obtain⟨q1,q2,q3,q4,q5,q6⟩:=Xs hform;clear q5;have p:=YA w (C:Int) (R:Int) s;have HS0:=hid (sA w (.cells #[.int .i64 (C:Int),.int .i64 (R:Int),.string s] 24));have six:=QB s;have cl:=DN s s.size;have HF:=hid hform;have HC:Hid (∀u:World,Yb 156 #[.string s] u (.int .i64 ((Z4 s s.size:Nat):Int))):=hid (fun u=>Cp s (by omega) u);have HQ:=hid (FY hform);have H1:=hid (show 1<=mny s->∃f:Nat,fnd s 49 0=(f:Int)/\f<s.size/\byt s f≠35 from fun h=>by
  rcases UH s 49 0 (by omega)with⟨e,_⟩|⟨f,e,_,h2,h3,_⟩
  ·obtain⟨f,e',_⟩:=BH h;rw[e]at e';omega
  ·exact⟨f,e,h2,by omega⟩)
 obtain⟨n,en⟩:∃n,mny s=n:=⟨_,rfl⟩;obtain⟨c,ec⟩:∃c,Z4 s s.size=c:=⟨_,rfl⟩;have HE:=hid (And.intro en ec);rw[en]at six H1 HQ;rw[ec]at cl HC HQ;have HST:Hid (∀u:World,Calls Tryz.prog 92 #[ar (C:Int) (R:Int) s] u fun e w'=>∃ao cap,e=.returned (.slice ao n cap)/\OwI 3 w' ao n cap (stL s n)/\Yc u w'/\∀a,ao=some a->u.heap.size<=a.block):=hid (fun u=>by
  have h:=Tj (C:Int) (R:Int) s u;rw[en]at h;exact h)
 clear en ec hform;go_enter Tryz.func91,Tryz.ntmps91;obtain⟨c0,c1,c2,cf⟩:=p.cells;go_wp2_with fail;refine(HST.o _).mono ?_;rintro e w1 ⟨ao,cap,rfl,o1,h1,_⟩;have p1:=p.sT h1;have HS1:=hid (HS0.o.trans h1);clear p h1 HS0 HST c0 c1 c2 cf;obtain⟨c0,c1,c2,cf⟩:=p1.cells;by_cases hn:n<2
 ·have HX:=hid (show Zg (C:Int) (R:Int) s 62 from .inr (.inl ⟨HF.o,by rw[HE.o.1];exact hn,rfl⟩));go_wp2_with fail;go_ret;exact⟨⟨false,rfl,HX.o⟩,HS1.o⟩
 ·obtain⟨f,ef,hf,hff⟩:=H1.o (by omega);have HXB:=hid (show ∀I,IsR C s.size s f I->∀b:Bool,(decide (c=n) && ZH I s s.size)=b->Zg (C:Int) (R:Int) s (if b then 0 else 62)from fun I hI b hb =>
   .inr (.inr ⟨HF.o,by rw[HE.o.1];omega,f,I,ef,by rw[Int.toNat_natCast];exact hI,by rw[HE.o.1,HQ.o I,hb]⟩))
  obtain⟨g,rfl⟩:=o1.head (by omega);have cg:=o1.rd.byte (k:=0) (by rw[QD];omega);rw[Cr (by omega),ef]at cg;simp only[Nat.zero_add]at cg;clear ef H1 HQ;have HR:=hid (fun u=>Cq C R s f HF.o hf hff u);clear hff;by_cases hcn:c=n
  ·have hcn':((c:Int) != (n:Int))=false:=by rw[hcn];simp
   have HXC:=hid (show ∀I,IsR C s.size s f I->∀b:Bool,ZH I s s.size=b->Zg (C:Int) (R:Int) s (if b then 0 else 62)from fun I hI b hb=>HXB.o I hI b (by rw[hb,decide_eq_true hcn];rfl));clear hcn HXB;go_wp2_with (go_at_call 156;refine(HC.o _).mono ?_;rintro e w' ⟨he,hw⟩;rw[he,hw];clear he hw w');have f0:=kC c0;have f1:=kC c1;have f2:=kC c2;have f3:=kC cg;have hne:=Aft.here w1;refine Yp 4 (by kernel_rfl) (by kernel_rfl) ?_;simp only[tkd];repeat(go_big_quiet_step (fail))
   refine wpQuiet_nil ?_;intro w2 h2;have p2:=p1.sT h2;have HS2:=hid (HS1.o.trans h2);clear p1 h2 HS1 c0 c1 c2 cf cg o1 f0 f1 f2 f3 hne;go_wp2_with fail;refine(HR.o _).mono ?_;rintro e w3 ⟨G,I,rfl,hI,r3,h3⟩;have p3:=p2.sT h3;have HS3:=hid (HS2.o.trans h3);have HXI:=hid (fun b hb=>HXC.o I hI b hb);clear p2 h3 HS2 HXC hI HR;obtain⟨c0,c1,c2,cf⟩:=p3.cells;go_wp2_with fail;go_loop [27] (fun v=>∃j:Nat,j<=s.size/\v=.int .i64 (j:Int)/\ZH I s j=true) (fun v=>s.size-(intOf v).toNat);case atStart=>exact⟨0,by omega,rfl,rfl⟩
   case round =>
    obtain⟨j,hj,rfl,hm⟩:=hrel;by_cases hlt:j<s.size
    ·have e:=ZJ s j hlt;have kc:=r3.cell hlt;have HM1:=hid (show ZH I s (j+1)=(!((decide (49<=byt s j) && decide (byt s j<=54)) || byt s j == 42) || I j) by rw[ZH,hm];rfl);obtain⟨b,eb⟩:∃b,byt s j=b:=⟨_,rfl⟩;rw[eb]at e HM1;have HM2:=hid (show VJ b=((decide (49<=b) && decide (b<=54)) || b == 42)from rfl);clear eb hm;cases hb:VJ b with
     | false =>
      have HK:=hid (fun u=>QC b hb u);have HN:=hid (show ZH I s (j+1)=true by rw[HM1.o,<- HM2.o,hb];rfl);clear hb HM1 HM2 kc;go_wp2_with (go_at_call 158;refine(HK.o _).mono ?_;rintro e w' ⟨he,hw⟩;rw[he,hw];clear he hw w');go_round
      case rel=>exact⟨j+1,by omega,by go_num,HN.o⟩
      case measure=>simp[intOf];omega
     | true =>
      have HK:=hid (fun u=>QC b hb u);have HN:=hid (show ZH I s (j+1)=I j by rw[HM1.o,<- HM2.o,hb];rfl);clear hb HM1 HM2;cases hI:I j with
      | true =>
       rw[hI]at kc HN;clear hI;go_wp2_with (go_at_call 158;refine(HK.o _).mono ?_;rintro e w' ⟨he,hw⟩;rw[he,hw];clear he hw w');go_round
       case rel=>exact⟨j+1,by omega,by go_num,HN.o⟩
       case measure=>simp[intOf];omega
      | false =>
       rw[hI]at kc HN;have HZ:=hid (HXI.o false (FW (n:=j+1) (m:=s.size) (by omega) HN.o));clear hI;go_wp2_with (go_at_call 158;refine(HK.o _).mono ?_;rintro e w' ⟨he,hw⟩;rw[he,hw];clear he hw w');go_ret;exact⟨⟨false,rfl,HZ.o⟩,HS3.o⟩
    ·have HZ:=hid (HXI.o true (by rw[show s.size=j by omega];exact hm));clear hm;go_wp2_with fail;go_ret;exact⟨⟨true,rfl,HZ.o⟩,HS3.o⟩
  ·have hcn':((c:Int) != (n:Int))=true:=by simp;omega
   have HZ:=hid (show Zg (C:Int) (R:Int) s 62 by
    obtain⟨I,hI⟩:=Tn C s.size s f;exact HXB.o I hI false (by rw[decide_eq_false hcn];rfl))
   clear hcn HXB HR;go_wp2_with (go_at_call 156;refine(HC.o _).mono ?_;rintro e w' ⟨he,hw⟩;rw[he,hw];clear he hw w');go_ret;exact⟨⟨false,rfl,HZ.o⟩,HS1.o⟩
theorem QG(C R:Int)(s:ByteArray)(w:World) :
  Calls Tryz.prog 51 #[ar C R s] w fun e w'=>∃v,e=.returned (.int .i64 v)/\Zg C R s v/\Yc w w':=by
 have p:=YA w C R s;have HS0:=hid (sA w (.cells #[.int .i64 C,.int .i64 R,.string s] 24));obtain⟨c0,c1,c2,cf⟩:=p.cells;cases h:YL C R s with
 | false =>
  have HX:=hid (show Zg C R s 61 from .inl ⟨h,rfl⟩);have HF:=hid (fun u=>Th C R s h u);clear h;go_enter Tryz.func51,Tryz.ntmps51;go_wp2_with fail;refine(HF.o _).mono ?_;rintro e w1 ⟨rfl,h1⟩;have HS1:=hid (HS0.o.trans h1);clear h1 p HS0 c0 c1 c2 cf;go_wp2_with fail;go_ret;exact⟨61,rfl,HX.o,HS1.o⟩
 | true =>
  obtain⟨q1,q2,q3,q4,q5,q6⟩:=Xs h;obtain⟨c,rfl⟩:∃c:Nat,C=c:=⟨C.toNat,by omega⟩;obtain⟨r,rfl⟩:∃r:Nat,R=r:=⟨R.toNat,by omega⟩;have HB:=hid (fun u=>Ct c r s h u);have HF:=hid (fun u=>Th (c:Int) (r:Int) s h u);clear h q5;go_enter Tryz.func51,Tryz.ntmps51;go_wp2_with fail;refine(HF.o _).mono ?_;rintro e w1 ⟨rfl,h1⟩;have p1:=p.sT h1;have HS1:=hid (HS0.o.trans h1);clear h1 p HS0 c0 c1 c2 cf;obtain⟨c0,c1,c2,cf⟩:=p1.cells;go_wp2_with fail;refine(HB.o _).mono ?_;rintro e w2 ⟨⟨b,rfl,hv⟩,h2⟩;have HS2:=hid (HS1.o.trans h2);clear h2 p1 HS1 c0 c1 c2 cf;have HV:=hid hv;clear hv;cases b with
  | true =>
   go_wp2_with fail;go_ret;exact⟨0,rfl,HV.o,HS2.o⟩
  | false =>
   go_wp2_with fail;go_ret;exact⟨62,rfl,HV.o,HS2.o⟩
def Xx(ps:List (Int × Int)):List Value:=ps.flatMap fun p=>[.int .i64 p.1,.int .i64 p.2]
theorem Cu(ps qs:List (Int × Int)):Xx (ps ++ qs)=Xx ps ++ Xx qs:=by simp[Xx]
theorem Cv(ps:List (Int × Int)):∀u∈Xx ps,u.oneCell'=true:=by
 intro u hu;simp only[Xx,List.mem_flatMap]at hu;obtain⟨p,_,hp⟩:=hu;simp at hp;rcases hp with rfl|rfl<;>rfl
def OwP(w:World)(B:Nat)(v:Value)(ps:List (Int × Int)):Prop:=w.ownsRow B 57 2 v ps.length (Xx ps)
theorem OwP.nil(w:World)(B:Nat):OwP w B (.slice none 0 0) []:=World.ownsRow_nil w B _ 2
theorem OwP.keep{F:Nat->Prop}{w w':World}{B:Nat}{v:Value}{ps:List (Int × Int)}(h:OwP w B v ps)(hf:Fr F w w')(hF:∀k,F k->v.ownBlock≠some k):OwP w' B v ps:=by
 refine⟨h.1,?_⟩;rcases h.2 with hn|⟨g,cap,cur,rfl,hb,hg,rest⟩
 ·exact .inl hn
 ·exact .inr ⟨g,cap,cur,rfl,hb,hf.kept hg (fun h=>hF g h rfl),rest⟩
theorem OwP.sT{w w':World}{B:Nat}{v:Value}{ps:List (Int × Int)}(h:OwP w B v ps)(hf:Yc w w'):OwP w' B v ps:=h.keep hf (fun _ e=>e.elim)
theorem OwP.alloc{w:World}{B:Nat}{v:Value}{ps:List (Int × Int)}(h:OwP w B v ps)(o:Obj):OwP (w.alloc o) B v ps:=h.sT (sA w o)
theorem OwP.less{w:World}{B B':Nat}{v:Value}{ps:List (Int × Int)}(h:OwP w B v ps)(hb:B' <= B):OwP w B' v ps:=by
 refine⟨h.1,?_⟩;rcases h.2 with hn|⟨g,cap,cur,rfl,hg,rest⟩
 ·exact .inl hn
 ·exact .inr ⟨g,cap,cur,rfl,by omega,rest⟩
theorem OwP.block{w:World}{B k:Nat}{v:Value}{ps:List (Int × Int)}(h:OwP w B v ps)(hk:v.ownBlock=some k):B<=k/\k<w.heap.size:=h.lt k hk
theorem Cw:∃i,Tryz.prog.info? 57=some i/\i.zero=some (pt 0 0)/\i.size=2/\i.bytes=16:=⟨_,rfl,rfl,rfl,rfl⟩
theorem QH(w:World){ops:Array Oper}{rest:List Oper}{o:Oper}{a:Act}{Q:Exit->Act->World->Prop}(hgd:o.guard=none)(s x:Operand)
  (hop:o.op=.call { callee:=.builtin .append,args:=#[s,x],argTypes:=#[72,72] })
  (B g:Nat) (v:Value) (ps:List (Int × Int)) (p q:Int) (hs:a.eval s=v) (hx:a.eval x=.slice (some ⟨g,0,none⟩) 1 1) (ho:OwP w B v ps) (hr:Pb w g p q) (h47:ps.length<=100000) (hB:B<=w.heap.size)
  (h:∀v' w',OwP w' B v' (ps ++ [(p,q)])->Fr (fun k=>v.ownBlock=some k) w w'->wpList Tryz.prog ops Q rest (a.put o.dst v') w'):wpList Tryz.prog ops Q (o :: rest) a w:=by
 obtain⟨i,hi,hz,h1,h2⟩:=Cw;refine wpList_append_own (P:=Tryz.prog) w hgd s x 72 hop B 57 i (pt 0 0) 2 16 Tryz.underlying72 hi hz h1 h2 rfl (by omega) v ps.length (Xx ps) hs ho ⟨g,0,none⟩ 1 1 (Xx [(p,q)]) hx rfl ?_ (Cv _) (by unfold maxLen;omega) (by omega) hB ?_
 ·intro j u hu;rw[add_plain,Nat.zero_add];have hj:j<2:=by
   have:=(List.getElem?_eq_some_iff.1 hu).1;simpa[Xx]using this
  rcases(show j=0\/j=1 by omega)with rfl|rfl
  ·simp[Xx]at hu;subst hu;exact hr.cells.1
  ·simp[Xx]at hu;subst hu;exact hr.cells.2.1
 ·intro v' w' hown hgr _;refine h v' w' ?_ ⟨hgr.os,hgr.tape,hgr.output,hgr.size,fun k hk hn=>hgr.block k hk (fun e=>hn e.symm)⟩;unfold OwP;rw[Cu,List.length_append];exact hown
theorem QI{w0 w w':World}{B:Nat}{v:Value}{ps:List (Int × Int)}(hs:Yc w0 w)(ho:OwP w B v ps)(hf:Fr (fun k=>v.ownBlock=some k) w w')(hB:w0.heap.size<=B):Yc w0 w':=
 Fr.trans hs hf (fun k hk e=>by have:=(ho.block e).1;omega)
def ZB(C k:Nat):Int:=((k % C:Nat):Int)*4096+2048
def ZC(C k:Nat):Int:=((k / C:Nat):Int)*4096+2048
theorem To(C k:Nat)(R:Int)(s:ByteArray)(hC:1<=C)(hC2:C<=32)(hk:k<=768)(w:World) :
  Ya 93 #[ar (C:Int) R s,.int .i64 (k:Int)] w (pt (ZB C k) (ZC C k)):=by
 obtain⟨W,eW⟩:∃W,W=(Yh (Yi w (C:Int) R s) 0 0):=⟨_,rfl⟩;have a0:Ab W w.heap.size (C:Int) R s:=by rw[eW];exact(YA w (C:Int) R s).sT (sA _ _)
 have r:Pb W (w.heap.size+1) 0 0:=by rw[eW];have h:=Ys (Yi w (C:Int) R s) 0 0;simp only[size_alloc]at h;exact h
 have HF:=hid (show Yc w W by rw[eW];exact(sA w _).trans (sA _ _));have c0:=kC a0.cells.1;have HW:=hid eW;have hne:=Aft.here W;clear eW a0;have HB:=hid (show w.heap.size<=w.heap.size+1 by omega);have e1:(k:Int).tmod (C:Int)=((k % C:Nat):Int):=by rw[Int.tmod_eq_emod_of_nonneg (by omega)];exact(Int.natCast_emod k C).symm
 have e2:(k:Int).tdiv (C:Int)=((k / C:Nat):Int):=by rw[Int.tdiv_eq_ediv_of_nonneg (by omega)];exact(Int.natCast_ediv k C).symm
 have b1:k % C<=768:=Nat.le_trans (Nat.mod_le k C) hk;have b2:k / C<=768:=Nat.le_trans (Nat.div_le_self k C) hk;obtain⟨m,em⟩:∃m,k % C=m:=⟨_,rfl⟩;obtain⟨q,eq⟩:∃q,k / C=q:=⟨_,rfl⟩;have HV:=hid (show ZB C k=(m:Int)*4096+2048/\ZC C k=(q:Int)*4096+2048 by unfold ZB ZC;rw[em,eq];exact⟨rfl,rfl⟩);rw[em]at e1 b1;rw[eq]at e2 b2;rw[HV.o.1,HV.o.2];clear em eq;have nz:¬C=0:=by omega
 have W1:IntKind.i64.wrap (m:Int)=(m:Int):=by rw[IntKind.wrap_i64];omega
 have W2:IntKind.i64.wrap (q:Int)=(q:Int):=by rw[IntKind.wrap_i64];omega
 go_enter Tryz.func93,Tryz.ntmps93;go_wp2_with fail;have e:=HW.o;simp only[Yh,Yi]at e;rw[<- e];clear e HW;refine Yp 13 (by kernel_rfl) (by kernel_rfl) ?_;simp only[tkd];repeat(go_big_quiet_step (fail))
 refine wpQuiet_nil ?_;intro w1 hs;clear hne c0;have v:=r.sT hs;obtain⟨d0,d1,df⟩:=v.cells;go_wp2_with fail
 (try simp only[Exit.inBlock,Exit.then])
 exact bodyPost_ret ((v.set _ _).res rfl _ rfl) rfl ⟨rfl,Y3 (HF.o.trans hs) _ _ _ (.inr HB.o)⟩
theorem Tp(C k:Nat)(R:Int)(s:ByteArray)(hC:1<=C)(hC2:C<=32)(hk:k<=768)(w:World) :
  Ya 82 #[ar (C:Int) R s,.int .i64 (k:Int)] w (pt (ZB C k) (ZC C k)):=by
 obtain⟨W,eW⟩:∃W,W=(Yh (Yi w (C:Int) R s) 0 0):=⟨_,rfl⟩;have a0:Ab W w.heap.size (C:Int) R s:=by rw[eW];exact(YA w (C:Int) R s).sT (sA _ _)
 have r:Pb W (w.heap.size+1) 0 0:=by rw[eW];have h:=Ys (Yi w (C:Int) R s) 0 0;simp only[size_alloc]at h;exact h
 have HF:=hid (show Yc w W by rw[eW];exact(sA w _).trans (sA _ _));have c0:=kC a0.cells.1;have HW:=hid eW;have hne:=Aft.here W;clear eW a0;have HB:=hid (show w.heap.size<=w.heap.size+1 by omega);have e1:(k:Int).tmod (C:Int)=((k % C:Nat):Int):=by rw[Int.tmod_eq_emod_of_nonneg (by omega)];exact(Int.natCast_emod k C).symm
 have e2:(k:Int).tdiv (C:Int)=((k / C:Nat):Int):=by rw[Int.tdiv_eq_ediv_of_nonneg (by omega)];exact(Int.natCast_ediv k C).symm
 have b1:k % C<=768:=Nat.le_trans (Nat.mod_le k C) hk;have b2:k / C<=768:=Nat.le_trans (Nat.div_le_self k C) hk;obtain⟨m,em⟩:∃m,k % C=m:=⟨_,rfl⟩;obtain⟨q,eq⟩:∃q,k / C=q:=⟨_,rfl⟩;have HV:=hid (show ZB C k=4096*(m:Int)+2048/\ZC C k=4096*(q:Int)+2048 by unfold ZB ZC;rw[em,eq];omega);rw[em]at e1 b1;rw[eq]at e2 b2;rw[HV.o.1,HV.o.2];clear em eq;have nz:¬C=0:=by omega
 have W1:IntKind.i64.wrap (m:Int)=(m:Int):=by rw[IntKind.wrap_i64];omega
 have W2:IntKind.i64.wrap (q:Int)=(q:Int):=by rw[IntKind.wrap_i64];omega
 go_enter Tryz.func82,Tryz.ntmps82;go_wp2_with fail;have e:=HW.o;simp only[Yh,Yi]at e;rw[<- e];clear e HW;refine Yp 13 (by kernel_rfl) (by kernel_rfl) ?_;simp only[tkd];repeat(go_big_quiet_step (fail))
 refine wpQuiet_nil ?_;intro w1 hs;clear hne c0;have v:=r.sT hs;obtain⟨d0,d1,df⟩:=v.cells;go_wp2_with fail
 (try simp only[Exit.inBlock,Exit.then])
 exact bodyPost_ret ((v.set _ _).res rfl _ rfl) rfl ⟨rfl,Y3 (HF.o.trans hs) _ _ _ (.inr HB.o)⟩
def stP(C:Nat)(s:ByteArray)(n:Nat):List (Int × Int):=(List.range n).map fun(i:Nat)=>(ZB C (fnd s (49+(i:Int)) 0).toNat,ZC C (fnd s (49+(i:Int)) 0).toNat)
def spP(C:Nat)(s:ByteArray):Nat->List (Int × Int)
 | 0=>[]
 | n+1=>spP C s n ++ if byt s n=42 then [(ZB C n,ZC C n)]else []
theorem Tq(C:Nat)(s:ByteArray)(n:Nat):(stP C s n).length=n:=by simp[stP]
theorem Tr(C:Nat)(s:ByteArray)(n:Nat):stP C s (n+1)=stP C s n ++ [(ZB C (fnd s (49+(n:Int)) 0).toNat,ZC C (fnd s (49+(n:Int)) 0).toNat)]:=by simp[stP,List.range_succ]
theorem DV(C:Nat)(s:ByteArray):∀n,(spP C s n).length<=n
 | 0=>Nat.le_refl _
 | n+1=>by
  have:=DV C s n;rw[spP,List.length_append];split<;>simp<;>omega
def stV(C:Int)(s:ByteArray)(v:Int):List (Int × Int):=if v=0 then stP C.toNat s (mny s)else []
def spV(C:Int)(s:ByteArray)(v:Int):List (Int × Int):=if v=0 then spP C.toNat s s.size else []
theorem Cx(s:ByteArray)(n k:Nat)(h:k<n):(stL s n)[k]'(by rw[QD];exact h)=fnd s (49+(k:Int)) 0:=by simp[stL]
theorem Tt{s:ByteArray}{k:Nat}(h:k<mny s):∃i:Nat,fnd s (49+(k:Int)) 0=(i:Int)/\i<s.size:=by
 have c:=DT 6 0 k (by omega) h;rcases UH s (49+(k:Int)) 0 (by omega)with⟨e,_⟩|⟨i,e,_,h2,_,_⟩
 ·omega
 ·exact⟨i,e,h2⟩
theorem Cy(C R:Int)(s:ByteArray)(w:World) :
  Calls Tryz.prog 52 #[ar C R s] w fun e w'=>∃v u,e=.returned v/\Zg C R s u/\OwP w' w.heap.size v (stV C s u)/\Yc w w':=by
 have p:=YA w C R s;go_enter Tryz.func52,Tryz.ntmps52;obtain⟨c0,c1,c2,cf⟩:=p.cells;go_wp2_with fail;refine(QG C R s _).mono ?_;rintro e w1 ⟨u,rfl,hv,h1⟩;have p1:=p.sT h1;have HS1:=hid ((sA w (.cells #[.int .i64 C,.int .i64 R,.string s] 24)).trans h1);clear p h1 c0 c1 c2 cf;obtain⟨c0,c1,c2,cf⟩:=p1.cells;have HV:=hid hv;by_cases h0:u=0
 ·subst h0;obtain⟨q1,q2,q3,q4,q5,q6⟩:=Xs (KI hv);obtain⟨c,rfl⟩:∃c:Nat,C=c:=⟨C.toNat,by omega⟩;clear hv q5;go_wp2_with fail;refine(Tj _ _ _ _).mono ?_;rintro e w2 ⟨ao,cap,rfl,o2,h2,_⟩;have p2:=p1.sT h2;have HS2:=hid (HS1.o.trans h2);clear p1 h2 HS1 c0 c1 c2 cf;go_wp2_with fail;have HFI:=hid (fun k (h:k<mny s)=>Tt h);have six:=QB s;have HTV:=hid (show stV (c:Int) s 0=stP c s (mny s) by unfold stV;rw[if_pos rfl,Int.toNat_natCast]);obtain⟨n,en⟩:∃n,mny s=n:=⟨_,rfl⟩;have HO2:=hid o2;clear o2;rw[en]at HO2 HFI six HTV⊢;clear en;have hsz:=HS2.o.size;go_loopw [3,12] (fun v u wr=>∃k:Nat,k<=n/\u=.int .i64 (k:Int)/\OwP wr w2.heap.size v (stP c s k)/\Yc w2 wr) (fun _ u _=>n-(intOf u).toNat);case atStart=>exact⟨0,by omega,rfl,OwP.nil _ _,Fr.refl _ _⟩
  case round =>
   obtain⟨k,hk,rfl,o3,hs⟩:=hrel;by_cases hlt:k<n
   ·obtain⟨i,ei,hi⟩:=HFI.o k hlt;have o4:=HO2.o.sT hs;obtain⟨g,rfl⟩:=o4.head (by omega);have cg:=o4.rd.byte (k:=k) (by rw[QD];exact hlt);rw[Cx s n k hlt,ei]at cg;simp only[Nat.zero_add]at cg;obtain⟨c0,c1,c2,cf⟩:=(p2.sT hs).cells;have HM:=hid (fun u=>To c i R s (by omega) (by omega) (by omega) u);have HSP:=hid (show stP c s (k+1)=stP c s k ++ [(ZB c i,ZC c i)] by rw[Tr,ei,Int.toNat_natCast]);have HK:=hid (show(stP c s k).length<=100000 by rw[Tq];omega);have HS3:=hid hs;have HO3:=hid o3;obtain⟨X,eX⟩:∃X,ZB c i=X:=⟨_,rfl⟩;obtain⟨Y,eY⟩:∃Y,ZC c i=Y:=⟨_,rfl⟩;rw[eX,eY]at HM HSP;clear o4 ei hs o3 eX eY;go_wp2_with fail;refine(HM.o _).mono ?_;rintro e w5 ⟨rfl,h5⟩;have HS5:=hid ((HS3.o.trans h5).trans (sA w5 (.cells #[.int .i64 X,.int .i64 Y] 57)));have HO5:=hid ((HO3.o.sT h5).alloc (.cells #[.int .i64 X,.int .i64 Y] 57));have HP5:=hid (Ys w5 X Y);have HZ:=hid (HS5.o.size);clear h5 HO3 HS3 cg c0 c1 c2 cf;go_wp2_with (at_builtin;refine QH _ rfl _ _ rfl w2.heap.size w5.heap.size _ (stP c s k) X Y rfl rfl HO5.o HP5.o HK.o HZ.o ?_;intro v' w' ho' hf');have HS6:=hid (QI HS5.o HO5.o hf' (Nat.le_refl _));go_roundw;case rel=>exact⟨k+1,by omega,by go_num,by rw[HSP.o];exact ho',HS6.o⟩
    case measure=>simp[intOf];omega
   ·obtain rfl:k=n:=by omega
    have HS3:=hid (HS2.o.trans hs);clear hs;go_wp2_with fail;go_ret;exact⟨_,0,rfl,HV.o,by rw[HTV.o];exact o3.less hsz,HS3.o⟩
 ·have hv':(u != 0)=true:=by simpa using h0
  have HT:=hid (show stV C s u=[] by unfold stV;rw[if_neg h0]);clear hv h0;go_wp2_with fail;go_ret;exact⟨_,u,rfl,HV.o,by rw[HT.o];exact OwP.nil _ _,HS1.o⟩
theorem Cz(C R:Int)(s:ByteArray)(w:World) :
  Calls Tryz.prog 53 #[ar C R s] w fun e w'=>∃v u,e=.returned v/\Zg C R s u/\OwP w' w.heap.size v (spV C s u)/\Yc w w':=by
 have p:=YA w C R s;go_enter Tryz.func53,Tryz.ntmps53;obtain⟨c0,c1,c2,cf⟩:=p.cells;go_wp2_with fail;refine(QG C R s _).mono ?_;rintro e w1 ⟨u,rfl,hv,h1⟩;have p1:=p.sT h1;have HS1:=hid ((sA w (.cells #[.int .i64 C,.int .i64 R,.string s] 24)).trans h1);clear p h1 c0 c1 c2 cf;obtain⟨c0,c1,c2,cf⟩:=p1.cells;have HV:=hid hv;by_cases h0:u=0
 ·subst h0;obtain⟨q1,q2,q3,q4,q5,q6⟩:=Xs (KI hv);obtain⟨c,rfl⟩:∃c:Nat,C=c:=⟨C.toNat,by omega⟩;clear hv q5;go_wp2_with fail;have HTV:=hid (show spV (c:Int) s 0=spP c s s.size by unfold spV;rw[if_pos rfl,Int.toNat_natCast]);have hsz:=HS1.o.size;clear c0 c1 c2 cf;go_loopw [3,11] (fun v u wr=>∃k:Nat,k<=s.size/\u=.int .i64 (k:Int)/\OwP wr w1.heap.size v (spP c s k)/\Yc w1 wr) (fun _ u _=>s.size-(intOf u).toNat);case atStart=>exact⟨0,by omega,rfl,OwP.nil _ _,Fr.refl _ _⟩
  case round =>
   obtain⟨k,hk,rfl,o3,hs⟩:=hrel;obtain⟨c0,c1,c2,cf⟩:=(p1.sT hs).cells;have HS3:=hid hs;have HO3:=hid o3;clear hs o3;by_cases hlt:k<s.size
   ·have e:=ZJ s k hlt;obtain⟨b,eb⟩:∃b,byt s k=b:=⟨_,rfl⟩;rw[eb]at e;by_cases h42:b=42
    ·subst h42;have HM:=hid (fun u=>To c k R s (by omega) (by omega) (by omega) u);have HSP:=hid (show spP c s (k+1)=spP c s k ++ [(ZB c k,ZC c k)] by rw[spP,if_pos eb]);have HK:=hid (show(spP c s k).length<=100000 by have:=DV c s k;omega);obtain⟨X,eX⟩:∃X,ZB c k=X:=⟨_,rfl⟩;obtain⟨Y,eY⟩:∃Y,ZC c k=Y:=⟨_,rfl⟩;rw[eX,eY]at HM HSP;clear eb eX eY;go_wp2_with fail;refine(HM.o _).mono ?_;rintro e w5 ⟨rfl,h5⟩;have HS5:=hid ((HS3.o.trans h5).trans (sA w5 (.cells #[.int .i64 X,.int .i64 Y] 57)));have HO5:=hid ((HO3.o.sT h5).alloc (.cells #[.int .i64 X,.int .i64 Y] 57));have HP5:=hid (Ys w5 X Y);have HZ:=hid (HS5.o.size);clear h5 HO3 HS3 c0 c1 c2 cf;go_wp2_with (at_builtin;refine QH _ rfl _ _ rfl w1.heap.size w5.heap.size _ (spP c s k) X Y rfl rfl HO5.o HP5.o HK.o HZ.o ?_;intro v' w' ho' hf');have HS6:=hid (QI HS5.o HO5.o hf' (Nat.le_refl _));go_roundw;case rel=>exact⟨k+1,by omega,by go_num,by rw[HSP.o];exact ho',HS6.o⟩
     case measure=>simp[intOf];omega
    ·have n42:(b == 42)=false:=by simpa using h42
     have HSP:=hid (show spP c s (k+1)=spP c s k by rw[spP,eb,if_neg h42,List.append_nil]);clear eb h42;go_wp2_with fail;go_roundw;case rel=>exact⟨k+1,by omega,by go_num,by rw[HSP.o];exact HO3.o,HS3.o⟩
     case measure=>simp[intOf];omega
   ·have HSZ:=hid (show spP c s k=spP c s s.size by rw[show k=s.size by omega]);have hge:(s.size:Int)<=(k:Int):=by omega
    clear hlt;go_wp2_with fail;go_ret;exact⟨_,0,rfl,HV.o,by rw[HTV.o,<- HSZ.o];exact HO3.o.less hsz,HS1.o.trans HS3.o⟩
 ·have hv':(u != 0)=true:=by simpa using h0
  have HT:=hid (show spV C s u=[] by unfold spV;rw[if_neg h0]);clear hv h0;go_wp2_with fail;go_ret;exact⟨_,u,rfl,HV.o,by rw[HT.o];exact OwP.nil _ _,HS1.o⟩
theorem Tu(C R:Int)(s:ByteArray)(hz:s.size<=281474976710656)(w:World) :
  Calls Tryz.prog 38 #[ar C R s] w fun e w'=>∃v u,e=.returned v/\Zg C R s u/\OwP w' w.heap.size v (stV C s u)/\Yc w w':=by
 have p:=YA w C R s;go_enter Tryz.func38,Tryz.ntmps38;obtain⟨c0,c1,c2,cf⟩:=p.cells;go_wp2_with fail;refine(GG C R s hz _).mono ?_;rintro e w1 ⟨u,rfl,hv,h1⟩;have p1:=p.sT h1;have HS1:=hid ((sA w (.cells #[.int .i64 C,.int .i64 R,.string s] 24)).trans h1);clear p h1 c0 c1 c2 cf;obtain⟨c0,c1,c2,cf⟩:=p1.cells;have HV:=hid hv;by_cases h0:u=0
 ·subst h0;obtain⟨q1,q2,q3,q4,q5,q6⟩:=Xs (KI hv);obtain⟨c,rfl⟩:∃c:Nat,C=c:=⟨C.toNat,by omega⟩;clear hv q5;go_wp2_with fail;refine(GA _ _ _ (by omega) _).mono ?_;rintro e w2 ⟨rfl,h2⟩;have p2:=p1.sT h2;have HS2:=hid (HS1.o.trans h2);clear p1 h2 HS1 c0 c1 c2 cf;go_wp2_with fail;have HFI:=hid (fun k (h:k<mny s)=>Tt h);have six:=QB s;have HTV:=hid (show stV (c:Int) s 0=stP c s (mny s) by unfold stV;rw[if_pos rfl,Int.toNat_natCast]);obtain⟨n,en⟩:∃n,mny s=n:=⟨_,rfl⟩;rw[en]at HFI six HTV⊢;clear en;have hsz:=HS2.o.size;go_loopw [4,6] (fun v u wr=>∃k:Nat,k<=n/\u=.int .i64 (k:Int)/\OwP wr w2.heap.size v (stP c s k)/\Yc w2 wr) (fun _ u _=>n-(intOf u).toNat);case atStart=>exact⟨0,by omega,rfl,OwP.nil _ _,Fr.refl _ _⟩
  case round =>
   obtain⟨k,hk,rfl,o3,hs⟩:=hrel;by_cases hlt:k<n
   ·obtain⟨i,ei,hi⟩:=HFI.o k hlt;have a3:=p2.sT hs;have HC:Hid (∀u:World,Yb 83 #[.string s,.int .u8 (49+(k:Int)),.int .i64 0] u (.int .i64 (i:Int))):=hid (fun u=>by
     have h:=KD s (49+(k:Int)) 0 (by omega) (by omega) u;rw[ei]at h;exact h)
    have HM:=hid (fun u=>Tp c i R s (by omega) (by omega) (by omega) u);have HSP:=hid (show stP c s (k+1)=stP c s k ++ [(ZB c i,ZC c i)] by rw[Tr,ei,Int.toNat_natCast]);have HK:=hid (show(stP c s k).length<=100000 by rw[Tq];omega);have HS3:=hid hs;have HO3:=hid o3;obtain⟨X,eX⟩:∃X,ZB c i=X:=⟨_,rfl⟩;obtain⟨Y,eY⟩:∃Y,ZC c i=Y:=⟨_,rfl⟩;rw[eX,eY]at HM HSP;have wr8:IntKind.u8.wrap (49+(k:Int))=49+(k:Int):=by rw[IntKind.wrap_u8];omega
    clear ei hs o3 eX eY;go_wp2_with fail;refine Kx (on:=_) 8 7 (.cells #[.int .i64 0,.int .i64 0] 57)
     [ar (c:Int) R s,.pointer (some ⟨w.heap.size,2,none⟩),.string s,.int .i64 (k:Int),.int .i64 (49+(k:Int)),.int .u8 (49+(k:Int)),.int .i64 (i:Int),pt X Y]
     ⟨#[ar (c:Int) R s,.pointer (some ⟨w.heap.size,0,none⟩),.slice none 0 0,.int .i64 0,u4,.int .i64 (n:Int),.int .i64 (k:Int),u7,.agg #[.int .i64 (c:Int),.int .i64 R,.string s],.int .i64 0,.int .i64 0,.bool false,.agg #[.int .i64 (c:Int),.int .i64 R,.string s],.int .i64 (n:Int),.int .i64 (k:Int),.int .i64 (n:Int),.bool true,u17,u18,ar (c:Int) R s,.pointer (some ⟨w.heap.size,2,none⟩),.string s,.int .i64 (k:Int),.int .i64 (49+(k:Int)),.int .u8 (49+(k:Int)),.int .i64 (i:Int),pt X Y,u27,u28,u29,u30,undef],[]⟩
     (by kernel_rfl) (by kernel_rfl) rfl rfl rfl (by kernel_rfl) (by kernel_rfl) (show 7<32 by omega) ?_ ?_ ?_
    ·simp only[List.take_succ_cons,List.take_zero,VP,and_true];refine⟨?_,?_,?_,?_,?_,?_,?_,?_⟩;all_goals
      intro u hu;obtain⟨c0,c1,c2,cf⟩:=(a3.sT hu).cells;go_simp
     all_goals first|(rw[IntKind.wrap_i64];omega)|exact HM.o u|exact(HC.o u).mono fun _ _ ⟨he,hw⟩=>⟨he,hw ▸ Fr.refl _ _⟩
    ·intro u _ z;go_simp
    simp only[List.drop_succ_cons,List.drop_zero];intro w5 g hs5 hge hz5;have x5:Pb w5 g 0 0:=hz5;obtain⟨e0,e1,ef⟩:=x5.cells;have hgB:w2.heap.size<=g:=Nat.le_trans HS3.o.size hge;have y5:=x5.set X Y;have HS5:=hid (Y3 (HS3.o.trans hs5) g X Y (.inr hgB));have HO5:=hid (show OwP (Zz w5 g X Y) w2.heap.size u4 (stP c s k)from(HO3.o.sT hs5).keep (F:=fun b=>b=g) (Y3 (Fr.refl _ w5) g X Y (.inl rfl)) (fun b hb e=>by
     have:=(HO3.o.block e).2;omega))
    clear x5 hz5 hs5 HS3 HO3 a3 HC HM;have HS6:=hid (Yc.trans HS5.o (sA (Zz w5 g X Y) (.cells #[.int .i64 X,.int .i64 Y] 57)));have HO6:=hid (HO5.o.alloc (.cells #[.int .i64 X,.int .i64 Y] 57));have HP6:=hid (show Pb (Yh (Zz w5 g X Y) X Y) w5.heap.size X Y by have h:=Ys (Zz w5 g X Y) X Y;rw[Jz]at h;exact h);have HZ:=hid (HS6.o.size);obtain⟨f0,f1,ff⟩:=y5.cells;clear HS5 HO5 y5;simp only[Act.put,tks];go_wp2_with (at_builtin;refine QH _ rfl _ _ rfl w2.heap.size w5.heap.size _ (stP c s k) X Y rfl rfl HO6.o HP6.o HK.o HZ.o ?_;intro v' w' ho' hf');have HS7:=hid (QI HS6.o HO6.o hf' (Nat.le_refl _));go_roundw;case rel=>exact⟨k+1,by omega,by go_num,by rw[HSP.o];exact ho',HS7.o⟩
    case measure=>simp[intOf];omega
   ·obtain rfl:k=n:=by omega
    have HS3:=hid (HS2.o.trans hs);clear hs;go_wp2_with fail;go_ret;exact⟨_,0,rfl,HV.o,by rw[HTV.o];exact o3.less hsz,HS3.o⟩
 ·have hv':(u != 0)=true:=by simpa using h0
  have HT:=hid (show stV C s u=[] by unfold stV;rw[if_neg h0]);clear hv h0;go_wp2_with fail;go_ret;exact⟨_,u,rfl,HV.o,by rw[HT.o];exact OwP.nil _ _,HS1.o⟩
theorem C1(C R:Int)(s:ByteArray)(hz:s.size<=281474976710656)(w:World) :
  Calls Tryz.prog 60 #[ar C R s] w fun e w'=>∃v u,e=.returned v/\Zg C R s u/\OwP w' w.heap.size v (spV C s u)/\Yc w w':=by
 have p:=YA w C R s;go_enter Tryz.func60,Tryz.ntmps60;obtain⟨c0,c1,c2,cf⟩:=p.cells;go_wp2_with fail;refine(GG C R s hz _).mono ?_;rintro e w1 ⟨u,rfl,hv,h1⟩;have p1:=p.sT h1;have HS1:=hid ((sA w (.cells #[.int .i64 C,.int .i64 R,.string s] 24)).trans h1);clear p h1 c0 c1 c2 cf;obtain⟨c0,c1,c2,cf⟩:=p1.cells;have HV:=hid hv;by_cases h0:u=0
 ·subst h0;obtain⟨q1,q2,q3,q4,q5,q6⟩:=Xs (KI hv);obtain⟨c,rfl⟩:∃c:Nat,C=c:=⟨C.toNat,by omega⟩;clear hv q5;go_wp2_with fail;have HTV:=hid (show spV (c:Int) s 0=spP c s s.size by unfold spV;rw[if_pos rfl,Int.toNat_natCast]);have hsz:=HS1.o.size;clear c0 c1 c2 cf;go_loopw [4,5] (fun v u wr=>∃k:Nat,k<=s.size/\u=.int .i64 (k:Int)/\OwP wr w1.heap.size v (spP c s k)/\Yc w1 wr) (fun _ u _=>s.size-(intOf u).toNat);case atStart=>exact⟨0,by omega,rfl,OwP.nil _ _,Fr.refl _ _⟩
  case round =>
   obtain⟨k,hk,rfl,o3,hs⟩:=hrel;obtain⟨c0,c1,c2,cf⟩:=(p1.sT hs).cells;have HS3:=hid hs;have HO3:=hid o3;clear hs o3;by_cases hlt:k<s.size
   ·have e:=ZJ s k hlt;obtain⟨b,eb⟩:∃b,byt s k=b:=⟨_,rfl⟩;rw[eb]at e;by_cases h42:b=42
    ·subst h42;have HM:=hid (fun u=>Tp c k R s (by omega) (by omega) (by omega) u);have HSP:=hid (show spP c s (k+1)=spP c s k ++ [(ZB c k,ZC c k)] by rw[spP,if_pos eb]);have HK:=hid (show(spP c s k).length<=100000 by have:=DV c s k;omega);obtain⟨X,eX⟩:∃X,ZB c k=X:=⟨_,rfl⟩;obtain⟨Y,eY⟩:∃Y,ZC c k=Y:=⟨_,rfl⟩;rw[eX,eY]at HM HSP;clear eb eX eY;go_wp2_with fail;refine(HM.o _).mono ?_;rintro e w5 ⟨rfl,h5⟩;have HS5:=hid (((HS3.o.trans h5).trans (sA w5 (.cells #[.int .i64 X,.int .i64 Y] 57))).trans (sA (Yh w5 X Y) (.cells #[.int .i64 X,.int .i64 Y] 57)));have HO5:=hid (((HO3.o.sT h5).alloc (.cells #[.int .i64 X,.int .i64 Y] 57)).alloc (.cells #[.int .i64 X,.int .i64 Y] 57));have HP5:=hid (show Pb (Yh (Yh w5 X Y) X Y) (w5.heap.size+1) X Y by have h:=Ys (Yh w5 X Y) X Y;rw[size_alloc]at h;exact h);obtain⟨f0,f1,ff⟩:=(Ys w5 X Y).cells;have HZ:=hid (HS5.o.size);clear h5 HO3 HS3 c0 c1 c2 cf;go_wp2_with (at_builtin;refine QH _ rfl _ _ rfl w1.heap.size (w5.heap.size+1) _ (spP c s k) X Y rfl rfl HO5.o HP5.o HK.o HZ.o ?_;intro v' w' ho' hf');have HS6:=hid (QI HS5.o HO5.o hf' (Nat.le_refl _));go_roundw;case rel=>exact⟨k+1,by omega,by go_num,by rw[HSP.o];exact ho',HS6.o⟩
     case measure=>simp[intOf];omega
    ·have n42:(b == 42)=false:=by simpa using h42
     have HSP:=hid (show spP c s (k+1)=spP c s k by rw[spP,eb,if_neg h42,List.append_nil]);clear eb h42;go_wp2_with fail;go_roundw;case rel=>exact⟨k+1,by omega,by go_num,by rw[HSP.o];exact HO3.o,HS3.o⟩
     case measure=>simp[intOf];omega
   ·have HSZ:=hid (show spP c s k=spP c s s.size by rw[show k=s.size by omega]);have hge:(s.size:Int)<=(k:Int):=by omega
    clear hlt;go_wp2_with fail;go_ret;exact⟨_,0,rfl,HV.o,by rw[HTV.o,<- HSZ.o];exact HO3.o.less hsz,HS1.o.trans HS3.o⟩
 ·have hv':(u != 0)=true:=by simpa using h0
  have HT:=hid (show spV C s u=[] by unfold spV;rw[if_neg h0]);clear hv h0;go_wp2_with fail;go_ret;exact⟨_,u,rfl,HV.o,by rw[HT.o];exact OwP.nil _ _,HS1.o⟩
def QJ(C N:Nat)(s:ByteArray):List Nat->List (Nat × Nat)->Bool
 | _,[]=>true
 | vis,(i,j) :: l=>vis.contains j && (decide (C<=i) && (decide (i+C<N) && (!(byt s i == 35) && ((i+1 == j || (i == j+1 || (i == j+C || i+C == j))) && QJ C N s (i :: vis) l))))
def QK:List Nat->List (Nat × Nat)->List Nat
 | vis,[]=>vis
 | vis,(i,_) :: l=>QK (i :: vis) l
theorem Tv{C N:Nat}{s:ByteArray}{f:Nat}(hC:1<=C):∀(l:List (Nat × Nat)) (vis:List Nat),(∀v∈vis,Rch C N s f v)->QJ C N s vis l=true->∀v∈QK vis l,Rch C N s f v
 | [],vis,h,_=>h
 | (i,j) :: l,vis,h,k=>by
  rw[QJ]at k;simp only[Bool.and_eq_true,Bool.or_eq_true,decide_eq_true_eq,beq_iff_eq,Bool.not_eq_true',beq_eq_false_iff_ne,List.contains_iff_mem]at k;obtain⟨k1,k2,k3,k4,k5,k6⟩:=k;rw[QK];refine Tv hC l (i :: vis) (fun v hv=>?_) k6;rcases List.mem_cons.1 hv with rfl|hv
  ·have hj:=h j k1;refine fun I hf hI=>hI v k2 k3 k4 ?_;have:=hj I hf hI;unfold nbB;simp only[Bool.or_eq_true];rcases k5 with e|e|e|e
   ·exact .inr (.inl (by rw[e];exact this))
   ·exact .inl (by rw[show v-1=j by omega];exact this)
   ·exact .inr (.inr (.inl (by rw[show v-C=j by omega];exact this)))
   ·exact .inr (.inr (.inr (by rw[e];exact this)))
  ·exact h v hv
def QL(vis:List Nat)(s:ByteArray):Nat->Bool
 | 0=>true
 | n+1=>QL vis s n && (!((decide (49<=byt s n) && decide (byt s n<=54)) || byt s n == 42) || vis.contains n)
theorem Tw{vis:List Nat}{s:ByteArray}{I:Nat->Bool}(h:∀v∈vis,I v=true):∀n,QL vis s n=true->ZH I s n=true
 | 0,_=>rfl
 | n+1,k=>by
  rw[QL,Bool.and_eq_true]at k;rw[ZH,Tw h n k.1,Bool.true_and];have:=k.2;rw[Bool.or_eq_true]at this⊢;rcases this with e|e
  ·exact .inl e
  ·exact .inr (h n (by simpa using e))
theorem C2{C R:Nat}{s:ByteArray}{f:Nat}(l:List (Nat × Nat))(h1:YL (C:Int) (R:Int) s=true)(h2:(decide (2<=mny s) && decide (Z4 s s.size=mny s))=true)(h3:fnd s 49 0=(f:Int))(h4:QJ C s.size s [f] l=true)(h5:QL (QK [f] l) s s.size=true):Zg (C:Int) (R:Int) s 0:=by
 obtain⟨q1,_⟩:=Xs h1;obtain⟨I,hI⟩:=Tn C s.size s f;simp only[Bool.and_eq_true,decide_eq_true_eq]at h2;refine .inr (.inr ⟨h1,h2.1,f,I,h3,by rw[Int.toNat_natCast];exact hI,?_⟩);have hr:=Tv (f:=f) (by omega) l [f] (fun v hv=>by rw[List.mem_singleton.1 hv];exact KG C s.size s f) h4;rw[FY h1 I,decide_eq_true h2.2,Tw (fun v hv=>hr v hv I hI.1 hI.2.1) s.size h5];rfl
def C3:List (Nat × Nat):=[(10,9),(17,9),(11,10),(25,17),(12,11),(19,11),(33,25),(13,12),(20,12),(14,13),(22,14),(30,22),(38,30)]
theorem C4:YL 8 6 std3=true:=by kernel_rfl
theorem C5:Zg 8 6 std3 0:=C2 (C:=8) (R:=6) (f:=9) C3 C4 (by kernel_rfl) (by kernel_rfl) (by kernel_rfl) (by kernel_rfl)
end
end Go.Proofs.YtcgmohldcokccaaGreatDoor
