import Derived.Test.YtcgmohldcokccaaGreatDoorXR11
import Derived.Test.YtcgmohldcokccaaGreatDoorXR30
set_option linter.unusedVariables false
set_option maxHeartbeats 4000000
set_option maxRecDepth 100000
namespace Go.Proofs.YtcgmohldcokccaaGreatDoor
open Go Go.RowKit
open Pu Gp Ap Vp Np Za Ka Ja Ygp
attribute [local go_sem] Oper.semAt_some
def RdN(n₀:Nat)(w:World)(ao:Option Addr)(n:Nat)(L:List Mv):Prop:=∀w',Below n₀ w w'->RdG KM w' ao n L
theorem RdN.below{n₀:Nat}{w w':World}{ao:Option Addr}{n:Nat}{L:List Mv}(h:RdN n₀ w ao n L)(hb:Below n₀ w w'):RdN n₀ w' ao n L:=fun _ k=>h _ (hb.trans k)
theorem RdN.here{n₀:Nat}{w:World}{ao:Option Addr}{n:Nat}{L:List Mv}(h:RdN n₀ w ao n L):RdG KM w ao n L:=h w (Below.refl _ _)
theorem T8{w:World}{ao:Option Addr}{n:Nat}{L:List Mv}(h:RdG KM w ao n L):RdN w.heap.size w ao n L:=fun _ hb=>h.sT (Kq hb)
theorem Wb(ao:Option Addr)(n cap:Nat)(w:World):Calls Tryz.prog 289 #[.slice ao n cap] w fun e w' =>
  e=.returned (.func (.func 317) #[] #[.pointer (some ⟨w.heap.size,0,none⟩)])/\w'=w.alloc (.cells #[.slice ao n cap] 28):=by
 go_enter Tryz.func289,Tryz.ntmps289;go_wp2_with fail;go_ret;exact⟨rfl,rfl⟩
theorem CD(L:List Mv)(ao:Option Addr)(n cap l Bn n₀ m:Nat)(J Jx:List (Fin L.length)->World->Prop)(W:World)(hJ:AbidesFrom W.heap.size J)
  (hY:∀pre x W1,J pre W1->pre.length<(ipl L L.length).length->YieldAt Fence.wide (m-1) Tryz.prog l #[.int .i64 (x.1:Int)] W1 fun e W' =>
   (e=.returned (.bool true)/\J (pre ++ [x]) W'/\Below n₀ W1 W')\/(e=.returned (.bool false)/\Jx (pre ++ [x]) W'))
  (hn₀:n₀<=W.heap.size) (hBn:W.cell? ⟨Bn,0,none⟩=some (.slice ao n cap)) (hr:RdN n₀ W ao n L) (h0:J [] W) :
  CallsIn Fence.wide m Tryz.prog 317 #[.func (.yield l) #[] #[],.pointer (some ⟨Bn,0,none⟩)] W fun e W'=>(∃v,e=.returned v) /\
   ((∃ys,ys=ipl L L.length/\J ys W')\/(∃pre,pre <+: ipl L L.length/\Jx pre W')):=by
 have HL:=hid hr.here.1;have HR:=hid hr;have hn47:n<=281474976710656:=hr.here.2.1;have HY:=hid hY;have HJ:=hid hJ;have H0:=hid h0;clear hr hY hJ h0;refine callsIn_of_wp Tryz.func317 rfl trivial ?_ rfl;simp only[Tryz.ntmps317,List.size_toArray,List.length_cons,List.length_nil,Nat.reduceAdd,Nat.reduceSub,Array.replicate_succ,Array.replicate_zero,List.push_toArray,List.append_toArray,List.nil_append,List.cons_append];gi_wp2
 clear hBn;gi_loopw [7] (fun u wr=>∃k:Nat,k<=n/\u=.int .i64 (k:Int)/\J (ipl L k) wr/\RdN n₀ wr ao n L/\n₀<=wr.heap.size) (fun u _=>n-(intOf u).toNat)
 case atStart=>exact⟨0,by omega,rfl,H0.o,HR.o,hn₀⟩
 case round =>
  obtain⟨k,hk,rfl,hj,hrk,hz⟩:=hrel;clear H0;by_cases hkn:k<n
  ·have hlt:(k:Int)<(n:Int):=by omega
   obtain⟨B,o,rfl⟩:=hrk.here.at (by omega);obtain⟨c0,c1,c2,c3,c4,c5,c6,c7,c8,c9,c10,c11,c12⟩:=rdM hrk.here hkn;have HP:=hid (fun w=>Dz (mm L k) w);have hkL:k<L.length:=by have:=HL.o;omega
   have HI:=hid (fun h=>Qy (L:=L) (k:=k) hkL h);have HO:=hid (fun h=>D1 (L:=L) (k:=k) hkL h);have HT:=hid (fun h=>RH (L:=L) (k:=k) hkL h);obtain⟨x,ex⟩:∃x,mm L k=x:=⟨_,rfl⟩;rw[ex]at c0 c1 c2 c3 c4 c5 c6 c7 c8 c9 c10 c11 c12 HP HI HO HT;obtain⟨b,eb⟩:∃b,(x.ou == 0)=b:=⟨_,rfl⟩;rw[eb]at HP HI HO HT;clear ex eb;have A1:=sA wr (.cells (mcs x) 59);obtain⟨d0,d1,d2,d3,d4,d5,d6,d7,d8,d9,d10,d11,d12,df⟩:=(Va wr x).cells;gi_wp2_with fail
   refine⟨trivial,fun h=>(by cases h),(callsIn_wide.2 (HP.o _)).mono ?_⟩;rintro e w2 ⟨rfl,h2⟩;have hs2:=A1.trans h2;have hj2:=CB HJ.o hj hs2;have hb2:Below n₀ wr w2:=hs2.below.mono hz;have HR2:=hid (hrk.below hb2);have hz2:n₀<=w2.heap.size:=Nat.le_trans hz hs2.size;clear h2 A1 hs2 hb2 hj hz hrk HP c0 c1 c2 c3 c4 c5 c6 c7 c8 c9 c10 c11 c12 d0 d1 d2 d3 d4 d5 d6 d7 d8 d9 d10 d11 d12 df;cases b with
   | false =>
    have HE:=hid (HO.o rfl);have HJ2:=hid hj2;clear HO HI HT hj2;gi_wp2_with fail
    refine⟨fun _ h=>(by cases h),?_⟩;gi_wp2_with fail
    go_roundw;case rel=>exact⟨k+1,by omega,by go_num,by rw[HE.o];exact HJ2.o,HR2.o,hz2⟩
    case measure=>simp[intOf];omega
   | true =>
    have HE:=hid (HI.o rfl);obtain⟨fn,tmps,assign,body,hy,hR⟩:=HY.o (ipl L k) ⟨k,hkL⟩ w2 hj2 (HT.o rfl);have HR1:=hid hR;clear HO HI HT hj2 hR;dsimp only at hy;gi_wp2_with fail
    refine⟨fun h=>(by cases h),HR1.o.mono ?_⟩;rintro e w3 (⟨rfl,hj3,hk3⟩|⟨rfl,hx3⟩)
    ·have HJ3:=hid hj3;have HR3:=hid (HR2.o.below hk3);have hz3:n₀<=w3.heap.size:=Nat.le_trans hz2 hk3.size;clear hy HR1 HR2 hj3 hk3;gi_wp2_with fail
     go_roundw;case rel=>exact⟨k+1,by omega,by go_num,by rw[HE.o];exact HJ3.o,HR3.o,hz3⟩
     case measure=>simp[intOf];omega
    ·have HX3:=hid hx3;clear hy HR1 HR2 hx3;gi_wp2_with fail
     (try rw[Exit.noGoto_ret])
     refine bodyPost_ret (results_none rfl _ _ _) rfl ?_;exact⟨⟨_,rfl⟩,.inr ⟨_,by rw[<- HE.o];exact NT hkL,HX3.o⟩⟩
  ·have hge:¬(k:Int)<(n:Int):=by omega
   have HE:Hid (ipl L k=ipl L L.length):=hid (by congr;have:=HL.o;omega);have HJ1:=hid hj;clear hkn hj hrk;gi_wp2_with fail
   go_end0;have hJE:J (ipl L L.length) wr:=by rw[<- HE.o];exact HJ1.o
   exact⟨⟨_,rfl⟩,.inl hJE⟩
theorem Wc(L:List Mv)(ao:Option Addr)(n cap Bn n₀ m:Nat)(w:World)(hBn:Bn<w.heap.size)(hn₀:n₀<=w.heap.size)(hc:w.cell? ⟨Bn,0,none⟩=some (.slice ao n cap))(hr:RdN n₀ w ao n L) :
  SeqStopsK Fence.wide m Tryz.prog 317 #[.pointer (some ⟨Bn,0,none⟩)] (fun x:Fin L.length=>#[Value.int .i64 (x.1:Int)]) (Below n₀) (fun ys=>ys=ipl L L.length) (fun pre=>pre <+: ipl L L.length) (ipl L L.length).length w:=
 fun l J Jx W hW hJ _ hY h0=>CD L ao n cap l Bn n₀ m J Jx W hJ hY (Nat.le_trans hn₀ hW.size) ((hW.cell (p:=⟨Bn,0,none⟩) hBn).trans hc) (hr.below (hW.mono hn₀)) h0
attribute [local go_sem] Oper.semAt_some
theorem Jl{B0 B:Nat}{X Y:World}{row:Option Nat}{t:TypeId}{v:Value}(h:Boxed X B t v)(hg:X.grownBy Y row)(hr:∀r,row=some r->B0<=r/\∃o:Obj,X.heap[r]?=some o/\o.isCells=false):Boxed Y B t v:=
 boxed_own B t (fun(_:Unit)=>v) () X Y row h hg (fun r e=>(hr r e).2)
def Ux(z:Int):Int:=if 0<=z then z else 0
theorem CE(L:List Mv)(so:Nat->Bool)(ao:Option Addr)(n cap g p q:Nat)(hg:g=241\/g=250)(w:World)(hr:RdG KM w ao n L)
  (hso:∀(i:Nat) (u:World),i<n->Yc w u->Ya g #[.int .i64 (i:Int),.pointer (some ⟨p,0,none⟩),.pointer (some ⟨q,0,none⟩)] u (.bool (so i))) :
  CallsIn Fence.wide 8 Tryz.prog 243 #[.slice ao n cap,.func (.func g) #[] #[.pointer (some ⟨p,0,none⟩),.pointer (some ⟨q,0,none⟩)]] w fun e w'=>e=.returned (.tuple #[.int .i64 (Ux (lo (Xd L so) 0 n)),.bool (decide (0<=lo (Xd L so) 0 n))])/\Yc w w':=by
 have HL:=hid hr.1;have HR:=hid (T8 hr);have HSo:=hid hso;clear hr hso;refine callsIn_of_wp_marks Tryz.func243 rfl trivial ?_ rfl;simp only[Tryz.ntmps243,List.size_toArray,List.length_cons,List.length_nil,Nat.reduceAdd,Nat.reduceSub,Array.replicate_succ,Array.replicate_zero,List.push_toArray,List.append_toArray,List.nil_append,List.cons_append];gi_wp2_with fail
 refine⟨trivial,(callsIn_wide.2 (Wb ao n cap _)).mono ?_⟩;rintro e w' ⟨rfl,rfl⟩;gi_wp2_with fail
 obtain⟨f,ef⟩:∃f,Value.func (.func g) #[] #[.pointer (some ⟨p,0,none⟩),.pointer (some ⟨q,0,none⟩)]=f:=⟨_,rfl⟩;have b0:=((((Boxed.new w 197 f).alloc (.cells #[.int .i64 0] 3)).alloc (.cells #[.bool false] 4)).alloc (.cells #[.slice ao n cap] 28));have b1:=(((Boxed.new (w.alloc (.cells #[f] 197)) 3 (.int .i64 0)).alloc (.cells #[.bool false] 4)).alloc (.cells #[.slice ao n cap] 28));have b2:=((Boxed.new ((w.alloc (.cells #[f] 197)).alloc (.cells #[.int .i64 0] 3)) 4 (.bool false)).alloc (.cells #[.slice ao n cap] 28));have b3:=Boxed.new (((w.alloc (.cells #[f] 197)).alloc (.cells #[.int .i64 0] 3)).alloc (.cells #[.bool false] 4)) 28 (.slice ao n cap);simp only[World.size_alloc]at b1 b2 b3;have hS0:Yc w ((((w.alloc (.cells #[f] 197)).alloc (.cells #[.int .i64 0] 3)).alloc (.cells #[.bool false] 4)).alloc (.cells #[.slice ao n cap] 28)):=(((Fr.refl _ w).alloc _ |>.alloc _).alloc _).alloc _;have hsz:((((w.alloc (.cells #[f] 197)).alloc (.cells #[.int .i64 0] 3)).alloc (.cells #[.bool false] 4)).alloc (.cells #[.slice ao n cap] 28)).heap.size=w.heap.size+4:=by simp
 rw[ef];obtain⟨V,eV⟩:∃V,(((w.alloc (.cells #[f] 197)).alloc (.cells #[.int .i64 0] 3)).alloc (.cells #[.bool false] 4)).alloc (.cells #[.slice ao n cap] 28)=V:=⟨_,rfl⟩;rw[eV]at b0 b1 b2 b3 hS0 hsz⊢;clear eV;have hB0:Below w.heap.size w V:=hS0.below;refine wpIn_rangeFunc_ownF rfl (by omega) (gf:=317) (lb:=#[.pointer (some ⟨w.heap.size+1+1+1,0,none⟩)]) rfl trivial (enters_of Tryz.func317 (by kernel_rfl) rfl)
  (Wc L ao n cap (w.heap.size+1+1+1) w.heap.size 7 V (by omega) (by omega) b3.cell (HR.o.below hB0)) belowK_t (belowK_b (by omega)) (Below.refl _ _) (fun _=>rfl)
  (fun pre W=>((∀y∈pre,so y.1=false)/\Boxed W w.heap.size 197 f/\Boxed W (w.heap.size+1) 3 (.int .i64 0)/\Boxed W (w.heap.size+1+1) 4 (.bool false))/\Below w.heap.size w W)
  (fun c pre W=>(c=.ret/\∃(q:List (Fin L.length)) (x:Fin L.length),pre=q ++ [x]/\(∀y∈q,so y.1=false)/\so x.1=true/\Boxed W (w.heap.size+1) 3 (.int .i64 (x.1:Int))/\Boxed W (w.heap.size+1+1) 4 (.bool true))/\Below w.heap.size w W)
  (fun s X Y row hs hg hr=>⟨⟨hs.1.1,Jl hs.1.2.1 hg hr,Jl hs.1.2.2.1 hg hr,Jl hs.1.2.2.2 hg hr⟩,ownFrom_below (Nat.le_refl _) (by omega) () X Y row hs.2 hg hr⟩)
  (fun c s X Y row hs hg hr=>by
   obtain⟨⟨e1,q,x,e2,h1,h2,k1,k2⟩,hb⟩:=hs;exact⟨⟨e1,q,x,e2,h1,h2,Jl k1 hg hr,Jl k2 hg hr⟩,ownFrom_below (Nat.le_refl _) (by omega) () X Y row hb hg hr⟩)
  ⟨⟨by simp,b0,b1,b2⟩,hB0⟩
  (fun x=>{ tmps:=#[.slice ao n cap,f,undef,.pointer (some ⟨w.heap.size,0,none⟩),.pointer (some ⟨w.heap.size+1,0,none⟩),.pointer (some ⟨w.heap.size+1+1,0,none⟩),.int .i64 (x.1:Int),.slice ao n cap,.func (.func 317) #[] #[.pointer (some ⟨w.heap.size+1+1+1,0,none⟩)],.int .i64 (x.1:Int),undef,undef,undef,undef],defers:=[] }) ?assign ?body ?done ?stop
 case assign =>
  intro l x W K hK;gi_wp2_with fail
  exact hK
 case body =>
  rintro l pre x W ⟨⟨hp,k0,k1,k2⟩,hB⟩ _;have c0:=k0.cell;have hxn:x.1<n:=by have:=HL.o;have:=x.2;omega
  have HC:=hid (HSo.o x.1 W hxn (Kq hB));have HP:=hid hp;obtain⟨b,eb⟩:∃b,so x.1=b:=⟨_,rfl⟩;rw[eb]at HC;have HB:=hid eb;clear hp eb;subst ef;rcases hg with rfl|rfl;all_goals
   gi_wp2_with fail
   refine⟨trivial,(DX l _ HC.o).mono ?_⟩;rintro e W2 ⟨rfl,h2⟩;have k1:=ZI k1 h2;have k2:=ZI k2 h2;have k0:=ZI k0 h2;have c1:=k1.cell;have f1:=k1.frozen;have c2:=k2.cell;have f2:=k2.frozen;have hB2:=hB.trans (h2.below.mono hB.size);have hz:=hB.size;have HS2:=hid h2;clear h2 hB c0 HC;cases b with
   | false =>
    gi_wp2_with fail
    exact⟨HS2.o.others,HS2.o.below.mono hz,⟨fun y hy=>(List.mem_append.1 hy).elim (HP.o y) (fun e=>by simp at e;subst e;exact HB.o),k0,k1,k2⟩,hB2⟩
   | true =>
    gi_wp2_with fail
    exact⟨HS2.o.others.trans ((KeepsOthers.setCell _ _ _).trans (KeepsOthers.setCell _ _ _)),⟨rfl,pre,x,rfl,HP.o,HB.o,(k1.set _).other (by omega) _,(k2.other (by omega) _).set _⟩,(hB2.setCell (p:=⟨w.heap.size+1,0,none⟩) (by simp) _).setCell (p:=⟨w.heap.size+1+1,0,none⟩) (by simp;omega) _⟩
 case done =>
  rintro D ys W hD rfl ⟨⟨hp,k0,k1,k2⟩,hB⟩ hK;have HE:Hid (lo (Xd L so) 0 n=-1):=hid (by rw[<- HL.o];exact RI hp);have c1:=k1.cell;have f1:=k1.frozen;have c2:=k2.cell;have f2:=k2.frozen;gi_wp2_with fail
  have hK':=((KeepsOthers.setCell W ⟨w.heap.size+1,0,none⟩ (.int .i64 0)).trans (KeepsOthers.setCell _ ⟨w.heap.size+1+1,0,none⟩ (.bool false))).same D _ hK rfl;refine⟨by simp,.inl ⟨_,_,rfl,run_takeDeferred hK',?_⟩⟩;have q1:=cell_kept ((k1.set (.int .i64 0)).other (B':=w.heap.size+1+1) (by omega) (.bool false)).cell (grownBy_putObj' _ D (.deferred none)) (fun r e=>by cases e;exact⟨_,hK',rfl⟩);have q2:=cell_kept ((k2.other (B':=w.heap.size+1) (by omega) (.int .i64 0)).set (.bool false)).cell (grownBy_putObj' _ D (.deferred none)) (fun r e=>by cases e;exact⟨_,hK',rfl⟩);refine⟨.tuple #[.int .i64 0,.bool false],?_,by rw[HE.o];rfl,Kq (((hB.setCell (p:=⟨w.heap.size+1,0,none⟩) (by simp) _).setCell (p:=⟨w.heap.size+1+1,0,none⟩) (by simp;omega) _).trans (belowK_b (w:=w) (Nat.le_refl _) _ D _ _ (by omega) hK' rfl rfl))⟩;simp[results,Tryz.f243,go_sem,q1,q2]
 case stop =>
  rintro D c pre W hD hpre ⟨⟨rfl,q',x,rfl,hq,hx,k1,k2⟩,hB⟩ hK;have HE:Hid (lo (Xd L so) 0 n=(x.1:Int)):=hid (by rw[<- HL.o];exact RJ hpre hq hx);gi_wp2_with fail
  refine⟨by simp,.inl ⟨_,_,rfl,run_takeDeferred hK,?_⟩⟩;have q1:=cell_kept k1.cell (grownBy_putObj' _ D (.deferred none)) (fun r e=>by cases e;exact⟨_,hK,rfl⟩);have q2:=cell_kept k2.cell (grownBy_putObj' _ D (.deferred none)) (fun r e=>by cases e;exact⟨_,hK,rfl⟩);refine⟨.tuple #[.int .i64 (x.1:Int),.bool true],?_,by rw[HE.o];unfold Ux;rw[if_pos (Int.natCast_nonneg _),decide_eq_true (Int.natCast_nonneg _)],Kq (hB.trans (belowK_b (w:=w) (Nat.le_refl _) W D _ _ (by omega) hK rfl rfl))⟩;simp[results,Tryz.f243,go_sem,q1,q2]
theorem T9(L:List Mv)(so:Nat->Bool)(ao:Option Addr)(n cap g p q:Nat)(hg:g=241\/g=250)(w:World)(hr:RdG KM w ao n L)
  (hso:∀(i:Nat) (u:World),i<n->Yc w u->Ya g #[.int .i64 (i:Int),.pointer (some ⟨p,0,none⟩),.pointer (some ⟨q,0,none⟩)] u (.bool (so i))) :
  Ya 243 #[.slice ao n cap,.func (.func g) #[] #[.pointer (some ⟨p,0,none⟩),.pointer (some ⟨q,0,none⟩)]] w (.tuple #[.int .i64 (Ux (lo (Xd L so) 0 n)),.bool (decide (0<=lo (Xd L so) 0 n))]):=
 callsIn_wide.1 (CE L so ao n cap g p q hg w hr hso)
def soP(L:List Mv)(p:Int × Int)(k:Nat):Bool:=ov (mm L k) p.1 p.2 768
theorem CF(L:List Mv)(p:Int × Int):Xd L (soP L p)=hP L p:=rfl
theorem CG(L:List Mv)(s:Int × Int)(ao:Option Addr)(n cap p q i:Nat)(u:World)(hr:RdG KM u ao n L)(hq:Boxed u p 28 (.slice ao n cap))(hb:Bb u q (Ye s.1 768) (Ye s.2 768) (Yd s.1 768) (Yd s.2 768))(hi:i<n) :
  Ya 250 #[.int .i64 (i:Int),.pointer (some ⟨p,0,none⟩),.pointer (some ⟨q,0,none⟩)] u (.bool (soP L s i)):=by
 have hlt:(i:Int)<(n:Int):=by omega
 obtain⟨B,o,rfl⟩:=hr.at (by omega);obtain⟨c0,c1,c2,c3,c4,c5,c6,c7,c8,c9,c10,c11,c12⟩:=rdM hr hi;obtain⟨s0,s1,s2,s3,sf⟩:=hb.cells;have cq:=hq.cell;have HB1:=hid (fun w=>Qw (mm L i) w);have HT:Hid (soP L s i=ov (mm L i) s.1 s.2 768):=hid rfl;obtain⟨X,eX⟩:∃z,mm L i=z:=⟨_,rfl⟩;rw[eX]at c0 c1 c2 c3 c4 c5 c6 c7 c8 c9 c10 c11 c12 HB1 HT;clear eX;have HV:=hid (fun w=>GH (Ye X.ax 1280) (Ye X.ay 1280) (Yd X.ax 1280) (Yd X.ay 1280) (Ye s.1 768) (Ye s.2 768) (Yd s.1 768) (Yd s.2 768) w);obtain⟨b3,eb3⟩:∃b,ov X s.1 s.2 768=b:=⟨_,rfl⟩;unfold ov at eb3;rw[show ov X s.1 s.2 768=b3 from eb3]at HT;rw[eb3]at HV;clear eb3;obtain⟨x1,e1⟩:∃z,Ye X.ax 1280=z:=⟨_,rfl⟩;obtain⟨x2,e2⟩:∃z,Ye X.ay 1280=z:=⟨_,rfl⟩;obtain⟨x3,e3⟩:∃z,Yd X.ax 1280=z:=⟨_,rfl⟩;obtain⟨x4,e4⟩:∃z,Yd X.ay 1280=z:=⟨_,rfl⟩;rw[e1,e2,e3,e4]at HB1 HV;clear e1 e2 e3 e4;obtain⟨y1,e1⟩:∃z,Ye s.1 768=z:=⟨_,rfl⟩;obtain⟨y2,e2⟩:∃z,Ye s.2 768=z:=⟨_,rfl⟩;obtain⟨y3,e3⟩:∃z,Yd s.1 768=z:=⟨_,rfl⟩;obtain⟨y4,e4⟩:∃z,Yd s.2 768=z:=⟨_,rfl⟩;rw[e1]at HV s0;rw[e2]at HV s1;rw[e3]at HV s2;rw[e4]at HV s3;rw[HT.o];clear e1 e2 e3 e4 hr hb hq sf HT;have g0:=kC c0;have g1:=kC c1;have g2:=kC c2;have g3:=kC c3;have g4:=kC c4;have g5:=kC c5;have g6:=kC c6;have g7:=kC c7;have g8:=kC c8;have g9:=kC c9;have g10:=kC c10;have g11:=kC c11;have g12:=kC c12;have gz:=kC cq;have l0:=kC s0;have l1:=kC s1;have l2:=kC s2;have l3:=kC s3;have hne:=Aft.here u;clear c0 c1 c2 c3 c4 c5 c6 c7 c8 c9 c10 c11 c12 s0 s1 s2 s3 cq;go_enter Tryz.func250,Tryz.ntmps250;go_wp2_with fail;refine Yk (by kernel_rfl) (by kernel_rfl) ?_;repeat(go_big_quiet_step ((first|(go_at_call 234;with_reducible exact Calls.cl (HB1.o _))|(go_at_call 233;with_reducible exact Calls.cl (HV.o _)))))
 refine wpQuiet_nil ?_;intro w3 h3;have HS3:=hid h3;clear h3 hne g0 g1 g2 g3 g4 g5 g6 g7 g8 g9 g10 g11 g12 gz l0 l1 l2 l3;go_wp2_with fail;go_ret;exact⟨rfl,HS3.o⟩
theorem CH(L:List Mv)(Q:List Pk)(T:List (Int × Int))(ao:Option Addr)(n cap:Nat)(po:Option Addr)(r pcap:Nat)(xo:Option Addr)(t tcap:Nat)(w:World)(hr:RdG KM w ao n L)(hq:RdK w po r Q)(htt:RdG KT w xo t T)(hcap:r<=pcap)(ht:Yt L=true)(hf:YW Q (t:Int)):Calls Tryz.prog 180 #[.slice ao n cap,.slice po r pcap,.slice xo t tcap] w fun e w'=>∃v,e=.returned (.tuple #[v,.int .i64 0])/\OwG KT 126 w' w.heap.size v (Yj (fun i k=>hP L (pp T (pk Q i).sp.toNat) k) n r)/\Yc w w':=by
 have HL:=hid hr.1;have hn6:n<=6:=by have:=(togB_iff.1 ht).1;have:=hr.1;omega
 have hr8:r<=8:=by have:=hf.2.1;have:=hq.1;omega
 have ht16:t<=16:=by have:=hf.1;omega
 have HSp:=hid (show ∀i,i<r->0<=(pk Q i).sp/\(pk Q i).sp<(t:Int)from fun i hi=>(hf.2.2 i (by rw[hq.1];exact hi)).2.2.1);have A0:=sA w (.cells #[.slice ao n cap] 28);have H:=hid (Jd L ao n cap _ (hr.sT A0));have H2:=hid (fun u hu=>Jc Q (t:Int) po r pcap u hu hcap);have HR:=hid (hr.sT A0);have HRQ:=hid (hq.sT A0);have HRT:=hid (htt.sT A0);have HA0:=hid A0;have HBx:=hid (Boxed.new w 28 (.slice ao n cap));have c00:=HBx.o.cell;rw[ht]at H;rw[V9 hf]at H2;clear hr ht hq htt hf A0 hcap;obtain⟨P,eP⟩:∃P,(fun i k=>hP L (pp T (pk Q i).sp.toNat) k)=P:=⟨_,rfl⟩;have HP:=hid (show ∀i,P i=hP L (pp T (pk Q i).sp.toNat)from fun i=>by rw[<- eP]);rw[eP];clear eP;go_enter Tryz.func180,Tryz.ntmps180;go_wp2_with fail;refine H.o.mono ?_;rintro e w0 ⟨rfl,h0⟩;have HS0:=hid h0;clear h0 H c00;go_wp2_with fail;refine(H2.o _ (HRQ.o.sT HS0.o)).mono ?_;rintro e w1 ⟨rfl,h1⟩;have HS01:=hid (HS0.o.trans h1);have HS1:=hid (HA0.o.trans HS01.o);have HZ:=hid HS1.o.size;have HBx1:=hid (ZI HBx.o HS01.o);have HR1:=hid (HR.o.sT HS01.o);have HRQ1:=hid (HRQ.o.sT HS01.o);have HRT1:=hid (HRT.o.sT HS01.o);clear h1 H2 HS0 HS01 HBx HR HRQ HRT HA0;go_wp2_with fail;go_loopw [8,27] (fun v u wr=>∃i:Nat,i<=r/\u=.int .i64 (i:Int)/\OwG KT 126 wr w1.heap.size v (Yj P n i)/\Yc w1 wr) (fun _ u _=>r-(intOf u).toNat);case atStart=>exact⟨0,by omega,rfl,OwG.nil _ _,Fr.refl _ _⟩
 case round =>
  obtain⟨i,hi,rfl,ho,hs⟩:=hrel;have HS2:=hid hs;have HO2:=hid ho;clear hs;obtain⟨ao2,cap2,rfl,_⟩:=ho.slice;clear ho;have HLn:=hid (show(Yj P n i).length<=100000 by have:=Ud P n i;omega);obtain⟨m2,em2⟩:∃m,(Yj P n i).length=m:=⟨_,rfl⟩;rw[em2]at HO2⊢;clear em2;by_cases hin:i<r
  ·have hlt:(i:Int)<(r:Int):=by omega
   have HRow:Hid (Yj P n (i+1)=Yj P n i ++ (if 0<=lo (P i) 0 n then [((i:Int),lo (P i) 0 n)]else [])):=hid rfl;have HRq:=hid (HRQ1.o.sT HS2.o);have HRt:=hid (HRT1.o.sT HS2.o);obtain⟨sp,esp⟩:∃c:Nat,(pk Q i).sp=(c:Int):=⟨(pk Q i).sp.toNat,by have:=(HSp.o i hin).1;omega⟩;have hspt:sp<t:=by have:=(HSp.o i hin).2;omega
   have hspl:(sp:Int)<(t:Int):=by omega
   have HPi:=hid (HP.o i);rw[esp,show((sp:Int)).toNat=sp by omega]at HPi;obtain⟨B2,o2,rfl,hcc⟩:=HRq.o.at (by omega);obtain⟨s0,s1,s2⟩:=hcc i hin;rw[esp]at s1;obtain⟨kn,ekn⟩:∃x,(pk Q i).no=x:=⟨_,rfl⟩;obtain⟨kk,ekk⟩:∃x,(pk Q i).kd=x:=⟨_,rfl⟩;rw[ekn]at s0;rw[ekk]at s2;obtain⟨B3,o3,rfl⟩:=HRt.o.at (by omega);obtain⟨t0,t1⟩:=rdP HRt.o hspt;obtain⟨y,ey⟩:∃x,pp T sp=x:=⟨_,rfl⟩;rw[ey]at t0 t1 HPi;have ey2:pp T sp=y:=ey;clear ey ekn ekk esp hcc;have A2:=sA wr (.cells (kcs ⟨kn,sp,kk⟩) 71);have HA2:=hid A2;obtain⟨d0,d1,d2,df⟩:=(Xn wr ⟨kn,sp,kk⟩).cells;obtain⟨u0,u1⟩:=rdP (HRt.o.sT A2) hspt;rw[ey2]at u0 u1;clear ey2;have HA:=hid (fun w=>Gq y.1 y.2 768 w);rw[NR]at HA;obtain⟨x1,x2⟩:=y;simp only at t0 t1 u0 u1 HA HPi;have HSo:=hid (fun k u (hb:Bb u k (Ye x1 768) (Ye x2 768) (Yd x1 768) (Yd x2 768)) (hq:Boxed u w.heap.size 28 (.slice ao n cap)) (hr:RdG KM u ao n L)=>T9 L (soP L (x1,x2)) ao n cap _ w.heap.size k (.inr rfl) u hr (fun j v hj hv=>CG L (x1,x2) ao n cap _ _ j v (hr.sT hv) (ZI hq hv) (hb.sT hv) hj));rw[CF,<- HPi.o]at HSo;obtain⟨z,ez⟩:∃z,lo (P i) 0 n=z:=⟨_,rfl⟩;rw[ez]at HSo HRow;obtain⟨y1,e1⟩:∃z,Ye x1 768=z:=⟨_,rfl⟩;obtain⟨y2,e2⟩:∃z,Ye x2 768=z:=⟨_,rfl⟩;obtain⟨y3,e3⟩:∃z,Yd x1 768=z:=⟨_,rfl⟩;obtain⟨y4,e4⟩:∃z,Yd x2 768=z:=⟨_,rfl⟩;rw[e1,e2,e3,e4]at HA HSo;clear e1 e2 e3 e4 A2 ez HRt HRq;go_wp2_with fail;refine(HA.o _).mono ?_;rintro e w3 ⟨rfl,h3⟩;have A3:=sA w3 (.cells #[.int .i64 y1,.int .i64 y2,.int .i64 y3,.int .i64 y4] 172);have hs3:=(HA2.o.trans h3).trans A3;have k3:=ZI (ZI HBx1.o HS2.o) hs3;have q3:=k3.cell;have HF:=hid (HSo.o _ _ (Xy w3 y1 y2 y3 y4) k3 ((HR1.o.sT HS2.o).sT hs3));have HS33:=hid (HS2.o.trans hs3);have HO33:=hid (HO2.o.sT hs3);clear h3 A3 hs3 k3 HA HSo HA2 HS2 HO2 s0 s1 s2 t0 t1 u0 u1 d0 d1 d2 df;go_wp2_with fail;refine HF.o.mono ?_;rintro e w4 ⟨rfl,h4⟩;have HS3:=hid (HS33.o.trans h4);have HO3:=hid (HO33.o.sT h4);clear h4 HF HS33 HO33 q3;by_cases hz0:0<=z
   ·have hd:decide (0<=z)=true:=by simpa using hz0
    have HK:Hid (Yj P n (i+1)=Yj P n i ++ [((i:Int),z)]):=hid (by rw[HRow.o,if_pos hz0]);have hfz:Ux z=z:=if_pos hz0;rw[hfz,hd];have A4:=sA w4 (.cells #[.int .i64 (i:Int),.int .i64 z] 126);have HS4:=hid (HS3.o.trans A4);have HO4:=hid (HO3.o.sT A4);have HX4:Hid ((w4.alloc (.cells #[.int .i64 (i:Int),.int .i64 z] 126)).heap[w4.heap.size]?=some (.cells #[.int .i64 (i:Int),.int .i64 z] 126 (0,0))):=hid (heap_alloc_new w4 _);have HB4:=hid (show w1.heap.size<=(w4.alloc (.cells #[.int .i64 (i:Int),.int .i64 z] 126)).heap.size by rw[size_alloc];have:=HS3.o.size;omega);clear A4 HRow hfz hd;go_wp2_with (at_builtin;refine US _ rfl _ _ rfl w1.heap.size w4.heap.size _ (Yj P n i) (i:Int) z rfl rfl HO4.o HX4.o HLn.o HB4.o ?_;intro v' w' ho' hf');go_roundw;case rel=>exact⟨i+1,by omega,by go_num,by rw[HK.o];exact ho',XO HS4.o HO4.o hf' (Nat.le_refl _)⟩
    case measure=>first|(simp[intOf];done)|(simp[intOf];omega)
   ·have hd:decide (0<=z)=false:=by simpa using hz0
    have HK:Hid (Yj P n (i+1)=Yj P n i):=hid (by rw[HRow.o,if_neg hz0,List.append_nil]);rw[hd];obtain⟨z2,ez2⟩:∃z2,Ux z=z2:=⟨_,rfl⟩;rw[ez2];clear HRow ez2 hd hz0;go_wp2_with fail;go_roundw;case rel=>exact⟨i+1,by omega,by go_num,by rw[HK.o];exact HO3.o,HS3.o⟩
    case measure=>first|(simp[intOf];done)|(simp[intOf];omega)
  ·have hge:¬(i:Int)<(r:Int):=by omega
   have HE:Hid (Yj P n r=Yj P n i):=hid (by congr;omega);clear hin;go_wp2_with fail;go_ret2
   exact⟨_,rfl,by rw[HE.o];exact HO2.o.less HZ.o,HS1.o.trans HS2.o⟩
theorem CI(L:List Mv)(Q:List Pk)(T:List (Int × Int))(ao:Option Addr)(n cap:Nat)(po:Option Addr)(r pcap:Nat)(xo:Option Addr)(t tcap:Nat)(w:World)(hr:RdG KM w ao n L)(hq:RdK w po r Q)(htt:RdG KT w xo t T)(hcap:r<=pcap):Calls Tryz.prog 180 #[.slice ao n cap,.slice po r pcap,.slice xo t tcap] w fun e w'=>∃v,e=.returned (.tuple #[v,.int .i64 (Zp (XL L Q T))])/\OwG KT 126 w' w.heap.size v (pic L Q T)/\Yc w w':=by
 have htl:T.length=t:=htt.1;cases he:XL L Q T with
 | true =>
  have h:=he;unfold XL at h;rw[Bool.and_eq_true,htl]at h;have e:pic L Q T=Yj (fun i k=>hP L (pp T (pk Q i).sp.toNat) k) n r:=by unfold pic;rw[he,hr.1,hq.1];rfl
  rw[e];exact CH L Q T ao n cap po r pcap xo t tcap w hr hq htt hcap h.1 (mayK_iff.1 h.2)
 | false =>
  have HE:Hid (pic L Q T=[]):=hid (by unfold pic;rw[he];rfl);have A0:=sA w (.cells #[.slice ao n cap] 28);have H:=hid (Jd L ao n cap _ (hr.sT A0));have H2:=hid (fun u hu=>Jc Q (t:Int) po r pcap u hu hcap);have HRQ:=hid (hq.sT A0);have HA0:=hid A0;have c00:=(Boxed.new w 28 (.slice ao n cap)).cell;have ht48:=htt.2.1;have HB:Hid ((Yt L && ZW Q (t:Int))=false):=hid (by rw[<- htl];exact he);obtain⟨a,ea⟩:∃b,Yt L=b:=⟨_,rfl⟩;obtain⟨E,eE⟩:∃E,Y5 Q (t:Int)=E:=⟨_,rfl⟩;have HE2:Hid (a=true->E=100):=hid (fun h=>by
   have hb:=HB.o;rw[ea,h,Bool.true_and]at hb;rw[<- eE];unfold Y5;rw[hb];rfl)
  rw[ea]at H;rw[eE]at H2;clear he hr hq htt ea eE htl HB A0;cases a with
  | false =>
   clear HE2;go_enter Tryz.func180,Tryz.ntmps180;go_wp2_with fail;refine H.o.mono ?_;rintro e w1 ⟨rfl,h1⟩;have HS1:=hid (HA0.o.trans h1);clear h1 H c00;go_wp2_with fail;go_ret2
   exact⟨_,rfl,by rw[HE.o];exact OwG.nil _ _,HS1.o⟩
  | true =>
   obtain rfl:=HE2.o rfl;clear HE2;go_enter Tryz.func180,Tryz.ntmps180;go_wp2_with fail;refine H.o.mono ?_;rintro e w1 ⟨rfl,h1⟩;have HS1:=hid (HA0.o.trans h1);have HRQ1:=hid (HRQ.o.sT h1);clear h1 H c00;go_wp2_with fail;refine(H2.o _ HRQ1.o).mono ?_;rintro e w2 ⟨rfl,h2⟩;have HS2:=hid (HS1.o.trans h2);clear h2 H2;go_wp2_with fail;go_ret2
   exact⟨_,rfl,by rw[HE.o];exact OwG.nil _ _,HS2.o⟩
def abv(S:List Sh)(k:Nat):Int:=if k=0 then 0 else(ss S (k-1)).no
theorem CJ(S:List Sh)(k:Nat):abv S (k+1)=(ss S k).no:=by unfold abv;rw[if_neg (by omega)];rfl
theorem flo_step{S:List Sh}{k:Nat}:(YH (ss S k)=true/\abv S k<(ss S k).no) ↔ (YH (ss S k)=true/\(0<k->(ss S (k-1)).no<(ss S k).no)):=by
 constructor
 ·rintro⟨h1,h2⟩;refine⟨h1,fun h=>?_⟩;unfold abv at h2;rwa [if_neg (by omega)]at h2
 ·rintro⟨h1,h2⟩;refine⟨h1,?_⟩;unfold abv;split
  ·have:=(maySB_iff.1 h1).1;omega
  ·exact h2 (by omega)
theorem TA(S:List Sh)(ao:Option Addr)(n cap:Nat)(w:World)(hr:RdG KS w ao n S):Ya 240 #[.slice ao n cap] w (.bool (flo S)):=by
 have HL:=hid hr.1;have HR:=hid hr;by_cases h6:48<n
 ·have HE:Hid (flo S=false):=hid (KY (fun h=>by have:=h.1;rw[HL.o]at this;omega));have h6':(n:Int) > 48:=by omega
  clear hr;go_enter Tryz.func240,Tryz.ntmps240;go_wp2_with fail;go_ret;exact⟨by rw[HE.o];rfl,Fr.refl _ _⟩
 ·have h6':decide ((48:Int)<(n:Int))=false:=by simp;omega
  have hn6:n<=48:=by omega
  clear hr h6;go_enter Tryz.func240,Tryz.ntmps240;go_wp2_with fail;clear h6';go_loopw [3,11] (fun v u wr=>∃k:Nat,k<=n/\u=.int .i64 (k:Int)/\v=.int .i64 (abv S k)/\Hid (∀i,i<k->YH (ss S i)=true/\(0<i->(ss S (i-1)).no<(ss S i).no))/\Yc w wr) (fun _ u _=>n-(intOf u).toNat);case atStart=>exact⟨0,by omega,rfl,rfl,hid (fun i hi=>by omega),Fr.refl _ _⟩
  case round =>
   obtain⟨k,hk,rfl,rfl,HF,hs⟩:=hrel;have HS:=hid hs;by_cases hkn:k<n
   ·have hlt:(k:Int)<(n:Int):=by omega
    obtain⟨B,o,rfl⟩:=(HR.o.sT HS.o).at (by omega);obtain⟨s0,s1,s2,s3,s4,s5,s6,s7⟩:=rdS (HR.o.sT HS.o) hkn;have HM:=hid (fun w=>Eg (ss S k) w);have HNo:=hid (show ¬(YH (ss S k)=true/\abv S k<(ss S k).no)->flo S=false from fun h=>KY (fun hf=>h (flo_step.2 (hf.2 k (by rw[HL.o];exact hkn)))));have HYes:=hid (show(YH (ss S k)=true/\abv S k<(ss S k).no)->∀i,i<k+1->YH (ss S i)=true/\(0<i->(ss S (i-1)).no<(ss S i).no)from fun h i hi=>by
     by_cases e:i=k
     ·subst e;exact flo_step.1 h
     ·exact HF.o i (by omega))
    have HAb:=hid (CJ S k);obtain⟨x,ex⟩:∃x,ss S k=x:=⟨_,rfl⟩;obtain⟨y,ey⟩:∃y,abv S k=y:=⟨_,rfl⟩;rw[ex]at s0 s1 s2 s3 s4 s5 s6 s7 HM HNo HYes HAb;rw[ey]at HNo HYes⊢;obtain⟨b,eb⟩:∃b,YH x=b:=⟨_,rfl⟩;have HCk:Hid (YM x=if b then 0 else 90):=hid (by unfold YM;rw[eb]);rw[eb]at HNo HYes;rw[HCk.o]at HM;clear ex eb ey HCk;have HS1:=hid (hs.trans (sA wr (.cells (scs x) 69)));have p0:=Ua wr x;obtain⟨d0,d1,d2,d3,d4,d5,d6,d7,df⟩:=p0.cells;clear hs HS;go_wp2_with fail;refine(HM.o _).mono ?_;rintro e w2 ⟨rfl,h2⟩;have p2:=p0.sT h2;have HS2:=hid (HS1.o.trans h2);clear h2 HS1 p0 s0 s1 s2 s3 s4 s5 s6 s7 HM d0 d1 d2 d3 d4 d5 d6 d7 df;obtain⟨d0,d1,d2,d3,d4,d5,d6,d7,df⟩:=p2.cells;obtain⟨z,ez⟩:∃z,x.no=z:=⟨_,rfl⟩;rw[ez]at d0 HNo HYes HAb;clear ez p2;cases b with
    | false =>
     have HN:=hid (HNo.o (fun h=>by cases h.1));clear HYes HNo;go_wp2_with fail
     (try rw[Exit.noGoto_ret])
     go_ret;exact⟨by rw[HN.o];rfl,HS2.o⟩
    | true =>
     by_cases hzy:z<=y
     ·have hz2:decide (z<=y)=true:=by simpa using hzy
      have HN:=hid (HNo.o (fun h=>by have:=h.2;omega));clear HYes HNo;go_wp2_with fail
      (try rw[Exit.noGoto_ret])
      go_ret;exact⟨by rw[HN.o];rfl,HS2.o⟩
     ·have hz2:decide (z<=y)=false:=by simpa using hzy
      have HY:=hid (HYes.o ⟨rfl,by omega⟩);clear HYes HNo;go_wp2_with fail;go_roundw;case rel=>exact⟨k+1,by omega,by go_num,by rw[HAb.o],HY,HS2.o⟩
      case measure=>first|(simp[intOf];done)|(simp[intOf];omega)
   ·have hge:¬(k:Int)<(n:Int):=by omega
    have HE:Hid (flo S=true):=hid (flo_iff.2 ⟨by rw[HL.o];exact hn6,fun i hi=>HF.o i (by have:=HL.o;omega)⟩);obtain⟨y,ey⟩:∃y,abv S k=y:=⟨_,rfl⟩;rw[ey];clear hkn hk hs ey;go_wp2_with fail;go_ret;exact⟨by rw[HE.o];rfl,HS.o⟩
def soS(L:List Mv)(s:Sh)(k:Nat):Bool:=!((k:Int) == s.ow) && inn (mm L k) s.ax s.ay
theorem CK(L:List Mv)(s:Sh):Xd L (soS L s)=hS L s:=by
 funext k
 unfold Xd soS hS;rw[Bool.and_assoc]
theorem CL(L:List Mv)(s:Sh)(ao:Option Addr)(n cap p q i:Nat)(u:World)(hr:RdG KM u ao n L)(hb:Sb u p s)(hq:Boxed u q 28 (.slice ao n cap))(hi:i<n) :
  Ya 241 #[.int .i64 (i:Int),.pointer (some ⟨p,0,none⟩),.pointer (some ⟨q,0,none⟩)] u (.bool (soS L s i)):=by
 have hlt:(i:Int)<(n:Int):=by omega
 obtain⟨B,o,rfl⟩:=hr.at (by omega);obtain⟨c0,c1,c2,c3,c4,c5,c6,c7,c8,c9,c10,c11,c12⟩:=rdM hr hi;obtain⟨s0,s1,s2,s3,s4,s5,s6,s7,sf⟩:=hb.cells;have cq:=hq.cell;have HB1:=hid (fun w=>Qw (mm L i) w);have HT:Hid (soS L s i=(!((i:Int) == s.ow) && inn (mm L i) s.ax s.ay)):=hid rfl;obtain⟨X,eX⟩:∃z,mm L i=z:=⟨_,rfl⟩;rw[eX]at c0 c1 c2 c3 c4 c5 c6 c7 c8 c9 c10 c11 c12 HB1 HT;clear eX;have HV:=hid (fun w=>Oe (Ye X.ax 1280) (Ye X.ay 1280) (Yd X.ax 1280) (Yd X.ay 1280) s.ax s.ay w);obtain⟨b3,eb3⟩:∃b,inn X s.ax s.ay=b:=⟨_,rfl⟩;unfold inn at eb3;rw[show inn X s.ax s.ay=b3 from eb3]at HT;rw[eb3]at HV;clear eb3;obtain⟨x1,e1⟩:∃z,Ye X.ax 1280=z:=⟨_,rfl⟩;obtain⟨x2,e2⟩:∃z,Ye X.ay 1280=z:=⟨_,rfl⟩;obtain⟨x3,e3⟩:∃z,Yd X.ax 1280=z:=⟨_,rfl⟩;obtain⟨x4,e4⟩:∃z,Yd X.ay 1280=z:=⟨_,rfl⟩;rw[e1,e2,e3,e4]at HB1 HV;obtain⟨r,er⟩:∃r,soS L s i=r:=⟨_,rfl⟩;rw[er]at HT⊢;obtain⟨y,ey⟩:∃y,s.ow=y:=⟨_,rfl⟩;rw[ey]at s1 HT;clear e1 e2 e3 e4 er ey hr hb hq sf;have g0:=kC c0;have g1:=kC c1;have g2:=kC c2;have g3:=kC c3;have g4:=kC c4;have g5:=kC c5;have g6:=kC c6;have g7:=kC c7;have g8:=kC c8;have g9:=kC c9;have g10:=kC c10;have g11:=kC c11;have g12:=kC c12;have gz:=kC cq;have l1:=kC s1;have l3:=kC s3;have l4:=kC s4;have hne:=Aft.here u;clear c0 c1 c2 c3 c4 c5 c6 c7 c8 c9 c10 c11 c12 s0 s1 s2 s3 s4 s5 s6 s7 cq;cases hqq:(i:Int) == y with
 | true =>
  have hq2:((i:Int) != y)=false:=by simpa using hqq
  rw[hqq]at HT;go_enter Tryz.func241,Tryz.ntmps241;go_wp2_with fail;refine Yk (by kernel_rfl) (by kernel_rfl) ?_;repeat(go_big_quiet_step (fail))
  refine wpQuiet_nil ?_;intro w3 h3;have HS3:=hid h3;clear h3 hne g0 g1 g2 g3 g4 g5 g6 g7 g8 g9 g10 g11 g12 gz l1 l3 l4;go_wp2_with fail;go_ret;exact⟨by rw[HT.o];rfl,HS3.o⟩
 | false =>
  have hq2:((i:Int) != y)=true:=by simpa using hqq
  rw[hqq]at HT;go_enter Tryz.func241,Tryz.ntmps241;go_wp2_with fail;refine Yk (by kernel_rfl) (by kernel_rfl) ?_;repeat(go_big_quiet_step ((first|(go_at_call 234;with_reducible exact Calls.cl (HB1.o _))|(go_at_call 242;with_reducible exact Calls.cl (HV.o _)))))
  refine wpQuiet_nil ?_;intro w3 h3;have HS3:=hid h3;clear h3 hne g0 g1 g2 g3 g4 g5 g6 g7 g8 g9 g10 g11 g12 gz l1 l3 l4;go_wp2_with fail;go_ret;exact⟨by rw[HT.o];rfl,HS3.o⟩
theorem CM(L:List Mv)(S:List Sh)(ao:Option Addr)(n cap:Nat)(so:Option Addr)(r scap:Nat)(w:World)(hr:RdG KM w ao n L)(hs:RdG KS w so r S)(ht:Yt L=true)(hf:flo S=true):Calls Tryz.prog 177 #[.slice ao n cap,.slice so r scap] w fun e w'=>∃v,e=.returned (.tuple #[v,.int .i64 0])/\OwG KT 126 w' w.heap.size v (Yj (fun i k=>hS L (ss S i) k) n r)/\Yc w w':=by
 have HL:=hid hr.1;have hn6:n<=6:=by have:=(togB_iff.1 ht).1;have:=hr.1;omega
 have hr48:r<=48:=by have:=(flo_iff.1 hf).1;have:=hs.1;omega
 have A0:=sA w (.cells #[.slice ao n cap] 28);have H:=hid (Jd L ao n cap _ (hr.sT A0));have H2:=hid (fun u hu=>TA S so r scap u hu);have HR:=hid (hr.sT A0);have HRS:=hid (hs.sT A0);have HA0:=hid A0;have HBx:=hid (Boxed.new w 28 (.slice ao n cap));have c00:=HBx.o.cell;rw[ht]at H;rw[hf]at H2;clear hr ht hs hf A0;obtain⟨P,eP⟩:∃P,(fun i k=>hS L (ss S i) k)=P:=⟨_,rfl⟩;have HP:=hid (show ∀i,P i=hS L (ss S i)from fun i=>by rw[<- eP]);rw[eP];clear eP;go_enter Tryz.func177,Tryz.ntmps177;go_wp2_with fail;refine H.o.mono ?_;rintro e w0 ⟨rfl,h0⟩;have HS0:=hid h0;clear h0 H c00;go_wp2_with fail;refine(H2.o _ (HRS.o.sT HS0.o)).mono ?_;rintro e w1 ⟨rfl,h1⟩;have HS01:=hid (HS0.o.trans h1);have HS1:=hid (HA0.o.trans HS01.o);have HZ:=hid HS1.o.size;have HBx1:=hid (ZI HBx.o HS01.o);have HR1:=hid (HR.o.sT HS01.o);have HRS1:=hid (HRS.o.sT HS01.o);clear h1 H2 HS0 HS01 HBx HR HRS HA0;go_wp2_with fail;go_loopw [6,22] (fun v u wr=>∃i:Nat,i<=r/\u=.int .i64 (i:Int)/\OwG KT 126 wr w1.heap.size v (Yj P n i)/\Yc w1 wr) (fun _ u _=>r-(intOf u).toNat);case atStart=>exact⟨0,by omega,rfl,OwG.nil _ _,Fr.refl _ _⟩
 case round =>
  obtain⟨i,hi,rfl,ho,hs⟩:=hrel;have HS2:=hid hs;have HO2:=hid ho;clear hs;obtain⟨ao2,cap2,rfl,_⟩:=ho.slice;clear ho;have HLn:=hid (show(Yj P n i).length<=100000 by have:=Ud P n i;omega);obtain⟨m2,em2⟩:∃m,(Yj P n i).length=m:=⟨_,rfl⟩;rw[em2]at HO2⊢;clear em2;by_cases hin:i<r
  ·have hlt:(i:Int)<(r:Int):=by omega
   have HRow:Hid (Yj P n (i+1)=Yj P n i ++ (if 0<=lo (P i) 0 n then [((i:Int),lo (P i) 0 n)]else [])):=hid rfl;have HRs:=hid (HRS1.o.sT HS2.o);obtain⟨B2,o2,rfl⟩:=HRs.o.at (by omega);obtain⟨s0,s1,s2,s3,s4,s5,s6,s7⟩:=rdS HRs.o hin;have HPi:=hid (HP.o i);obtain⟨y,ey⟩:∃x,ss S i=x:=⟨_,rfl⟩;rw[ey]at s0 s1 s2 s3 s4 s5 s6 s7 HPi;clear ey;have A2:=sA wr (.cells (scs y) 69);have HA2:=hid A2;have p2:=Ua wr y;have k2:=ZI (ZI HBx1.o HS2.o) A2;have q2:=k2.cell;have r2:=(HR1.o.sT HS2.o).sT A2;have HF:=hid (T9 L (soS L y) ao n cap _ wr.heap.size w.heap.size (.inl rfl) _ r2 (fun j u hj hu=>CL L y ao n cap _ _ j u (r2.sT hu) (p2.sT hu) (ZI k2 hu) hj));rw[CK,<- HPi.o]at HF;obtain⟨z,ez⟩:∃z,lo (P i) 0 n=z:=⟨_,rfl⟩;rw[ez]at HF HRow;clear A2 p2 k2 r2 ez HRs;go_wp2_with fail;refine HF.o.mono ?_;rintro e w2 ⟨rfl,h2⟩;have HS3:=hid ((HS2.o.trans HA2.o).trans h2);have HO3:=hid ((HO2.o.sT HA2.o).sT h2);clear h2 HF HS2 HO2 HA2 s0 s1 s2 s3 s4 s5 s6 s7 q2;by_cases hz0:0<=z
   ·have hd:decide (0<=z)=true:=by simpa using hz0
    have HK:Hid (Yj P n (i+1)=Yj P n i ++ [((i:Int),z)]):=hid (by rw[HRow.o,if_pos hz0]);have hfz:Ux z=z:=if_pos hz0;rw[hfz,hd];have A4:=sA w2 (.cells #[.int .i64 (i:Int),.int .i64 z] 126);have HS4:=hid (HS3.o.trans A4);have HO4:=hid (HO3.o.sT A4);have HX4:Hid ((w2.alloc (.cells #[.int .i64 (i:Int),.int .i64 z] 126)).heap[w2.heap.size]?=some (.cells #[.int .i64 (i:Int),.int .i64 z] 126 (0,0))):=hid (heap_alloc_new w2 _);have HB4:=hid (show w1.heap.size<=(w2.alloc (.cells #[.int .i64 (i:Int),.int .i64 z] 126)).heap.size by rw[size_alloc];have:=HS3.o.size;omega);clear A4 HRow hfz hd;go_wp2_with (at_builtin;refine US _ rfl _ _ rfl w1.heap.size w2.heap.size _ (Yj P n i) (i:Int) z rfl rfl HO4.o HX4.o HLn.o HB4.o ?_;intro v' w' ho' hf');go_roundw;case rel=>exact⟨i+1,by omega,by go_num,by rw[HK.o];exact ho',XO HS4.o HO4.o hf' (Nat.le_refl _)⟩
    case measure=>first|(simp[intOf];done)|(simp[intOf];omega)
   ·have hd:decide (0<=z)=false:=by simpa using hz0
    have HK:Hid (Yj P n (i+1)=Yj P n i):=hid (by rw[HRow.o,if_neg hz0,List.append_nil]);rw[hd];obtain⟨z2,ez2⟩:∃z2,Ux z=z2:=⟨_,rfl⟩;rw[ez2];clear HRow ez2 hd hz0;go_wp2_with fail;go_roundw;case rel=>exact⟨i+1,by omega,by go_num,by rw[HK.o];exact HO3.o,HS3.o⟩
    case measure=>first|(simp[intOf];done)|(simp[intOf];omega)
  ·have hge:¬(i:Int)<(r:Int):=by omega
   have HE:Hid (Yj P n r=Yj P n i):=hid (by congr;omega);clear hin;go_wp2_with fail;go_ret2
   exact⟨_,rfl,by rw[HE.o];exact HO2.o.less HZ.o,HS1.o.trans HS2.o⟩
theorem CN(L:List Mv)(S:List Sh)(ao:Option Addr)(n cap:Nat)(so:Option Addr)(r scap:Nat)(w:World)(hr:RdG KM w ao n L)(hs:RdG KS w so r S):Calls Tryz.prog 177 #[.slice ao n cap,.slice so r scap] w fun e w'=>∃v,e=.returned (.tuple #[v,.int .i64 (Zp (XK L S))])/\OwG KT 126 w' w.heap.size v (sho L S)/\Yc w w':=by
 cases he:XK L S with
 | true =>
  have h:=he;unfold XK at h;rw[Bool.and_eq_true]at h;have e:sho L S=Yj (fun i k=>hS L (ss S i) k) n r:=by unfold sho;rw[he,hr.1,hs.1];rfl
  rw[e];exact CM L S ao n cap so r scap w hr hs h.1 h.2
 | false =>
  have HE:Hid (sho L S=[]):=hid (by unfold sho;rw[he];rfl);have A0:=sA w (.cells #[.slice ao n cap] 28);have H:=hid (Jd L ao n cap _ (hr.sT A0));have H2:=hid (fun u hu=>TA S so r scap u hu);have HRS:=hid (hs.sT A0);have HA0:=hid A0;have c00:=(Boxed.new w 28 (.slice ao n cap)).cell;have HB:Hid ((Yt L && flo S)=false):=hid he;obtain⟨a,ea⟩:∃b,Yt L=b:=⟨_,rfl⟩;obtain⟨b,eb⟩:∃b,flo S=b:=⟨_,rfl⟩;rw[ea]at H HB;rw[eb]at H2 HB;clear he hr hs ea eb A0;cases a with
  | false =>
   go_enter Tryz.func177,Tryz.ntmps177;go_wp2_with fail;refine H.o.mono ?_;rintro e w1 ⟨rfl,h1⟩;have HS1:=hid (HA0.o.trans h1);clear h1 H c00;go_wp2_with fail;go_ret2
   exact⟨_,rfl,by rw[HE.o];exact OwG.nil _ _,HS1.o⟩
  | true =>
   cases b with
   | true=>exact absurd HB.o (by decide)
   | false =>
    go_enter Tryz.func177,Tryz.ntmps177;go_wp2_with fail;refine H.o.mono ?_;rintro e w1 ⟨rfl,h1⟩;have HS1:=hid (HA0.o.trans h1);have HRS1:=hid (HRS.o.sT h1);clear h1 H c00;go_wp2_with fail;refine(H2.o _ HRS1.o).mono ?_;rintro e w2 ⟨rfl,h2⟩;have HS2:=hid (HS1.o.trans h2);clear h2 H2;go_wp2_with fail;go_ret2
    exact⟨_,rfl,by rw[HE.o];exact OwG.nil _ _,HS2.o⟩
attribute [local go_sem] Oper.semAt_some
def KpT(W W':World):Prop:=∀(b:Nat) (cs:Array Value) (t:TypeId) (m:Nat × Nat),W.heap[b]?=some (.cells cs t m)->t≠120->t≠126->W'.heap[b]?=some (.cells cs t m)
def Kpp(n₀:Nat)(W W':World):Prop:=Below n₀ W W'/\KpT W W'
theorem CO{n₀:Nat}{A B C:World}(h:Kpp n₀ A B)(k:Kpp n₀ B C):Kpp n₀ A C:=⟨h.1.trans k.1,fun b cs t m h1 h2 h3=>k.2 b cs t m (h.2 b cs t m h1 h2 h3) h2 h3⟩
theorem QN{n₀:Nat}{A B:World}{b t:Nat}{v:Value}(h:Kpp n₀ A B)(hb:Boxed A b t v)(h1:t≠120)(h2:t≠126):Boxed B b t v:=h.2 b _ _ _ hb h1 h2
theorem CP(ao:Option Addr)(n cap:Nat)(w:World):Calls Tryz.prog 232 #[.slice ao n cap] w fun e w' =>
  e=.returned (.func (.func 288) #[] #[.pointer (some ⟨w.heap.size,0,none⟩)])/\w'=w.alloc (.cells #[.slice ao n cap] 28):=by
 go_enter Tryz.func232,Tryz.ntmps232;go_wp2_with fail;go_ret;exact⟨rfl,rfl⟩
theorem CQ(L:List Mv)(ao:Option Addr)(n cap l Bl n₀:Nat)(J:List (Fin L.length × Fin L.length)->World->Prop)(W:World)(hJ:OwnFrom W.heap.size J)
  (hY:∀pre x W1,J pre W1->pre.length<(ipl L L.length).length*(ipl L L.length).length->YieldAt Fence.wide 0 Tryz.prog l #[.int .i64 (x.1.1:Int),.int .i64 (x.2.1:Int)] W1 fun e W' =>
   e=.returned (.bool true)/\J (pre ++ [x]) W'/\Kpp n₀ W1 W'/\KeepsFrom W.heap.size W1 W')
  (hn₀:n₀<=W.heap.size) (hBl:Boxed W Bl 28 (.slice ao n cap)) (hr:RdN n₀ W ao n L) (h0:J [] W) :
  CallsIn Fence.wide 8 Tryz.prog 288 #[.func (.yield l) #[] #[],.pointer (some ⟨Bl,0,none⟩)] W fun e W'=>(∃v,e=.returned v)/\J (Ygp.prs (ipl L L.length) (ipl L L.length)) W':=by
 have HR:=hid hr;have HY:=hid hY;have HJ:=hid hJ;have H0:=hid h0;have cB:=hBl.cell;have hBlt:=hBl.lt;clear hr hY hJ h0;refine callsIn_of_wp_marks Tryz.func288 rfl trivial ?_ rfl;simp only[Tryz.ntmps288,List.size_toArray,List.length_cons,List.length_nil,Nat.reduceAdd,Nat.reduceSub,Array.replicate_succ,Array.replicate_zero,List.push_toArray,List.append_toArray,List.nil_append,List.cons_append];gi_wp2_with fail
 refine⟨trivial,(callsIn_wide.2 (Wb ao n cap _)).mono ?_⟩;rintro e w' ⟨rfl,rfl⟩;gi_wp2_with fail
 have bL:=(hBl.alloc (.cells #[.func (.yield l) #[] #[]] 278)).alloc (.cells #[.slice ao n cap] 28);have bY:=(Boxed.new W 278 (.func (.yield l) #[] #[])).alloc (.cells #[.slice ao n cap] 28);have bI:=Boxed.new (W.alloc (.cells #[.func (.yield l) #[] #[]] 278)) 28 (.slice ao n cap);simp only[World.size_alloc]at bI;have hS0:Yc W ((W.alloc (.cells #[.func (.yield l) #[] #[]] 278)).alloc (.cells #[.slice ao n cap] 28)):=((Fr.refl _ W).alloc _).alloc _;have hsz:((W.alloc (.cells #[.func (.yield l) #[] #[]] 278)).alloc (.cells #[.slice ao n cap] 28)).heap.size=W.heap.size+2:=by simp
 obtain⟨V,eV⟩:∃V,(W.alloc (.cells #[.func (.yield l) #[] #[]] 278)).alloc (.cells #[.slice ao n cap] 28)=V:=⟨_,rfl⟩;rw[eV]at bL bY bI hS0 hsz⊢;clear eV cB hBl;have hB0:Below n₀ W V:=hS0.below.mono hn₀;have hJ0:J [] V:=Wa HJ.o H0.o hS0;refine wpIn_rangeFunc_ownH rfl (by omega) (gf:=317) (lb:=#[.pointer (some ⟨W.heap.size+1,0,none⟩)]) rfl trivial (enters_of Tryz.func317 (by kernel_rfl) rfl)
  (Wc L ao n cap (W.heap.size+1) n₀ 7 V (by omega) (by omega) bI.cell (HR.o.below hB0)) belowK_t (belowK_b (by omega)) (Below.refl _ _) (fun _=>rfl)
  (fun pre U=>(Boxed U Bl 28 (.slice ao n cap)/\Boxed U W.heap.size 278 (.func (.yield l) #[] #[]))/\J (Ygp.prs (ipl L L.length) pre) U/\Below n₀ W U)
  (fun _ _ _=>False)
  (OwnFrom.and (OwnFrom.and (Own.from (boxed_own _ _ _) _) (Own.from (boxed_own _ _ _) _)) (OwnFrom.and (T6 (Tz HJ.o (by omega)) (fun pre=>Ygp.prs (ipl L L.length) pre)) (ownFrom_below hn₀ (by omega))))
  (fun _ _ _ _ _ hs _ _=>hs)
  ⟨⟨bL,bY⟩,hJ0,hB0⟩
  (fun x a' U=>∃Bx,Boxed U Bx 3 (.int .i64 (x.1:Int))/\a'={ tmps:=#[.func (.yield l) #[] #[],.pointer (some ⟨Bl,0,none⟩),.pointer (some ⟨W.heap.size,0,none⟩),.pointer (some ⟨Bx,0,none⟩),undef,.slice ao n cap,.func (.func 317) #[] #[.pointer (some ⟨W.heap.size+1,0,none⟩)],.int .i64 (x.1:Int),undef,undef,undef,undef,undef,undef,undef,undef,undef,undef,undef,undef,undef],defers:=[] })
  (fun x a' _ X Z row hs hg hr=>by obtain⟨Bx,h1,h2⟩:=hs;exact⟨Bx,Jl h1 hg hr,h2⟩)
  ?assign ?body ?done ?stop
 case assign =>
  rintro l1 pre x U K ⟨⟨k1,k2⟩,hj,hB⟩ hK;gi_wp2_with fail
  exact hK _ _ ((KeepsOthers.alloc _ _).from _) ((Below.refl _ U).alloc (Nat.le_trans hn₀ hB.size) _) ⟨⟨k1.alloc _,k2.alloc _⟩,Wa HJ.o hj (sA _ _),hB.alloc (Nat.le_trans hn₀ hB.size) _⟩ ⟨U.heap.size,Boxed.new U 3 _,rfl⟩
 case body =>
  rintro l1 pre x a' U hl1 ⟨r,hr1⟩ ⟨⟨k1,k2⟩,hj,hB⟩ ⟨Bx,kx,rfl⟩ hlt;have c1:=k1.cell;gi_wp2_with fail
  refine⟨trivial,(DX l1 _ (Wb ao n cap _)).mono ?_⟩;rintro e w' ⟨rfl,rfl⟩;gi_wp2_with fail
  have hsU:n₀<=U.heap.size:=Nat.le_trans hn₀ hB.size;have hsW:=hB.size;have bN:=Boxed.new U 28 (.slice ao n cap);have hr':(U.alloc (.cells #[.slice ao n cap] 28)).heap[l1]?=some (.loop r):=(Below.heap_alloc U _ l1 (Array.getElem?_eq_some_iff.1 hr1).1).trans hr1;refine wpIn_rangeFunc_ownN (l₀:=l1) (r₀:=r) rfl hr' (by omega) (gf:=317) (lb:=#[.pointer (some ⟨U.heap.size,0,none⟩)]) rfl trivial (enters_of Tryz.func317 (by kernel_rfl) rfl)
   ((Wc L ao n cap U.heap.size n₀ _ (U.alloc (.cells #[.slice ao n cap] 28)) (by simp) (by simp;omega) bN.cell (HR.o.below (hB.alloc hsU _))).inRound l1) belowK_t (belowK_b (by simp;omega)) (Below.refl _ _) (fun _=>rfl)
   (fun pre' Z=>(Boxed Z Bl 28 (.slice ao n cap)/\Boxed Z W.heap.size 278 (.func (.yield l) #[] #[])/\Boxed Z Bx 3 (.int .i64 (x.1:Int)))/\J (Ygp.prs (ipl L L.length) pre ++ Ygp.inr x pre') Z/\Below n₀ U Z/\KeepsFrom V.heap.size U Z)
   (fun _ _ _=>False)
   (OwnFrom.and (OwnFrom.and (Own.from (boxed_own _ _ _) _) (OwnFrom.and (Own.from (boxed_own _ _ _) _) (Own.from (boxed_own _ _ _) _))) (OwnFrom.and (T6 (Tz HJ.o (by simp;omega)) (fun pre'=>Ygp.prs (ipl L L.length) pre ++ Ygp.inr x pre')) (OwnFrom.and (ownFrom_below hsU (by simp;omega)) (ownFrom_keepsFrom (by simp)))))
   (fun _ _ _ _ _ hs _ _=>hs)
   ⟨⟨k1.alloc _,k2.alloc _,kx.alloc _⟩,by simp only[Ygp.inr,List.flatMap_nil,List.append_nil];exact Wa HJ.o hj (sA _ _),(Below.refl _ U).alloc hsU _,(KeepsOthers.alloc _ _).from _⟩
   (fun y a'' _=>a''={ tmps:=#[.func (.yield l) #[] #[],.pointer (some ⟨Bl,0,none⟩),.pointer (some ⟨W.heap.size,0,none⟩),.pointer (some ⟨Bx,0,none⟩),.int .i64 (y.1:Int),.slice ao n cap,.func (.func 317) #[] #[.pointer (some ⟨W.heap.size+1,0,none⟩)],.int .i64 (x.1:Int),.slice ao n cap,.func (.func 317) #[] #[.pointer (some ⟨U.heap.size,0,none⟩)],.int .i64 (y.1:Int),undef,undef,undef,undef,undef,undef,undef,undef,undef,undef],defers:=[] })
   (fun _ _ _ _ _ _ hs _ _=>hs)
   ?assign2 ?body2 ?done2 ?stop2
  case assign2 =>
   rintro l2 pre' y Z K hi hK;gi_wp2_with fail
   exact hK _ _ (KeepsFrom.refl _ _) (Below.refl _ _) hi rfl
  case body2 =>
   rintro l2 pre' y a'' Z _ _ ⟨⟨j1,j2,jx⟩,hjj,hBZ,hKZ⟩ rfl hlt2;have cx:=jx.cell;have cy:=j2.cell;by_cases hxy:x.1<y.1
   ·have hd:decide ((x.1:Int)<(y.1:Int))=true:=by simp;omega
    have hlen:(Ygp.prs (ipl L L.length) pre ++ Ygp.inr x pre').length<(ipl L L.length).length*(ipl L L.length).length:=by
     have h1:=RK (ipl L L.length) pre;have h2:=Fb x pre';have h3:(pre.length+1)*(ipl L L.length).length<=(ipl L L.length).length*(ipl L L.length).length:=Nat.mul_le_mul_right _ hlt;rw[Nat.succ_mul]at h3;rw[List.length_append];omega
    obtain⟨fn,tmps,assign,body,hy,hR⟩:=HY.o _ (x,y) Z hjj hlen;have HR1:=hid hR;clear hR hlen;dsimp only at hy;gi_wp2_with fail
    refine(C9 l1 l2 HR1.o).mono ?_;rintro e Z2 ⟨rfl,hj2,hk2,hf2⟩;have HKZ:=hid (DW hf2 (show W.heap.size<=V.heap.size by omega));have HJ2:Hid (J (Ygp.prs (ipl L L.length) pre ++ Ygp.inr x (pre' ++ [y])) Z2):=hid (by rw[D2,if_pos hxy,<- List.append_assoc];exact hj2);clear hj2;gi_wp2_with fail
    exact⟨DW hf2 (by simp;omega),hk2.1,⟨QN hk2 j1 (by decide) (by decide),QN hk2 j2 (by decide) (by decide),QN hk2 jx (by decide) (by decide)⟩,HJ2.o,hBZ.trans hk2.1,hKZ.trans HKZ.o⟩
   ·have hd:decide ((x.1:Int)<(y.1:Int))=false:=by simp;omega
    have HJ2:Hid (J (Ygp.prs (ipl L L.length) pre ++ Ygp.inr x (pre' ++ [y])) Z):=hid (by rw[D2,if_neg hxy,List.append_nil];exact hjj);clear hjj;gi_wp2_with fail
    refine⟨fun _ h=>(by cases h),?_⟩;gi_wp2_with fail
    exact⟨KeepsFrom.refl _ _,Below.refl _ _,⟨j1,j2,jx⟩,HJ2.o,hBZ,hKZ⟩
  case done2 =>
   rintro ys Z rfl ⟨⟨j1,j2,jx⟩,hjj,hBZ,hKZ⟩;gi_wp2_with fail
   exact⟨hKZ,hBZ,⟨j1,j2⟩,by rw[Fa];exact hjj,hB.trans hBZ⟩
  case stop2 =>
   rintro c pre' Z _ h;exact h.elim
 case done =>
  rintro D ys U hD rfl ⟨_,hj,hB⟩ hK;gi_wp2_with fail
  refine⟨by simp,.inl ⟨_,_,rfl,run_takeDeferred hK,?_⟩⟩;exact⟨_,results_none rfl _ _ _,⟨_,rfl⟩,HJ.o.putObj _ hj (by omega) hK rfl⟩
 case stop =>
  rintro D c pre U _ _ h _;exact h.elim
theorem CR(L:List Mv)(ao:Option Addr)(n cap Bl n₀:Nat)(w:World)(hn₀:n₀<=w.heap.size)(hBl:Boxed w Bl 28 (.slice ao n cap))(hr:RdN n₀ w ao n L) :
  Ty Tryz.prog 288 #[.pointer (some ⟨Bl,0,none⟩)] (fun x:Fin L.length × Fin L.length=>#[Value.int .i64 (x.1.1:Int),Value.int .i64 (x.2.1:Int)]) (Kpp n₀) (Ygp.prs (ipl L L.length) (ipl L L.length)) ((ipl L L.length).length*(ipl L L.length).length) w:=
 fun l J W hW hJ hY h0=>callsIn_wide.2 (callsIn_wide.1 (CQ L ao n cap l Bl n₀ J W hJ hY (Nat.le_trans hn₀ hW.size) ((hW.block Bl hBl.lt).trans hBl) (hr.below (hW.mono hn₀)) h0))
attribute [local go_sem] Oper.semAt_some
theorem CT{n₀ B:Nat}(hB:n₀<=B)(W:World)(l:Nat)(o o':Obj)(hl:B<=l)(h:W.heap[l]?=some o)(hc:o.isCells=false):Kpp n₀ W (W.putObj l o'):=by
 have hg:=grownBy_putObj' W l o';refine⟨⟨hg.os,hg.tape,hg.output,hg.size,fun k hk=>hg.block k (by have:=(Array.getElem?_eq_some_iff.1 h).1;omega) (fun e=>by cases e;omega)⟩,fun b cs t m hb _ _=>?_⟩;refine(hg.block b (Array.getElem?_eq_some_iff.1 hb).1 (fun e=>?_)).trans hb;cases e;rw[h]at hb;cases hb;cases hc
theorem Yc.kpp{n₀:Nat}{w w':World}(h:Yc w w')(hn:n₀<=w.heap.size):Kpp n₀ w w':=⟨h.below.mono hn,fun _ _ _ _ hb _ _=>h.kept_still hb⟩
theorem CU{n₀ Bm:Nat}{U U4 U5:World}{v v':Value}{l l':List (Int × Int)}(hs:Yc U U4)(hn:n₀<=U.heap.size)(hm:n₀<=Bm)(kv:Boxed U4 Bm 120 v)(ho:OwG KT 126 U4 n₀ v l)
  (hf:Fr (fun k=>v.ownBlock=some k) U4 U5) (ho5:OwG KT 126 U5 n₀ v' l') :
  KeepsOthers U (U5.setCell ⟨Bm,0,none⟩ v')/\Kpp n₀ U (U5.setCell ⟨Bm,0,none⟩ v')/\Boxed (U5.setCell ⟨Bm,0,none⟩ v') Bm 120 v'/\OwG KT 126 (U5.setCell ⟨Bm,0,none⟩ v') n₀ v' l':=by
 have hne:∀k cs t m,U4.heap[k]?=some (.cells cs t m)->t≠126->¬v.ownBlock=some k:=fun k cs t m hk ht e=>by
  rcases ho.2 with⟨rfl,_⟩|⟨g,cap,cur,rfl,_,hgb,_⟩
  ·cases e
  ·simp only[Value.ownBlock,Option.some.injEq]at e;subst e;rw[hgb]at hk;cases hk;exact ht rfl
 have k5:Boxed U5 Bm 120 v:=hf.kept kv (hne _ _ _ _ kv (by decide));have hg:=grownBy_setCell' U5 Bm v';refine⟨⟨Nat.le_trans hs.size (Nat.le_trans hf.size hg.size),fun k o hk hc=>?_⟩,⟨(hs.below.mono hn).trans ?_,fun b cs t m hb h1 h2=>?_⟩,k5.set _,?_⟩
 ·have h4:=hs.kept_still hk;have h5:=hf.kept h4 (fun e=>by
   rcases ho.2 with⟨rfl,_⟩|⟨g,cap,cur,rfl,_,hgb,_⟩
   ·cases e
   ·simp only[Value.ownBlock,Option.some.injEq]at e;subst e;rw[hgb]at h4;cases h4;cases hc)
  refine(hg.block k (Array.getElem?_eq_some_iff.1 h5).1 (fun e=>?_)).trans h5;cases e;rw[show U5.heap[Bm]?=_ from k5]at h5;cases h5;cases hc
 ·refine(Fr.below hf (fun k e=>(ho.block e).1) (Nat.le_trans hn hs.size)).trans ?_;exact(Below.refl n₀ U5).setCell (p:=⟨Bm,0,none⟩) hm _
 ·have h4:=hs.kept_still hb;have h5:=hf.kept h4 (hne _ _ _ _ h4 h2);refine(hg.block b (Array.getElem?_eq_some_iff.1 h5).1 (fun e=>?_)).trans h5;cases e;rw[show U5.heap[Bm]?=_ from k5]at h5;cases h5;exact absurd rfl h1
 ·exact World.ownsRow.kept ho5 hg (.inr fun e=>k5.not_row (by decide) ho5 e.symm)
theorem CW{n₀ Bm:Nat}{U4 U5:World}{v:Value}{l:List (Int × Int)}(kv:Boxed U4 Bm 120 v)(ho:OwG KT 126 U4 n₀ v l)(hf:Fr (fun k=>v.ownBlock=some k) U4 U5):Boxed U5 Bm 120 v:=
 hf.kept kv (fun e=>kv.not_row (by decide) ho e.symm)
theorem CX(L:List Mv)(ao:Option Addr)(n cap:Nat)(w:World)(hr:RdG KM w ao n L)(ht:Yt L=true):CallsIn Fence.wide 0 Tryz.prog 174 #[.slice ao n cap] w fun e w'=>∃v,e=.returned (.tuple #[v,.int .i64 0])/\OwG KT 126 w' w.heap.size v (YO L L.length)/\Yc w w':=by
 have HL:=hid hr.1;have HR:=hid (T8 hr);have hn6:n<=6:=by have:=(togB_iff.1 ht).1;have:=hr.1;omega
 have A0:=sA w (.cells #[.slice ao n cap] 28);have H:=hid (Jd L ao n cap _ (hr.sT A0));have HA0:=hid A0;have b00:=Boxed.new w 28 (.slice ao n cap);have c00:=b00.cell;rw[ht]at H;clear hr ht A0;refine callsIn_of_wp_marks Tryz.func174 rfl trivial ?_ rfl;simp only[Tryz.ntmps174,List.size_toArray,List.length_cons,List.length_nil,Nat.reduceAdd,Nat.reduceSub,Array.replicate_succ,Array.replicate_zero,List.push_toArray,List.append_toArray,List.nil_append,List.cons_append];gi_wp2_with fail
 refine⟨trivial,rfl,(callsIn_wide.2 H.o).mono ?_⟩;rintro e w1 ⟨rfl,h1⟩;have HS1:=hid (HA0.o.trans h1);have b0:=ZI b00 h1;have c0:=b0.cell;have c01:=(b0.alloc (.cells #[.slice none 0 0] 120)).cell;clear h1 H HA0 b00 c00;gi_wp2_with fail
 refine⟨trivial,rfl,(callsIn_wide.2 (CP ao n cap _)).mono ?_⟩;rintro e w' ⟨rfl,rfl⟩;gi_wp2_with fail
 have bM:=(Boxed.new w1 120 (.slice none 0 0)).alloc (.cells #[.slice ao n cap] 28);have bP:=Boxed.new (w1.alloc (.cells #[.slice none 0 0] 120)) 28 (.slice ao n cap);have bL:=(b0.alloc (.cells #[.slice none 0 0] 120)).alloc (.cells #[.slice ao n cap] 28);simp only[World.size_alloc]at bP;have hS0:Yc w ((w1.alloc (.cells #[.slice none 0 0] 120)).alloc (.cells #[.slice ao n cap] 28)):=Fr.alloc (Fr.alloc HS1.o _) _;have hsz:((w1.alloc (.cells #[.slice none 0 0] 120)).alloc (.cells #[.slice ao n cap] 28)).heap.size=w1.heap.size+2:=by simp
 have hz1:w.heap.size<=w1.heap.size:=HS1.o.size;obtain⟨V,eV⟩:∃V,(w1.alloc (.cells #[.slice none 0 0] 120)).alloc (.cells #[.slice ao n cap] 28)=V:=⟨_,rfl⟩;rw[eV]at bM bP bL hS0 hsz⊢;clear eV b0 c0 c01 HS1;have hB0:Below w.heap.size w V:=hS0.below;refine CC rfl (enters_of Tryz.func288 (by kernel_rfl) rfl) (CR L ao n cap (w1.heap.size+1) w.heap.size V (by omega) bP (HR.o.below hB0)) CO (CT (by omega)) (Below.refl _ _) (fun _=>rfl)
  (fun pre U=>((∃v,Boxed U w1.heap.size 120 v/\U.ownsRow w.heap.size 126 KT.k v (met L pre).length (KT.row (met L pre))/\True)/\Boxed U w.heap.size 28 (.slice ao n cap))/\Below w.heap.size w U)
  (OwnFrom.and (OwnFrom.and (Own.from (holdsRow_own w.heap.size w1.heap.size 120 126 KT.k (fun pre=>(met L pre).length) (fun pre=>KT.row (met L pre)) (fun _ _=>True)) _) (Own.from (boxed_own _ _ _) _)) (ownFrom_below (Nat.le_refl _) (by omega)))
  ⟨⟨⟨_,bM,OwG.nil (K:=KT) (e:=126) _ _,trivial⟩,bL⟩,hB0⟩
  (fun x=>{ tmps:=#[.slice ao n cap,.pointer (some ⟨w.heap.size,0,none⟩),.slice none 0 0,.int .i64 0,.pointer (some ⟨w1.heap.size,0,none⟩),.int .i64 (x.1.1:Int),.int .i64 (x.2.1:Int),.slice ao n cap,.bool true,.bool false,.slice ao n cap,.func (.func 288) #[] #[.pointer (some ⟨w1.heap.size+1,0,none⟩)],.int .i64 (x.1.1:Int),.int .i64 (x.2.1:Int),undef,undef,undef,undef,undef,undef,undef,undef,undef,undef,undef,undef,undef,undef,undef,undef,undef,undef],defers:=[] }) ?assign ?body ?done
 case assign =>
  intro l x U K hK;gi_wp2_with fail
  exact hK
 case body =>
  rintro l pre x U ⟨⟨⟨v,kv,ho,_⟩,k0⟩,hB⟩ hlen;have hxn:x.1.1<n:=by have:=HL.o;have:=x.1.2;omega
  have hyn:x.2.1<n:=by have:=HL.o;have:=x.2.2;omega
  have hx1:(x.1.1:Int)<(n:Int):=by omega
  have hy1:(x.2.1:Int)<(n:Int):=by omega
  have HMet:=hid (RL L pre x.1 x.2);have HLn:Hid ((met L pre).length<=100000):=hid (by
   have h1:=RM L pre;have h2:=NV (L:=L) L.length;have h3:(ipl L L.length).length*(ipl L L.length).length<=6*6:=Nat.mul_le_mul (by have:=HL.o;omega) (by have:=HL.o;omega);omega)
  have HRr:=hid (HR.o.below hB).here;obtain⟨B,o,rfl⟩:=HRr.o.at (by omega);obtain⟨c0,c1,c2,c3,c4,c5,c6,c7,c8,c9,c10,c11,c12⟩:=rdM HRr.o hxn;obtain⟨d0,d1,d2,d3,d4,d5,d6,d7,d8,d9,d10,d11,d12⟩:=rdM HRr.o hyn;have HB1:=hid (fun w=>Qw (mm L x.1.1) w);have HB2:=hid (fun w=>Qw (mm L x.2.1) w);obtain⟨X,eX⟩:∃z,mm L x.1.1=z:=⟨_,rfl⟩;obtain⟨Y,eY⟩:∃z,mm L x.2.1=z:=⟨_,rfl⟩;rw[eX]at c0 c1 c2 c3 c4 c5 c6 c7 c8 c9 c10 c11 c12 HB1 HMet;rw[eY]at d0 d1 d2 d3 d4 d5 d6 d7 d8 d9 d10 d11 d12 HB2 HMet;clear eX eY;have HV:=hid (fun w=>GH (Ye X.ax 1280) (Ye X.ay 1280) (Yd X.ax 1280) (Yd X.ay 1280) (Ye Y.ax 1280) (Ye Y.ay 1280) (Yd Y.ax 1280) (Yd Y.ay 1280) w);obtain⟨b3,eb3⟩:∃b,ov X Y.ax Y.ay 1280=b:=⟨_,rfl⟩;unfold ov at eb3;rw[show ov X Y.ax Y.ay 1280=b3 from eb3]at HMet;rw[eb3]at HV;clear eb3;obtain⟨x1,e1⟩:∃z,Ye X.ax 1280=z:=⟨_,rfl⟩;obtain⟨x2,e2⟩:∃z,Ye X.ay 1280=z:=⟨_,rfl⟩;obtain⟨x3,e3⟩:∃z,Yd X.ax 1280=z:=⟨_,rfl⟩;obtain⟨x4,e4⟩:∃z,Yd X.ay 1280=z:=⟨_,rfl⟩;rw[e1,e2,e3,e4]at HB1 HV;clear e1 e2 e3 e4;obtain⟨y1,e1⟩:∃z,Ye Y.ax 1280=z:=⟨_,rfl⟩;obtain⟨y2,e2⟩:∃z,Ye Y.ay 1280=z:=⟨_,rfl⟩;obtain⟨y3,e3⟩:∃z,Yd Y.ax 1280=z:=⟨_,rfl⟩;obtain⟨y4,e4⟩:∃z,Yd Y.ay 1280=z:=⟨_,rfl⟩;rw[e1,e2,e3,e4]at HB2 HV;clear e1 e2 e3 e4;have g0:=kC c0;have g1:=kC c1;have g2:=kC c2;have g3:=kC c3;have g4:=kC c4;have g5:=kC c5;have g6:=kC c6;have g7:=kC c7;have g8:=kC c8;have g9:=kC c9;have g10:=kC c10;have g11:=kC c11;have g12:=kC c12;have j0:=kC d0;have j1:=kC d1;have j2:=kC d2;have j3:=kC d3;have j4:=kC d4;have j5:=kC d5;have j6:=kC d6;have j7:=kC d7;have j8:=kC d8;have j9:=kC d9;have j10:=kC d10;have j11:=kC d11;have j12:=kC d12;have gz:=kC k0.cell;have hne:=Aft.here U;have HU:=hid hB;have HO:=hid (show OwG KT 126 U w.heap.size v (met L pre)from ho);have HKV:=hid kv;have HK0:=hid k0;clear c0 c1 c2 c3 c4 c5 c6 c7 c8 c9 c10 c11 c12 d0 d1 d2 d3 d4 d5 d6 d7 d8 d9 d10 d11 d12 HRr hB ho kv k0;gi_wp2_with fail
  refine C8 (fun⟨_,_,h⟩=>(by cases h.1)) (by kernel_rfl) (by kernel_rfl) (by kernel_rfl) ?_;repeat(go_big_quiet_step ((first|(go_at_call 234;with_reducible exact Calls.cl (HB1.o _))|(go_at_call 234;with_reducible exact Calls.cl (HB2.o _))|(go_at_call 233;with_reducible exact Calls.cl (HV.o _)))))
  refine wpQuiet_nil ?_;intro U3 h3;have hz:w.heap.size<=U.heap.size:=HU.o.size;have HS3:=hid h3;have kv3:=ZI HKV.o h3;have HK03:=hid (ZI HK0.o h3);have HO3:=hid (HO.o.sT h3);have HB3:=hid (HU.o.trans (h3.below.mono hz));obtain⟨ao2,cap2,rfl,_⟩:=HO.o.slice;have c3:=kv3.cell;have f3:=kv3.frozen;clear h3 hne gz g0 g1 g2 g3 g4 g5 g6 g7 g8 g9 g10 g11 g12 j0 j1 j2 j3 j4 j5 j6 j7 j8 j9 j10 j11 j12 HB1 HB2 HV HKV HO;obtain⟨m2,em2⟩:∃m,(met L pre).length=m:=⟨_,rfl⟩;rw[em2]at kv3 c3 HO3;clear em2;cases b3 with
  | false =>
   have HK:Hid (met L (pre ++ [x])=met L pre):=hid (by rw[show x=(x.1,x.2)from rfl,HMet.o];simp);have HKV3:=hid kv3;clear HMet HLn kv3;gi_wp2_with fail
   exact⟨HS3.o.others.from _,HS3.o.kpp hz,⟨⟨_,HKV3.o,by rw[HK.o];exact HO3.o⟩,HK03.o⟩,HB3.o⟩
  | true =>
   have HK:Hid (met L (pre ++ [x])=met L pre ++ [((x.1.1:Int),(x.2.1:Int))]):=hid (by rw[show x=(x.1,x.2)from rfl,HMet.o];simp);have A4:=sA U3 (.cells #[.int .i64 (x.1.1:Int),.int .i64 (x.2.1:Int)] 126);have HS4:=hid (HS3.o.trans A4);have HO4:=hid (HO3.o.sT A4);have HX4:Hid ((U3.alloc (.cells #[.int .i64 (x.1.1:Int),.int .i64 (x.2.1:Int)] 126)).heap[U3.heap.size]?=some (.cells #[.int .i64 (x.1.1:Int),.int .i64 (x.2.1:Int)] 126 (0,0))):=hid (heap_alloc_new U3 _);have HB4:=hid (show w.heap.size<=(U3.alloc (.cells #[.int .i64 (x.1.1:Int),.int .i64 (x.2.1:Int)] 126)).heap.size by rw[size_alloc];have:=HS3.o.size;omega);have HKV4:=hid (ZI kv3 A4);have HK04:=hid (ZI HK03.o A4);have HW4:=hid (HB3.o.trans (A4.below.mono (by have:=HS3.o.size;omega)));clear HMet A4 kv3 HK03 HB3 HS3;gi_wp2_with (gi_at_builtin;refine DZ ?hq l 0 _ _ _ ?hd ?hl)
   case hq =>
    rintro⟨_,_,h⟩;cases h.1
   case hd =>
    intro o ho c hc;simp at ho;rcases ho with rfl|rfl<;>cases hc
   at_builtin;refine US _ rfl _ _ rfl w.heap.size U3.heap.size _ (met L pre) (x.1.1:Int) (x.2.1:Int) rfl rfl HO4.o HX4.o HLn.o HB4.o ?_;intro v' w' ho' hf';have k5:Boxed w' w1.heap.size 120 (.slice ao2 m2 cap2):=CW HKV4.o HO4.o hf';have HST:=hid (CU HS4.o hz (by omega) HKV4.o HO4.o hf' ho');obtain⟨g',cap',rfl,_,_⟩:=ho'.head (by simp);have c5:=k5.cell;have f5:=k5.frozen;clear hf' ho' k5 HO4 HX4 HB4;have HLE:Hid ((met L pre ++ [((x.1.1:Int),(x.2.1:Int))]).length=(met L pre).length+1):=hid (by simp);go_wp2_with fail;rw[HLE.o]at HST;obtain⟨q1,q2,q3,q4⟩:=HST.o;exact⟨q1.from _,q2,⟨⟨_,q3,by rw[HK.o];exact q4⟩,QN q2 HK0.o (by decide) (by decide)⟩,HU.o.trans q2.1⟩
 case done =>
  rintro D U hD ⟨⟨⟨v,kv,ho,_⟩,k0⟩,hB⟩ hK;have ho1:OwG KT 126 U w.heap.size v (met L (Ygp.prs (ipl L L.length) (ipl L L.length))):=ho;rw[Ff L L.length (Nat.le_refl _)]at ho1;obtain⟨ao2,cap2,rfl,_⟩:=ho1.slice;have HO:=hid ho1;have HB:=hid hB;have c:=kv.cell;clear ho ho1 hB kv k0;gi_wp2_with fail
  refine⟨by simp,.inl ⟨_,_,rfl,run_takeDeferred hK,?_⟩⟩;exact⟨_,results_tmp2 rfl _ _ _,_,rfl,ownsRow_putObj HO.o _ hK rfl,Kq (HB.o.trans (belowK_b (w:=w) (Nat.le_refl _) U D _ _ (by omega) hK rfl rfl))⟩
theorem CY(L:List Mv)(ao:Option Addr)(n cap:Nat)(w:World)(hr:RdG KM w ao n L):Calls Tryz.prog 174 #[.slice ao n cap] w fun e w'=>∃v,e=.returned (.tuple #[v,.int .i64 (Zp (Yt L))])/\OwG KT 126 w' w.heap.size v (bod L)/\Yc w w':=by
 cases ht:Yt L with
 | true =>
  have e:bod L=YO L L.length:=by unfold bod;rw[ht];rfl
  rw[e];exact callsIn_wide.1 (CX L ao n cap w hr ht)
 | false =>
  have HE:Hid (bod L=[]):=hid (by unfold bod;rw[ht];rfl);have A0:=sA w (.cells #[.slice ao n cap] 28);have H:=hid (Jd L ao n cap _ (hr.sT A0));have HA0:=hid A0;have c00:=(Boxed.new w 28 (.slice ao n cap)).cell;rw[ht]at H;clear ht hr A0;go_enter Tryz.func174,Tryz.ntmps174;go_wp2_with fail;refine H.o.mono ?_;rintro e w1 ⟨rfl,h1⟩;have HS1:=hid (HA0.o.trans h1);clear h1 H;go_wp2_with fail;go_ret2
  exact⟨_,rfl,by rw[HE.o];exact OwG.nil _ _,HS1.o⟩
end Go.Proofs.YtcgmohldcokccaaGreatDoor
