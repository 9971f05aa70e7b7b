import Derived.Test.YtcgmohldcokccaaGreatDoorXW36
import Derived.Test.YtcgmohldcokccaaGreatDoorXW35
set_option linter.unusedVariables false
set_option maxHeartbeats 16000000
namespace Go.Proofs.YtcgmohldcokccaaGreatDoor
open Go.RowKit
open Pu Gp Ap Vp Np Za Ka Ja Ea Ha Hg
set_option maxRecDepth 100000
structure Ph5 (x:World) (F:Cf) (B:Nat) (f:Int) (xo:Option Addr) (n xcp:Nat) (G0 G1 G2 G3 G4 G5:Gm):Prop where
 c1:∀(g:Nat) (u:World),Yc x u->B<=u.heap.size->GmM B u g F f G0->Calls Tryz.prog 31 #[.pointer (some ⟨g,0,none⟩),.slice xo n xcp] u fun e w'=>(∃v,e=.returned v)/\GmM B w' g F f G1/\FrT B [83,59,67,69,71,47] u w'
 c2:∀(g:Nat) (u:World),B<=u.heap.size->GmM B u g F f G1->Calls Tryz.prog 32 #[.pointer (some ⟨g,0,none⟩)] u fun e w'=>(∃v,e=.returned v)/\GmM B w' g F f G2/\FrT B [83,59,67,69,71,47] u w'
 c3:∀(g:Nat) (u:World),B<=u.heap.size->GmM B u g F f G2->Calls Tryz.prog 33 #[.pointer (some ⟨g,0,none⟩)] u fun e w'=>(∃v,e=.returned v)/\GmM B w' g F f G3/\FrT B [83,59,67,69,71,47] u w'
 c4:∀(g:Nat) (u:World),B<=u.heap.size->GmM B u g F f G3->Calls Tryz.prog 34 #[.pointer (some ⟨g,0,none⟩)] u fun e w'=>(∃v,e=.returned v)/\GmM B w' g F f G4/\FrT B [83,59,67,69,71,47] u w'
 c5:∀(g:Nat) (u:World),B<=u.heap.size->GmM B u g F f G4->Calls Tryz.prog 35 #[.pointer (some ⟨g,0,none⟩)] u fun e w'=>(∃v,e=.returned v)/\GmM B w' g F f G5/\FrT B [83,59,67,69,71,47] u w'
theorem Ya0(E:Env)(g:Gm)(h:g.w.hs.length<=48):(X7 E g).ns.length<=g.ns.length+96:=by
 have h1:=(Je (Yq E g.w.hs) (sho g.w.ms (Yq E g.w.hs)) g).2.2;have h2:=sho_len g.w.ms (Yq E g.w.hs);have h3:=Qs E g.w.hs;show(YB (Yq E g.w.hs) (sho g.w.ms (Yq E g.w.hs)) g).ns.length<=_;omega
theorem Ya1(E:Env)(f:Int)(g:Gm):(Xk E f g).ns.length<=g.ns.length+9:=by
 have h1:=(take_len g.w.ks (pic g.w.ms g.w.ks E.sp) g).2.2;have h2:(pic g.w.ms g.w.ks E.sp).length<=8:=KO;unfold Xk;simp only;split
 ·simp only[List.length_append,List.length_cons,List.length_nil];omega
 ·show(YC g.w.ks (pic g.w.ms g.w.ks E.sp) g).ns.length<=_;omega
theorem Ya2(x:World)(F:Cf)(E:Env)(D:D13 x F E)(B:Nat)(W:Wd)(N:Nat)(l:List Cm)(xo:Option Addr)(n xcp:Nat)(hr:RdG KX x xo n l)(hxB:x.heap.size<=B)(hN:N<=6)(hst:N<=E.st.length)(hs16:E.sp.length<=16)(hG:Ha.Good N E W)(hl:∀y∈l,Rgt N y)(h47:(n+300)*24<=140737488355328) :
  ∃G1 G2 G3 G4 G5:Gm,Ph5 x F B (W.fr+1) xo n xcp ⟨W,[]⟩ G1 G2 G3 G4 G5/\frame E W l=⟨{ G5.w with fr:=W.fr+1 },G5.ns⟩:=by
 have hln:=hr.1;have q1:Ha.Good N E (YH l ⟨W,[]⟩).w:=JH hN l _ hG hl;have a1:(YH l ⟨W,[]⟩).ns.length<=n:=by
  have h:(YH l ⟨W,[]⟩).ns.length<=([]:List Nn).length+l.length:=Ds l ⟨W,[]⟩;rw[hln,List.length_nil,Nat.zero_add]at h;exact h
 obtain⟨G1,e1⟩:∃G1,YH l ⟨W,[]⟩=G1:=⟨_,rfl⟩;rw[e1]at q1 a1;have q2:Ha.Good N E (YR (Ja.bod (Zc E G1).w.ms) (Zc E G1)).w:=Fq (GK q1);have a2:(YR (Ja.bod (Zc E G1).w.ms) (Zc E G1)).ns.length<=n+36:=by
  have h:=Fs (Zc E G1);have h2:(Zc E G1).ns.length=G1.ns.length:=rfl;omega
 obtain⟨G2,e2⟩:∃G2,YR (Ja.bod (Zc E G1).w.ms) (Zc E G1)=G2:=⟨_,rfl⟩;rw[e2]at q2 a2;have q3:Ha.Good N E (X7 E G2).w:=GM q2;have q4:Ha.Good N E (Vg E G2).w:=Fo q2;have h48:=(flo_pw.1 q2.2.1).1;have a3:(X7 E G2).ns.length<=n+132:=by have:=Ya0 E G2 h48;omega
 obtain⟨G3,e3⟩:∃G3,X7 E G2=G3:=⟨_,rfl⟩;rw[e3]at q3 a3;have q5:Ha.Good N E (Xk E (W.fr+1) G3).w:=GN q3;have a4:(Xk E (W.fr+1) G3).ns.length<=n+141:=by have:=Ya1 E (W.fr+1) G3;omega
 obtain⟨G4,e4⟩:∃G4,Xk E (W.fr+1) G3=G4:=⟨_,rfl⟩;rw[e4]at q5 a4;refine⟨G1,G2,G3,G4,XK E G4,⟨?_,?_,?_,?_,?_⟩,?_⟩
 ·intro g u hu hB h;refine(Yak x F E D B g _ l xo n xcp N hr ?_ ⟨W,[]⟩ u hu hxB hB h hG.1.1 ?_ ?_).mono fun e w' ⟨h1,h2,h3⟩=>⟨h1,by rw[<- e1];exact h2,h3.mono (by simp)⟩
  ·intro i hi;have:=hl (cm l i) (by rw[JL (by omega)];exact List.getElem_mem _);exact⟨this.1,this.2.1⟩
  ·have:=hG.2.2.2.2.2.1;show 0<=W.nx;omega
  ·exact few (by simp only[List.length_nil];omega) h47
 ·intro g u hB h;exact(Yat x F E D B g _ G1 u hB h (by rw[q1.1.1];exact hN) (few (by omega) h47)).mono fun e w' ⟨h1,h2,h3⟩=>⟨h1,by rw[<- e2];exact h2,h3.mono (by simp)⟩
 ·intro g u hB h;refine(Yao x F E D B g _ G2 N u hB h q2.1.1 q2.1.2.2.1 hN h48 ?_ (few (by omega) h47)).mono fun e w' ⟨h1,h2,h3⟩=>⟨h1,by rw[<- e3];exact h2,h3.mono (by simp)⟩;intro i hi;have hm:ss (Yq E G2.w.hs) i∈Yq E G2.w.hs:=by rw[ZZ hi];exact List.getElem_mem _
  have h1:=(q4.2.2.1 _ hm).1;have h2:0<=(ss (Yq E G2.w.hs) i).ow:=((flo_pw.1 q4.2.1).2.1 _ hm).2.1.1;exact⟨(ss (Yq E G2.w.hs) i).ow.toNat,by omega,by omega⟩
 ·intro g u hB h;exact(Yar x F E D B g _ G3 N u hB h q3.1.1 q3.1.2.2.1 hN (mayK_pw.1 q3.2.2.2.1).2.1 hs16 (by have:=q3.2.2.2.2.2.1;omega) (few (by omega) h47)).mono fun e w' ⟨h1,h2,h3⟩=>⟨h1,by rw[<- e4];exact h2,h3.mono (by simp)⟩
 ·intro g u hB h;exact(Yas x F E D B g _ G4 u hB h (by rw[q5.1.1];exact hst) (by rw[q5.1.1];exact hN) (few (by omega) h47)).mono fun e w' ⟨h1,h2,h3⟩=>⟨h1,h2,h3.mono (by simp)⟩
 ·unfold frame;simp only[e1,e2,e3,e4]
end Go.Proofs.YtcgmohldcokccaaGreatDoor
namespace Go.Proofs.YtcgmohldcokccaaGreatDoor
open Go.RowKit
open Pu Gp Ap Vp Np Za Ka Ja Ea Ha Hg Hi
set_option maxRecDepth 100000
attribute [local go_sem] zr YD
theorem Ya3{R:Nat->Option Addr->Nat->Option Addr->Nat->Option Addr->Nat->Option Addr->Nat->World->Prop}{K:Act->World->Prop}{G:Prop}(h:∃A:Nat->Option Addr->Nat->Option Addr->Nat->Option Addr->Nat->Option Addr->Nat->Act,((∀k a a' b b' c c' d d' u,R k a a' b b' c c' d d' u->K (A k a a' b b' c c' d d') u)->G)/\∀k a a' b b' c c' d d' u,R k a a' b b' c c' d d' u->K (A k a a' b b' c c' d d') u):G:=by
 obtain⟨_,h1,h2⟩:=h;exact h1 h2
theorem Ya4(N : Nat)(q C R : Int)(s : ByteArray)(lo : Option Addr)(ln lc : Nat)(E : Env)(l : List Int)(w : World)(v0 : Int)(A : A13 w ⟨(N : Int), q, C, R, s, .slice lo ln lc⟩ v0 E.st)(D : D13 w ⟨(N : Int), q, C, R, s, .slice lo ln lc⟩ E)(hk : ∀(x : Cm) (u : World), Yc w u -> Calls Tryz.prog 117 #[od x.v x.a x.b x.c] u fun e w' => e = .returned (.int .i64 (YA x.v x.a x.b x.c)) /\ Yc u w')(hr : RdI w lo ln lc l)(hc : Zt (N : Int) v0 E.st.length l)(hs16 : E.sp.length <= 16)(W : Wd)(v : Value)(hv : RdW w v W)(xo : Option Addr)(n xcp : Nat)(cs : List Cm)(hx : RdG KX w xo n cs)(h47 : (n + 300) * 24 <= 140737488355328) :
    Calls Tryz.prog 10 #[.agg #[.int .i64 (N:Int),.int .u64 q,.int .i64 C,.int .i64 R,.string s,.slice lo ln lc],v,.slice xo n xcp] w fun e w'=>StQ w w' E W cs (stE (N:Int) v0 E l W cs) e:=by
  have HV:=hid hv;have HN:=hid (show N<=6/\N<=E.st.length by have:=hc.2.1;have:=hc.2.2.2.1;omega);obtain⟨r,hr'⟩:=exB (Z8 (N:Int) (W.fr+1) cs);have HE:Hid (stE (N:Int) v0 E l W cs=open Classical in if ¬Zz (N:Int) E W then 131 else if(W.fr == 1099511627776)=true then 133 else if r=false then 132 else 0):=hid (by
    unfold stE;rw[if_neg (not_not_intro hc)]
    simp only[beq_iff_eq];congr 3
    rw[<- hr',Bool.not_eq_true])
  have HC:=hid (fun u (hu:Yc w u)=>Yay N q C R s lo ln lc E l u v0 (A.sT hu) (fun u=>D.sps u) (hr.sT hu) hc W _ (hv.sT hu));have HR:Hid (∀u,Yc w u->Ya 29 #[.agg #[.int .i64 (N:Int),.int .u64 q,.int .i64 C,.int .i64 R,.string s,.slice lo ln lc],.int .i64 (W.fr+1),.slice xo n xcp] u (.bool r)):=hid (fun u hu=>(Rc ⟨(N:Int),q,C,R,s,.slice lo ln lc⟩ (W.fr+1) cs xo n xcp u (hx.sT hu) (fun x z hz=>hk x z (hu.trans hz))).mono fun e w' h=>by
    obtain⟨vb,rfl,⟨bb,rfl,hb⟩,h3⟩:=h;rw[show bb=r by rw[Bool.eq_iff_iff,hb,hr']];exact⟨rfl,h3⟩)
  have HD:=hid D;have HX:=hid hx;have H47:=hid h47;have H16:=hid hs16;obtain⟨a,b,c,d,rfl,-⟩:=hv;clear hr hc A D hx h47 hs16 hk;by_cases hF:Zz (N:Int) E W;rotate_left
  · rw[show stE (N:Int) v0 E l W cs=131 from by rw[HE.o,if_pos hF]]
    rw[KW hF]at HC;clear HR HE hr' hF HX HD;go_in;go_wp2_with (go_at_call 28;refine zc (HC.o _ zst) ?_;intro J n0)
    exact bodyPost_ret (Y7 zbk rfl rfl (by kernel_rfl) (by kernel_rfl)) rfl ⟨fun h=>absurd h (by decide),fun _=>⟨rfl,zst⟩⟩
  have HE1:Hid (stE (N:Int) v0 E l W cs=open Classical in if(W.fr == 1099511627776)=true then 133 else if r=false then 132 else 0):=hid (by rw[HE.o,if_neg (not_not_intro hF)]);have HFi:=hid hF;have hfr:=hF.2;rw[JK hF]at HC;clear hF;cases hm:W.fr == 1099511627776;rotate_left
  · rw[show stE (N:Int) v0 E l W cs=133 from by rw[HE1.o,if_pos hm]]
    clear HR HE HE1 hr' HX HD;go_in;go_wp2_with (go_at_call 28;refine zc (HC.o _ zst) ?_;intro J n0)
    exact bodyPost_ret (Y7 zbk rfl rfl (by kernel_rfl) (by kernel_rfl)) rfl ⟨fun h=>absurd h (by decide),fun _=>⟨rfl,zst⟩⟩
  have hlt : W.fr < 1099511627776:=by have : W.fr ≠ 1099511627776:=(by simpa using hm);omega
  cases r
  · rw[show stE (N:Int) v0 E l W cs=132 from by rw[HE1.o,if_neg (by simp[hm]),if_pos rfl]]
    clear HE HE1 hr' hlt HX HD;go_in;go_wp2_with (first|(go_at_call 28;refine zc (HC.o _ zst) ?_;intro J n0)|(go_at_call 29;refine zc (HR.o _ zst) ?_;intro J3 n3))
    exact bodyPost_ret (Y7 zbk rfl rfl (by kernel_rfl) (by kernel_rfl)) rfl ⟨fun h=>absurd h (by decide),fun _=>⟨rfl,zst⟩⟩
  have HO:=hid (hr'.1 rfl);rw[show stE (N:Int) v0 E l W cs=0 from by rw[HE1.o,if_neg (by simp[hm]),if_neg (by simp)]];clear HE HE1 hr';have hwr:IntKind.i64.wrap (W.fr+1)=W.fr+1:=by rw[IntKind.wrap_i64];omega
  go_in;go_upto_region 9 with(first|(go_at_call 28;refine zc (HC.o _ zst) ?_;intro J n0)|(go_at_call 29;refine zc (HR.o _ zst) ?_;intro J3 n3))
  rename_i K0 a0;apply gw;intro w3 e3
  have HS3:Hid (Yc w w3):=hid (by rw[<- e3];exact zst);have HZ3:Hid (Wdb w3 (w.heap.size+1+1) 0 0 (.slice none 0 0) (.slice none 0 0) (.slice none 0 0) (.slice none 0 0)):=hid (by rw[<- e3];exact zbk);have HP3:Hid (Cfb w3 w.heap.size ⟨(N:Int),q,C,R,s,.slice lo ln lc⟩):=hid (by rw[<- e3];exact zbk);have HW3:Hid (Wdb w3 (w.heap.size+1) W.fr W.nx a b c d):=hid (by rw[<- e3];exact zbk);clear e3 HC HR;have hG:Ha.Good N E W:=by have:=HFi.o.1;rw[Int.toNat_natCast]at this;exact this
  have HCp:=hid (fun u (hu:Yc w3 u)=>Yaz W _ u (HV.o.sT (HS3.o.trans hu)) ⟨by have:=hG.1.1;have:=HN.o.1;omega,by have:=hG.1.2.2.1;have:=HN.o.1;omega,by have:=(flo_pw.1 hG.2.1).1;omega,by have:=(mayK_pw.1 hG.2.2.2.1).2.1;omega⟩);obtain⟨B,eB⟩:∃b,w3.heap.size=b:=⟨_,rfl⟩;obtain⟨G1,G2,G3,G4,G5,hPh,hFrm⟩:=Ya2 w ⟨(N:Int),q,C,R,s,.slice lo ln lc⟩ E HD.o B W N cs xo n xcp HX.o (by rw[<- eB];exact HS3.o.size) HN.o.1 HN.o.2 H16.o hG (D4 HO.o) H47.o;have HPh:=hid hPh;have HFm:=hid hFrm;have HEB:=hid eB;have HB0:Hid (w.heap.size<=B):=hid (by rw[<- eB];exact HS3.o.size);have hB2:w.heap.size+1+1<B:=by
    have:=Yz HZ3.o;omega
  clear hG hPh hFrm eB;obtain⟨c0,c1,c2,c3,c4,c5,cf⟩:=HP3.o.cells;obtain⟨d0,d1,d2,d3,d4,d5,df⟩:=HW3.o.cells;refine Ya3 (K:=K0) (R:=fun k _ _ _ _ _ _ _ _ u=>GmM B u k ⟨(N:Int),q,C,R,s,.slice lo ln lc⟩ (W.fr+1) ⟨W,[]⟩/\Yc w3 u) ?_;apply Exists.intro;refine And.intro ?_ ?_
  · intro hk
    go_region_with (go_at_call 30;refine(HCp.o _ (by first|exact Fr.refl _ _|exact(Fr.refl _ w3).drew|exact(Fr.refl _ w3).drewN _)).mono ?_;rintro e w4 ⟨u4,rfl,⟨a,b,c,d,rfl,q1,q2,q3,q4⟩,h4⟩;obtain⟨ra,rac,rfl,_⟩:=q1.slice;obtain⟨rb,rbc,rfl,_⟩:=q2.slice;obtain⟨rc,rcc,rfl,_⟩:=q3.slice;obtain⟨rd,rdc,rfl,_⟩:=q4.slice;have g4:Yc w3 w4:=(by first|exact h4|exact Yc.trans ((Fr.refl _ w3).drew) h4|exact Yc.trans ((Fr.refl _ w3).drewN _) h4);have Q4:=hid (And.intro (q1.less (B':=w3.heap.size) (by simp)) (And.intro (q2.less (B':=w3.heap.size) (by simp)) (And.intro (q3.less (B':=w3.heap.size) (by simp)) (q4.less (B':=w3.heap.size) (by simp)))));have HG4:=hid g4;have HW4:=hid (HW3.o.sT g4);have HP4:=hid (HP3.o.sT g4);clear q1 q2 q3 q4 h4 g4;obtain⟨f0,f1,f2,f3,f4,f5,ff⟩:=HW4.o.cells;obtain⟨g0,g1,g2,g3,g4,g5,gf⟩:=HP4.o.cells)
    all_goals (
      have A5:=sA w4 (.cells (gmc ⟨(N:Int),q,C,R,s,.slice lo ln lc⟩ (W.fr+1) W.fr W.nx (.slice ra W.ms.length rac) (.slice rb W.cs.length rbc) (.slice rc W.hs.length rcc) (.slice rd W.ks.length rdc) (.slice none 0 0)) 83);have HR4:Hid (GmM B (w4.alloc (.cells (gmc ⟨(N:Int),q,C,R,s,.slice lo ln lc⟩ (W.fr+1) W.fr W.nx (.slice ra W.ms.length rac) (.slice rb W.cs.length rbc) (.slice rc W.hs.length rcc) (.slice rd W.ks.length rdc) (.slice none 0 0)) 83)) w4.heap.size ⟨(N:Int),q,C,R,s,.slice lo ln lc⟩ (W.fr+1) ⟨W,[]⟩/\Yc w3 (w4.alloc (.cells (gmc ⟨(N:Int),q,C,R,s,.slice lo ln lc⟩ (W.fr+1) W.fr W.nx (.slice ra W.ms.length rac) (.slice rb W.cs.length rbc) (.slice rc W.hs.length rcc) (.slice rd W.ks.length rdc) (.slice none 0 0)) 83))):=hid (by
        have hq:=Q4.o;rw[HEB.o]at hq;exact⟨⟨by rw[<- HEB.o];exact HG4.o.size,_,_,_,_,_,heap_alloc_new w4 _,hq.1.sT A5,hq.2.1.sT A5,hq.2.2.1.sT A5,hq.2.2.2.sT A5,OwG.nil _ _⟩,HG4.o.trans A5⟩)
      clear A5;obtain⟨gk,egk⟩:∃z,w4.heap.size=z:=⟨_,rfl⟩;rw[egk]at HR4;show K0 _ _;simp only[Act.put,List.setIfInBounds_toArray,egk];exact hk gk ra rac rb rbc rc rcc rd rdc _ HR4.o)
  intro gk ra rac rb rbc rc rcc rd rdc u0 ⟨hg0,h0⟩;have HG0:=hid hg0;have HF0:Hid (FrT B [83,59,67,69,71,47] u0 u0/\B<=u0.heap.size):=hid ⟨FrT.refl _ _ _,by rw[<- HEB.o];exact h0.size⟩;have HSu:=hid (HS3.o.trans h0);have HZ5:=hid (HZ3.o.sT h0);refine a0 _ _ ?_;clear hg0 h0 c0 c1 c2 c3 c4 c5 cf d0 d1 d2 d3 d4 d5 df HCp a0 HP3 HW3 HS3 HZ3 HV;have HC:=hid (HPh.o.c1 gk _ HSu.o HF0.o.2 HG0.o);go_wp2_with fail;refine HC.o.mono ?_;rintro e u1 ⟨⟨v1,rfl⟩,hg1,hf1⟩;have HG1:=hid hg1;have HF1:Hid (FrT B [83,59,67,69,71,47] u0 u1/\B<=u1.heap.size):=hid ⟨HF0.o.1.trans hf1,Nat.le_trans HF0.o.2 hf1.size⟩;clear hg1 hf1 HC;have HC:=hid (HPh.o.c2 gk _ HF1.o.2 HG1.o);go_wp2_with fail;refine HC.o.mono ?_;rintro e u2 ⟨⟨v2,rfl⟩,hg2,hf2⟩;have HG2:=hid hg2;have HF2:Hid (FrT B [83,59,67,69,71,47] u0 u2/\B<=u2.heap.size):=hid ⟨HF1.o.1.trans hf2,Nat.le_trans HF1.o.2 hf2.size⟩;clear hg2 hf2 HC;have HC:=hid (HPh.o.c3 gk _ HF2.o.2 HG2.o);go_wp2_with fail;refine HC.o.mono ?_;rintro e u3 ⟨⟨v3,rfl⟩,hg3,hf3⟩;have HG3:=hid hg3;have HF3:Hid (FrT B [83,59,67,69,71,47] u0 u3/\B<=u3.heap.size):=hid ⟨HF2.o.1.trans hf3,Nat.le_trans HF2.o.2 hf3.size⟩;clear hg3 hf3 HC;have HC:=hid (HPh.o.c4 gk _ HF3.o.2 HG3.o);go_wp2_with fail;refine HC.o.mono ?_;rintro e u4 ⟨⟨v4,rfl⟩,hg4,hf4⟩;have HG4:=hid hg4;have HF4:Hid (FrT B [83,59,67,69,71,47] u0 u4/\B<=u4.heap.size):=hid ⟨HF3.o.1.trans hf4,Nat.le_trans HF3.o.2 hf4.size⟩;clear hg4 hf4 HC;have HC:=hid (HPh.o.c5 gk _ HF4.o.2 HG4.o);go_wp2_with fail;refine HC.o.mono ?_;rintro e u5 ⟨⟨v5,rfl⟩,hg5,hf5⟩;have HG5:=hid hg5;have HF5:Hid (FrT B [83,59,67,69,71,47] u0 u5/\B<=u5.heap.size):=hid ⟨HF4.o.1.trans hf5,Nat.le_trans HF4.o.2 hf5.size⟩;clear hg5 hf5 HC;obtain⟨xa',xb',xc',xd',xe',hx⟩:=HG5.o.gx;obtain⟨ya',yc1,rfl,_⟩:=hx.o1.slice;obtain⟨yb',yc2,rfl,_⟩:=hx.o2.slice;obtain⟨yc',yc3,rfl,_⟩:=hx.o3.slice;obtain⟨yd',yc4,rfl,_⟩:=hx.o4.slice;obtain⟨ye',yc5,rfl,_⟩:=hx.o5.slice;have HX6:=hid (hx.setF (W.fr+1));have HS6:=hid (((HF5.o.1.trans ((hx.frT 6 (.int .i64 (W.fr+1))).mono (by simp)))).old HSu.o HB0.o);have HZ6:Hid (Wdb (u5.setCell ⟨gk,6,none⟩ (.int .i64 (W.fr+1))) (w.heap.size+1+1) 0 0 (.slice none 0 0) (.slice none 0 0) (.slice none 0 0) (.slice none 0 0)):=hid ((HF5.o.1.trans ((hx.frT 6 (.int .i64 (W.fr+1))).mono (by simp))).kept HZ5.o (by decide));obtain⟨W6,eW6⟩:∃X,(u5.setCell ⟨gk,6,none⟩ (.int .i64 (W.fr+1)))=X:=⟨_,rfl⟩;rw[eW6]at HX6 HS6 HZ6;obtain⟨c0,c1,c2,c3,c4,c5,c6,c7,c8,c9,c10,c11,c12,c13,cf⟩:=hx.k.cells;clear hx HG0 HG1 HG2 HG3 HG4 HG5 HF0 HF1 HF2 HF3 HF4 HF5 HZ5 HPh;obtain⟨m1,f1⟩:∃k,G5.w.ms.length=k:=⟨_,rfl⟩;obtain⟨m2,f2⟩:∃k,G5.w.cs.length=k:=⟨_,rfl⟩;obtain⟨m3,f3⟩:∃k,G5.w.hs.length=k:=⟨_,rfl⟩;obtain⟨m4,f4⟩:∃k,G5.w.ks.length=k:=⟨_,rfl⟩;obtain⟨m5,f5⟩:∃k,G5.ns.length=k:=⟨_,rfl⟩;obtain⟨nx',f7⟩:∃k,G5.w.nx=k:=⟨_,rfl⟩;have HN7:=hid f7;rw[f1,f2,f3,f4,f5]at HX6;clear f1 f2 f3 f4 f5 f7;have ng:gk≠w.heap.size+1+1:=by have:=HX6.o.hb;omega
  have ng':w.heap.size+1+1≠gk:=by have:=HX6.o.hb;omega
  go_upto_region 16 with fail;clear c0 c1 c2 c3 c4 c5 c6 c7 c8 c9 c10 c11 c12 c13 cf eW6;obtain⟨c0,c1,c2,c3,c4,c5,c6,c7,c8,c9,c10,c11,c12,c13,cf⟩:=HX6.o.k.cells;dsimp only at c0 c1 c2 c3 c4 c5 c6 c11;rw[HN7.o]at c11;obtain⟨z0,z1,z2,z3,z4,z5,zf⟩:=HZ6.o.cells;go_region
  go_wp2_with fail;obtain⟨f1,f2,f3⟩:=Fv HZ6.o HS6.o (by omega) (W.fr+1) nx' (.slice ya' m1 yc1) (.slice yb' m2 yc2) (.slice yc' m3 yc3) (.slice yd' m4 yc4);refine bodyPost_ret (Y7 f1 rfl rfl (by kernel_rfl) (by kernel_rfl)) rfl ⟨fun _=>⟨⟨_,_,rfl,?_,?_⟩,f2⟩,fun h=>absurd rfl h⟩
  · rw[HFm.o]
    exact⟨_,_,_,_,by simp only[HN7.o],f3 (HX6.o.o1.less HB0.o) (by decide),f3 (HX6.o.o2.less HB0.o) (by decide),f3 (HX6.o.o3.less HB0.o) (by decide),f3 (HX6.o.o4.less HB0.o) (by decide)⟩
  · rw[HFm.o]
    exact f3 (HX6.o.o5.less HB0.o) (by decide)
end Go.Proofs.YtcgmohldcokccaaGreatDoor
