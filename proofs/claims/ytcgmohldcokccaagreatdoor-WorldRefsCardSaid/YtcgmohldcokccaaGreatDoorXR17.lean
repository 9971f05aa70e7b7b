import Derived.Test.YtcgmohldcokccaaGreatDoorXR15
import Derived.Test.YtcgmohldcokccaaGreatDoorXR16
set_option linter.unusedVariables false
set_option maxHeartbeats 8000000
set_option maxRecDepth 100000
namespace Go.Proofs.YtcgmohldcokccaaGreatDoor
open Go.RowKit
open Pu Gp Ap Vp Np Za Ka Ja Ea Ha Hg Hi
def Pj(w w':World)(p q C R:Int)(s:ByteArray)(lg:Value)(st sp:List (Int × Int))(e:Ending):Prop:=
 Yc w w'/\(p<=(st.length:Int)->∃ao ac bo bc,OwG KT 57 w' w.heap.size (.slice ao st.length ac) st/\OwG KT 57 w' w.heap.size (.slice bo sp.length bc) sp/\e=.returned (.tuple #[.agg #[.int .i64 p,.int .u64 q,.int .i64 C,.int .i64 R,.string s,lg,.slice ao st.length ac,.slice bo sp.length bc],.int .i64 0])) /\
  (¬p<=(st.length:Int)->e=.returned (.tuple #[.agg #[.int .i64 0,.int .u64 0,.int .i64 0,.int .i64 0,.string ByteArray.empty,.slice none 0 0,.slice none 0 0,.slice none 0 0],.int .i64 130]))
theorem OwG.set8{α:Type}{K:Kd α}{e t:TypeId}{w:World}{B g:Nat}{v:Value}{L:List α}(h:OwG K e w B v L)(hg:Tyk w g t)(ht:e≠t)(v0 v1 v2 v3 v4 v5 v6 v7:Value):OwG K e ((((((((w.setCell ⟨g,0,none⟩ v0).setCell ⟨g,1,none⟩ v1).setCell ⟨g,2,none⟩ v2).setCell ⟨g,3,none⟩ v3).setCell ⟨g,4,none⟩ v4).setCell ⟨g,5,none⟩ v5).setCell ⟨g,6,none⟩ v6).setCell ⟨g,7,none⟩ v7) B v L:=
 ((h.set6 hg ht v0 v1 v2 v3 v4 v5).setO ((((((hg.set v0).set v1).set v2).set v3).set v4).set v5) ht v6).setO (((((((hg.set v0).set v1).set v2).set v3).set v4).set v5).set v6) ht v7
theorem F8(p q C R:Int)(s:ByteArray)(st sp:List (Int × Int))(l:List Int)(lo:Option Addr)(n cap:Nat)(w:World)(Q:Q13 w ⟨p,q,C,R,s,.slice lo n cap⟩ 0 st sp)(hr:RdI w lo n cap l)(h0:2<=p/\p<=6)(hl:Vh l) :
    Calls Tryz.prog 24 #[.agg #[.int .i64 p,.int .u64 q,.int .i64 C,.int .i64 R,.string s,.slice lo n cap]] w fun e w'=>Pj w w' p q C R s (.slice lo n cap) st sp e:=by
  have A0:=sA w (.cells (cfc ⟨p,q,C,R,s,.slice lo n cap⟩) 27);have A1:=sA (w.alloc (.cells (cfc ⟨p,q,C,R,s,.slice lo n cap⟩) 27)) (.cells #[.int .i64 0,.int .u64 0,.int .i64 0,.int .i64 0,.string ByteArray.empty,.slice none 0 0,.slice none 0 0,.slice none 0 0] 74);have p0:=(Xp w ⟨p,q,C,R,s,.slice lo n cap⟩).sT A1;have q0:=heap_alloc_new (w.alloc (.cells (cfc ⟨p,q,C,R,s,.slice lo n cap⟩) 27)) (.cells #[.int .i64 0,.int .u64 0,.int .i64 0,.int .i64 0,.string ByteArray.empty,.slice none 0 0,.slice none 0 0,.slice none 0 0] 74);rw[size_alloc]at q0;have HZa:=hid q0;have HSa:=hid (A0.trans A1);have HPa:=hid p0;have HM:=hid (fun u (hu:Yc w u)=>NF l lo n cap u (hr.sT hu));have HK:=hid (fun u (hu:Yc w u)=>Q.chk u hu);have HQs:=hid (fun u (hu:Yc w u)=>(Q.sts u hu).mono (fun e w' (h:∃a,e=.returned a/\OwG KT 57 w' u.heap.size a st/\Yc u w')=>(show ∃a,e=.returned a/\OwG KT 57 w' w.heap.size a st/\Yc u w' by obtain⟨a,h1,h2,h3⟩:=h;exact⟨a,h1,h2.less hu.size,h3⟩)));have HQp:=hid (fun u (hu:Yc w u)=>(Q.sps u hu).mono (fun e w' (h:∃a,e=.returned a/\OwG KT 57 w' u.heap.size a sp/\Yc u w')=>(show ∃a,e=.returned a/\OwG KT 57 w' w.heap.size a sp/\Yc u w' by obtain⟨a,h1,h2,h3⟩:=h;exact⟨a,h1,h2.less hu.size,h3⟩)));have HLg:=hid hl;obtain⟨c0,c1,c2,c3,c4,c5,cf⟩:=HPa.o.cells;clear Q hr A0 A1 p0 q0 hl;have HW:=hid (fun u=>Uk p 2 6 u);rw[decide_eq_true h0]at HW;clear h0;obtain⟨n1,en1⟩:∃k,st.length=k:=⟨_,rfl⟩;obtain⟨n2,en2⟩:∃k,sp.length=k:=⟨_,rfl⟩;have HN:=hid (And.intro en1 en2);clear en1 en2;go_enter Tryz.func24,Tryz.ntmps24;go_wp2_with fail;refine(HW.o _).mono ?_;rintro e w1 ⟨he,hw⟩;rw[he,hw];clear he hw w1;go_wp2_with fail;refine(HM.o _ HSa.o).mono ?_;rintro e w2 ⟨⟨b2,rfl,hb2⟩,h2⟩;obtain rfl:b2=true:=hb2.2 HLg.o;have HS2:=hid (HSa.o.trans h2);have HP2:=hid (HPa.o.sT h2);have HZ2:=hid (h2.kept_still HZa.o);clear c0 c1 c2 c3 c4 c5 cf h2 hb2;obtain⟨c0,c1,c2,c3,c4,c5,cf⟩:=HP2.o.cells;go_wp2_with fail;refine(HK.o _ HS2.o).mono ?_;rintro e w3 ⟨rfl,h3⟩;have HS3:=hid (HS2.o.trans h3);have HP3:=hid (HP2.o.sT h3);have HZ3:=hid (h3.kept_still HZ2.o);clear c0 c1 c2 c3 c4 c5 cf h3 HP2 HS2 HZ2;obtain⟨c0,c1,c2,c3,c4,c5,cf⟩:=HP3.o.cells;go_upto_region 3 with fail;have nn:w.heap.size+1<w3.heap.size:=Yz HZ3.o;have HNN:=hid nn;have k1:w3.heap.size≠w.heap.size:=by omega
  have k2:w3.heap.size≠w.heap.size+1:=by omega
  clear nn;go_cut [4] (fun v4 wx=>∃g ao ac bo bc,v4=.pointer (some ⟨g,0,none⟩)/\wx.heap[g]?=some (.cells #[.int .i64 p,.int .u64 q,.int .i64 C,.int .i64 R,.string s,.slice lo n cap,.slice ao n1 ac,.slice bo n2 bc] 74 (0,0))/\w3.heap.size<=g/\OwG KT 57 wx w.heap.size (.slice ao n1 ac) st/\OwG KT 57 wx w.heap.size (.slice bo n2 bc) sp/\Yc w3 wx)
  case first =>
    go_region_held3 (fun w'=>w'.cell? ⟨w.heap.size,0,none⟩=some (.int .i64 p)/\w'.cell? ⟨w.heap.size,1,none⟩=some (.int .u64 q)/\w'.cell? ⟨w.heap.size,2,none⟩=some (.int .i64 C)/\w'.cell? ⟨w.heap.size,3,none⟩=some (.int .i64 R)/\w'.cell? ⟨w.heap.size,4,none⟩=some (.string s)/\w'.cell? ⟨w.heap.size,5,none⟩=some (.slice lo n cap)) (go_keep)
      (first
        | (go_at_call 52
           refine(HQs.o _ (by repeat(first|exact HS3.o|refine Fr.drew ?_|refine Fr.alloc ?_ _))).mono ?_;rintro e x1 ⟨v1,rfl,o1,g1⟩;obtain⟨ao,ac,hv,_⟩:=o1.slice;rw[HN.o.1]at hv;subst hv;have HX1:Hid (Yc w3 x1):=hid (by
             refine Yc.trans ?_ g1;repeat(first|exact Fr.refl _ _|refine Fr.drew ?_|refine Fr.alloc ?_ _))
           obtain⟨d0,d1,d2,d3,d4,d5,df⟩:=(HP3.o.sT HX1.o).cells;have HO1:=hid o1;have m1:x1.heap.size≠w.heap.size:=by have:=HNN.o;have:=HX1.o.size;omega
           try (have z1:x1.heap[w3.heap.size]?=some (.cells #[.int .i64 0,.int .u64 0,.int .i64 0,.int .i64 0,.string ByteArray.empty,.slice none 0 0,.slice none 0 0,.slice none 0 0] 74 (0,0)):=Fr.kept_still (Yc.undrew g1) (heap_alloc_new w3 _);obtain⟨u0,u1,u2,u3,u4,u5,u6,u7,uf⟩:=Uq z1)
           clear o1)
        | (go_at_call 53
           refine(HQp.o _ (by repeat(first|exact Yc.trans HS3.o HX1.o|refine Fr.drew ?_|refine Fr.alloc ?_ _))).mono ?_;rintro e x2 ⟨v2,rfl,o2,g2⟩;obtain⟨bo,bc,hv,_⟩:=o2.slice;rw[HN.o.2]at hv;subst hv;have HX2:Hid (Yc x1 x2):=hid (by
             refine Yc.trans ?_ g2;repeat(first|exact Fr.refl _ _|refine Fr.drew ?_|refine Fr.alloc ?_ _))
           have HO2:=hid (HO1.o.sT HX2.o);have HO3:=hid o2;obtain⟨y0,y1,y2,y3,y4,y5,yf⟩:=(HP3.o.sT (HX1.o.trans HX2.o)).cells;have m2:x2.heap.size≠w.heap.size:=by have:=HNN.o;have:=HX2.o.size;have:=HX1.o.size;omega
           try (have z2:x2.heap[w3.heap.size]?=some (.cells #[.int .i64 0,.int .u64 0,.int .i64 0,.int .i64 0,.string ByteArray.empty,.slice none 0 0,.slice none 0 0,.slice none 0 0] 74 (0,0)):=HX2.o.kept_still z1;obtain⟨v0,v1,v2,v3,v4,v5,v6,v7,vf⟩:=Uq z2)
           try (have z3:x2.heap[x1.heap.size]?=some (.cells #[.int .i64 0,.int .u64 0,.int .i64 0,.int .i64 0,.string ByteArray.empty,.slice none 0 0,.slice none 0 0,.slice none 0 0] 74 (0,0)):=g2.kept_still (heap_alloc_new x1 _);obtain⟨t0,t1,t2,t3,t4,t5,t6,t7,tf⟩:=Uq z3)
           clear o2))
    · go_wp2_with fail
      go_meet
      have hA:=sA x2 (.cells #[.int .i64 p,.int .u64 q,.int .i64 C,.int .i64 R,.string s,.slice lo n cap,.slice ao n1 ac,.slice bo n2 bc] 74);exact⟨x2.heap.size,ao,ac,bo,bc,rfl,heap_alloc_new x2 _,by have:=HX2.o.size;have:=HX1.o.size;omega,HO2.o.sT hA,HO3.o.sT hA,(HX1.o.trans HX2.o).trans hA⟩
    · go_wp2_with fail
      go_meet
      exact⟨x1.heap.size,ao,ac,bo,bc,rfl,Jg z3,HX1.o.size,HO2.o.set8 ⟨_,z3⟩ (by decide) _ _ _ _ _ _ _ _,HO3.o.set8 ⟨_,z3⟩ (by decide) _ _ _ _ _ _ _ _,Jh (HX1.o.trans HX2.o) HX1.o.size _ _ _ _ _ _ _ _⟩
    · go_wp2_with fail
      go_meet
      exact⟨w3.heap.size,ao,ac,bo,bc,rfl,Jg z2,Nat.le_refl _,HO2.o.set8 ⟨_,z2⟩ (by decide) _ _ _ _ _ _ _ _,HO3.o.set8 ⟨_,z2⟩ (by decide) _ _ _ _ _ _ _ _,Jh (HX1.o.trans HX2.o) (Nat.le_refl _) _ _ _ _ _ _ _ _⟩
  case rest =>
    obtain⟨g,ao,ac,bo,bc,rfl,hg,hge,ho1,ho2,hs⟩:=hcut;have HG:=hid hg;have HO1:=hid ho1;have HO2:=hid ho2;have HS4:=hid (HS3.o.trans hs);have HP4:=hid (HP3.o.sT hs);have HZ4:=hid (hs.kept_still HZ3.o);clear c0 c1 c2 c3 c4 c5 cf ho1 ho2 hs HP3 HS3 HZ3;obtain⟨c0,c1,c2,c3,c4,c5,cf⟩:=HP4.o.cells;obtain⟨d0,d1,d2,d3,d4,d5,d6,d7,df⟩:=Uq hg;obtain⟨y0,y1,y2,y3,y4,y5,y6,y7,yf⟩:=Uq HZ4.o;clear hg;by_cases hp:(n1:Int)<p
    · go_wp2_with fail
      refine bodyPost_ret (Ke (Jg HZ4.o) rfl _ _ rfl rfl) rfl ⟨Jh HS4.o (by omega) _ _ _ _ _ _ _ _,fun h=>?_,fun _=>rfl⟩;exfalso;have:=HN.o.1;omega
    · go_wp2_with fail
      refine bodyPost_ret (Ke (Jg HZ4.o) rfl _ _ rfl rfl) rfl ⟨Jh HS4.o (by omega) _ _ _ _ _ _ _ _,fun _=>?_,fun h=>?_⟩
      · obtain⟨e1,e2⟩:=HN.o
        subst e1 e2;exact⟨ao,ac,bo,bc,HO1.o.set8 ⟨_,HZ4.o⟩ (by decide) _ _ _ _ _ _ _ _,HO2.o.set8 ⟨_,HZ4.o⟩ (by decide) _ _ _ _ _ _ _ _,rfl⟩
      · exfalso
        have:=HN.o.1;omega
abbrev phv:Array Value:=#[.func (.func 106) #[] #[],.func (.func 107) #[] #[],.func (.func 108) #[] #[],.func (.func 109) #[] #[],.func (.func 110) #[] #[],.func (.func 111) #[] #[],.func (.func 112) #[] #[],.func (.func 113) #[] #[]]
theorem Pm(w:World):Calls Tryz.prog 59 #[] w fun e w'=>∃b,e=.returned (.slice (some ⟨b,0,none⟩) 8 8)/\w'.heap[b]?=some (.cells phv 107 (0,0))/\Yc w w':=by
 go_enter Tryz.func59,Tryz.ntmps59;go_wp2_with fail;go_ret;exact⟨w.heap.size,rfl,heap_alloc_new w _,sA w _⟩
theorem Pn{w:World}{g:Nat}(h0:w.heap[g]?=some (.cells #[.int .i64 0,.int .u64 0,.int .i64 0,.int .i64 0,.string ByteArray.empty,.slice none 0 0,.slice none 0 0,.slice none 0 0,.int .i64 0,.slice none 0 0,.slice none 0 0,.slice none 0 0,.slice none 0 0,.int .i64 0,.slice none 0 0,.slice none 0 0] 104 (0,0)))(p q C R:Int)(s:ByteArray)(lg st sp:Value)(fr:Int)(a b c d:Value)(nx:Int)(xs e:Value):Fmk ((((((((((((((((w.setCell ⟨g,0,none⟩ (.int .i64 p)).setCell ⟨g,1,none⟩ (.int .u64 q)).setCell ⟨g,2,none⟩ (.int .i64 C)).setCell ⟨g,3,none⟩ (.int .i64 R)).setCell ⟨g,4,none⟩ (.string s)).setCell ⟨g,5,none⟩ lg).setCell ⟨g,6,none⟩ st).setCell ⟨g,7,none⟩ sp).setCell ⟨g,8,none⟩ (.int .i64 fr)).setCell ⟨g,9,none⟩ a).setCell ⟨g,10,none⟩ b).setCell ⟨g,11,none⟩ c).setCell ⟨g,12,none⟩ d).setCell ⟨g,13,none⟩ (.int .i64 nx)).setCell ⟨g,14,none⟩ xs).setCell ⟨g,15,none⟩ e) g ⟨⟨p,q,C,R,s,lg⟩,st,sp,xs⟩ fr nx a b c d e:=by
 unfold Fmk;have h1:=heap_setCell_same _ g 0 _ _ (.int .i64 p) h0;have h2:=heap_setCell_same _ g 1 _ _ (.int .u64 q) h1;have h3:=heap_setCell_same _ g 2 _ _ (.int .i64 C) h2;have h4:=heap_setCell_same _ g 3 _ _ (.int .i64 R) h3;have h5:=heap_setCell_same _ g 4 _ _ (.string s) h4;have h6:=heap_setCell_same _ g 5 _ _ lg h5;have h7:=heap_setCell_same _ g 6 _ _ st h6;have h8:=heap_setCell_same _ g 7 _ _ sp h7;have h9:=heap_setCell_same _ g 8 _ _ (.int .i64 fr) h8;have h10:=heap_setCell_same _ g 9 _ _ a h9;have h11:=heap_setCell_same _ g 10 _ _ b h10;have h12:=heap_setCell_same _ g 11 _ _ c h11;have h13:=heap_setCell_same _ g 12 _ _ d h12;have h14:=heap_setCell_same _ g 13 _ _ (.int .i64 nx) h13;have h15:=heap_setCell_same _ g 14 _ _ xs h14;have h16:=heap_setCell_same _ g 15 _ _ e h15;exact h16.trans (by kernel_rfl)
theorem F9{w:World}{g B:Nat}(hg:Tyk w g 104)(hB:B<=g)(v0 v1 v2 v3 v4 v5 v6 v7 v8 v9 v10 v11 v12 v13 v14 v15:Value):FrT B [104] w ((((((((((((((((w.setCell ⟨g,0,none⟩ v0).setCell ⟨g,1,none⟩ v1).setCell ⟨g,2,none⟩ v2).setCell ⟨g,3,none⟩ v3).setCell ⟨g,4,none⟩ v4).setCell ⟨g,5,none⟩ v5).setCell ⟨g,6,none⟩ v6).setCell ⟨g,7,none⟩ v7).setCell ⟨g,8,none⟩ v8).setCell ⟨g,9,none⟩ v9).setCell ⟨g,10,none⟩ v10).setCell ⟨g,11,none⟩ v11).setCell ⟨g,12,none⟩ v12).setCell ⟨g,13,none⟩ v13).setCell ⟨g,14,none⟩ v14).setCell ⟨g,15,none⟩ v15):=
 (((((((((((((((((FrT.refl B [104] w).set hg (by simp) hB v0).set (hg.set v0) (by simp) hB v1).set ((hg.set v0).set v1) (by simp) hB v2).set (((hg.set v0).set v1).set v2) (by simp) hB v3).set ((((hg.set v0).set v1).set v2).set v3) (by simp) hB v4).set (((((hg.set v0).set v1).set v2).set v3).set v4) (by simp) hB v5).set ((((((hg.set v0).set v1).set v2).set v3).set v4).set v5) (by simp) hB v6).set (((((((hg.set v0).set v1).set v2).set v3).set v4).set v5).set v6) (by simp) hB v7).set ((((((((hg.set v0).set v1).set v2).set v3).set v4).set v5).set v6).set v7) (by simp) hB v8).set (((((((((hg.set v0).set v1).set v2).set v3).set v4).set v5).set v6).set v7).set v8) (by simp) hB v9).set ((((((((((hg.set v0).set v1).set v2).set v3).set v4).set v5).set v6).set v7).set v8).set v9) (by simp) hB v10).set (((((((((((hg.set v0).set v1).set v2).set v3).set v4).set v5).set v6).set v7).set v8).set v9).set v10) (by simp) hB v11).set ((((((((((((hg.set v0).set v1).set v2).set v3).set v4).set v5).set v6).set v7).set v8).set v9).set v10).set v11) (by simp) hB v12).set (((((((((((((hg.set v0).set v1).set v2).set v3).set v4).set v5).set v6).set v7).set v8).set v9).set v10).set v11).set v12) (by simp) hB v13).set ((((((((((((((hg.set v0).set v1).set v2).set v3).set v4).set v5).set v6).set v7).set v8).set v9).set v10).set v11).set v12).set v13) (by simp) hB v14).set (((((((((((((((hg.set v0).set v1).set v2).set v3).set v4).set v5).set v6).set v7).set v8).set v9).set v10).set v11).set v12).set v13).set v14) (by simp) hB v15)
theorem Wdb.res2{fn:Func}{p r:Tmp}{w:World}{g:Nat}{fr nx:Int}{ao bo co so:Option Addr}{n1 n2 n3 n4 c1 c2 c3 c4:Nat}(hb:Wdb w g fr nx (.slice ao n1 c1) (.slice bo n2 c2) (.slice co n3 c3) (.slice so n4 c4))(h:fn.results=#[.cell p 33,.tmp r])(tmps:Array Value)(t:Value)(hp:tmps.getD p undef=.pointer (some ⟨g,0,none⟩))(ht:tmps.getD r undef=t) :
  (results fn tmps).run Tryz.prog w=.ok (.tuple #[.agg (Yf fr nx (.slice ao n1 c1) (.slice bo n2 c2) (.slice co n3 c3) (.slice so n4 c4)),t]) w:=by
 have hp':tmps[p]?.getD undef=.pointer (some ⟨g,0,none⟩):=by simpa using hp
 have ht':tmps[r]?.getD undef=t:=by simpa using ht
 simp[results,h,hp',ht',asAddr,hb.load]
theorem Po(W:Wd)(fr nx:Int)(n1 n2 n3 n4:Nat)(efr:W.fr=fr)(enx:W.nx=nx)(e1:W.ms.length=n1)(e2:W.cs.length=n2)(e3:W.hs.length=n3)(e4:W.ks.length=n4)(B:Nat)(v:Value)(w:World)(hB:B<=w.heap.size)(hv:RdW w v W)(h1:n1<=48)(h2:n2<=48)(h3:n3<=48)(h4:n4<=48) :
  Calls Tryz.prog 58 #[v] w fun e w'=>∃xa ya xb yb xc yc xd yd,e=.returned (.agg (Yf fr nx (.slice xa n1 ya) (.slice xb n2 yb) (.slice xc n3 yc) (.slice xd n4 yd)))/\OwG KM 59 w' B (.slice xa n1 ya) W.ms/\OwG KC 67 w' B (.slice xb n2 yb) W.cs/\OwG KS 69 w' B (.slice xc n3 yc) W.hs/\OwG KQ 71 w' B (.slice xd n4 yd) W.ks/\Yc w w':=by
 refine(SC W v w hv (by omega) (by omega) (by omega) (by omega)).mono ?_;rintro e w' ⟨u,rfl,⟨a,b,c,d,rfl,o1,o2,o3,o4⟩,hs⟩;obtain⟨xa,ya,rfl,_⟩:=o1.slice;obtain⟨xb,yb,rfl,_⟩:=o2.slice;obtain⟨xc,yc,rfl,_⟩:=o3.slice;obtain⟨xd,yd,rfl,_⟩:=o4.slice;subst efr enx e1 e2 e3 e4;exact⟨xa,ya,xb,yb,xc,yc,xd,yd,rfl,o1.less hB,o2.less hB,o3.less hB,o4.less hB,hs⟩
theorem FA{w W5:World}{k:Nat}{f0 x0:Int}{a0 b0 c0 d0:Value}(hz:Wdb W5 k f0 x0 a0 b0 c0 d0)(hs:Yc w W5)(hk:w.heap.size<=k)(fr nx:Int)(a b c d:Value):Wdb ((((((W5.setCell ⟨k,0,none⟩ (.int .i64 fr)).setCell ⟨k,1,none⟩ a).setCell ⟨k,2,none⟩ b).setCell ⟨k,3,none⟩ c).setCell ⟨k,4,none⟩ d).setCell ⟨k,5,none⟩ (.int .i64 nx)).drew k fr nx a b c d/\Yc w ((((((W5.setCell ⟨k,0,none⟩ (.int .i64 fr)).setCell ⟨k,1,none⟩ a).setCell ⟨k,2,none⟩ b).setCell ⟨k,3,none⟩ c).setCell ⟨k,4,none⟩ d).setCell ⟨k,5,none⟩ (.int .i64 nx)).drew/\∀{α:Type} {K:Kd α} {e:TypeId} {B:Nat} {v:Value} {L:List α},OwG K e W5 B v L->e≠33->OwG K e ((((((W5.setCell ⟨k,0,none⟩ (.int .i64 fr)).setCell ⟨k,1,none⟩ a).setCell ⟨k,2,none⟩ b).setCell ⟨k,3,none⟩ c).setCell ⟨k,4,none⟩ d).setCell ⟨k,5,none⟩ (.int .i64 nx)).drew B v L:=
 ⟨(hz.put fr nx a b c d).sT ((Fr.refl _ _).drew),(Uv hs hk _ _ _ _ _ _).drew,fun h ht=>(h.set6 hz.ty ht _ _ _ _ _ _).sT ((Fr.refl _ _).drew)⟩
def Pp(E:Env)(W:Wd)(l:List Cm)(w w':World)(e:Ending):Prop:=Yc w w'/\∃u nv,e=.returned (.tuple #[u,nv])/\OwW w' w.heap.size u (frame E W l).w/\OwG KN 47 w' w.heap.size nv (frame E W l).ns
theorem FB(p q C R:Int)(s:ByteArray)(lo:Option Addr)(ln lc:Nat)(so:Option Addr)(sn sc:Nat)(po:Option Addr)(pn pc:Nat)(xo:Option Addr)(n xcp:Nat)(E:Env)(w:World)(D:P13 w ⟨p,q,C,R,s,.slice lo ln lc⟩ E)(B0:Nat)(W:Wd)(N:Nat)(l:List Cm)(hr:RdG KX w xo n l)(hst:OwG KT 57 w B0 (.slice so sn sc) E.st)(hsp:OwG KT 57 w B0 (.slice po pn pc) E.sp)(hN:N<=6)(hNs:N<=E.st.length)(hs16:E.sp.length<=16)(hG:Ha.Good N E W)(hfr:0<=W.fr/\W.fr<1099511627776)(hl:∀y∈l,Rgt N y)(h47:(n+300)*24<=140737488355328)(v:Value)(hv:RdW w v W) :
    Calls Tryz.prog 27 #[.agg #[.int .i64 p,.int .u64 q,.int .i64 C,.int .i64 R,.string s,.slice lo ln lc,.slice so sn sc,.slice po pn pc],v,.slice xo n xcp] w fun e w'=>Pp E W l w w' e:=by
  have HV:=hid hv;obtain⟨a,b,c,d,rfl,⟨ao,ac,rfl,l1,ha,hra⟩,⟨bo,bc,rfl,l2,hb,hrb⟩,⟨co,cc,rfl,l3,hc,hrc⟩,⟨do',dc,rfl,l4,hd,hrd⟩⟩:=hv;clear l1 l2 l3 l4 ha hb hc hd hra hrb hrc hrd;have g1:W.ms.length<=48:=by have:=hG.1.1;omega
  have g2:W.cs.length<=48:=by have:=hG.1.2.2.1;omega
  have g3:W.hs.length<=48:=(flo_pw.1 hG.2.1).1;have g4:W.ks.length<=48:=by have:=(mayK_pw.1 hG.2.2.2.1).2.1;omega
  obtain⟨n1,e1⟩:∃n,W.ms.length=n:=⟨_,rfl⟩;obtain⟨n2,e2⟩:∃n,W.cs.length=n:=⟨_,rfl⟩;obtain⟨n3,e3⟩:∃n,W.hs.length=n:=⟨_,rfl⟩;obtain⟨n4,e4⟩:∃n,W.ks.length=n:=⟨_,rfl⟩;obtain⟨fr,efr⟩:∃n,W.fr=n:=⟨_,rfl⟩;obtain⟨nx,enx⟩:∃n,W.nx=n:=⟨_,rfl⟩;rw[e1]at g1;rw[e2]at g2;rw[e3]at g3;rw[e4]at g4;rw[e1,e2,e3,e4,efr,enx]at HV⊢;have HAp:=hid (fun u (hu:Yc w u)=>Po W fr nx n1 n2 n3 n4 efr enx e1 e2 e3 e4 w.heap.size _ u hu.size (HV.o.sT hu) g1 g2 g3 g4);have HPh:=hid (fun u (hu:Yc w u) g i (hi:i<8)=>Pi ⟨⟨p,q,C,R,s,.slice lo ln lc⟩,.slice so sn sc,.slice po pn pc,.slice xo n xcp⟩ E w D w.heap.size B0 g W N l xo n xcp rfl hr (Nat.le_refl _) hst hsp hN hNs hs16 hG ⟨hfr.1,by omega⟩ hl h47 u hu hu.size i hi);have EQ:=hid (And.intro efr (And.intro enx (And.intro e1 (And.intro e2 (And.intro e3 e4)))));have HF:=hid hfr;clear D hr hst hsp hN hNs hs16 hG hfr hl h47 efr enx e1 e2 e3 e4 g1 g2 g3 g4;have A0:=sA w (.cells #[.int .i64 p,.int .u64 q,.int .i64 C,.int .i64 R,.string s,.slice lo ln lc,.slice so sn sc,.slice po pn pc] 74);have A1:=sA (w.alloc (.cells #[.int .i64 p,.int .u64 q,.int .i64 C,.int .i64 R,.string s,.slice lo ln lc,.slice so sn sc,.slice po pn pc] 74)) (.cells (Yf fr nx (.slice ao n1 ac) (.slice bo n2 bc) (.slice co n3 cc) (.slice do' n4 dc)) 33);have A2:=sA ((w.alloc (.cells #[.int .i64 p,.int .u64 q,.int .i64 C,.int .i64 R,.string s,.slice lo ln lc,.slice so sn sc,.slice po pn pc] 74)).alloc (.cells (Yf fr nx (.slice ao n1 ac) (.slice bo n2 bc) (.slice co n3 cc) (.slice do' n4 dc)) 33)) (.cells (Yf 0 0 (.slice none 0 0) (.slice none 0 0) (.slice none 0 0) (.slice none 0 0)) 33);have s0:Seb (w.alloc (.cells #[.int .i64 p,.int .u64 q,.int .i64 C,.int .i64 R,.string s,.slice lo ln lc,.slice so sn sc,.slice po pn pc] 74)) w.heap.size ⟨⟨p,q,C,R,s,.slice lo ln lc⟩,.slice so sn sc,.slice po pn pc,.slice xo n xcp⟩:=(heap_alloc_new w (.cells #[.int .i64 p,.int .u64 q,.int .i64 C,.int .i64 R,.string s,.slice lo ln lc,.slice so sn sc,.slice po pn pc] 74));have w0:=Zw (w.alloc (.cells #[.int .i64 p,.int .u64 q,.int .i64 C,.int .i64 R,.string s,.slice lo ln lc,.slice so sn sc,.slice po pn pc] 74)) fr nx (.slice ao n1 ac) (.slice bo n2 bc) (.slice co n3 cc) (.slice do' n4 dc);have z0:=Zw ((w.alloc (.cells #[.int .i64 p,.int .u64 q,.int .i64 C,.int .i64 R,.string s,.slice lo ln lc,.slice so sn sc,.slice po pn pc] 74)).alloc (.cells (Yf fr nx (.slice ao n1 ac) (.slice bo n2 bc) (.slice co n3 cc) (.slice do' n4 dc)) 33)) 0 0 (.slice none 0 0) (.slice none 0 0) (.slice none 0 0) (.slice none 0 0);rw[size_alloc]at w0;rw[size_alloc,size_alloc]at z0;have HS0:=hid ((A0.trans A1).trans A2);have HQ0:Hid (Seb (((w.alloc (.cells #[.int .i64 p,.int .u64 q,.int .i64 C,.int .i64 R,.string s,.slice lo ln lc,.slice so sn sc,.slice po pn pc] 74)).alloc (.cells (Yf fr nx (.slice ao n1 ac) (.slice bo n2 bc) (.slice co n3 cc) (.slice do' n4 dc)) 33)).alloc (.cells (Yf 0 0 (.slice none 0 0) (.slice none 0 0) (.slice none 0 0) (.slice none 0 0)) 33)) w.heap.size ⟨⟨p,q,C,R,s,.slice lo ln lc⟩,.slice so sn sc,.slice po pn pc,.slice xo n xcp⟩):=hid ((s0.sT A1).sT A2);have HW0:Hid (Wdb (((w.alloc (.cells #[.int .i64 p,.int .u64 q,.int .i64 C,.int .i64 R,.string s,.slice lo ln lc,.slice so sn sc,.slice po pn pc] 74)).alloc (.cells (Yf fr nx (.slice ao n1 ac) (.slice bo n2 bc) (.slice co n3 cc) (.slice do' n4 dc)) 33)).alloc (.cells (Yf 0 0 (.slice none 0 0) (.slice none 0 0) (.slice none 0 0) (.slice none 0 0)) 33)) (w.heap.size+1) fr nx (.slice ao n1 ac) (.slice bo n2 bc) (.slice co n3 cc) (.slice do' n4 dc)):=hid (w0.sT A2);have HZ0:Hid (Wdb (((w.alloc (.cells #[.int .i64 p,.int .u64 q,.int .i64 C,.int .i64 R,.string s,.slice lo ln lc,.slice so sn sc,.slice po pn pc] 74)).alloc (.cells (Yf fr nx (.slice ao n1 ac) (.slice bo n2 bc) (.slice co n3 cc) (.slice do' n4 dc)) 33)).alloc (.cells (Yf 0 0 (.slice none 0 0) (.slice none 0 0) (.slice none 0 0) (.slice none 0 0)) 33)) (w.heap.size+1+1) 0 0 (.slice none 0 0) (.slice none 0 0) (.slice none 0 0) (.slice none 0 0)):=hid z0;clear A0 A1 A2 s0 w0 z0;obtain⟨W0,eW0⟩:∃X,(((w.alloc (.cells #[.int .i64 p,.int .u64 q,.int .i64 C,.int .i64 R,.string s,.slice lo ln lc,.slice so sn sc,.slice po pn pc] 74)).alloc (.cells (Yf fr nx (.slice ao n1 ac) (.slice bo n2 bc) (.slice co n3 cc) (.slice do' n4 dc)) 33)).alloc (.cells (Yf 0 0 (.slice none 0 0) (.slice none 0 0) (.slice none 0 0) (.slice none 0 0)) 33))=X:=⟨_,rfl⟩;rw[eW0]at HS0 HQ0 HW0 HZ0;go_enter Tryz.func27,Tryz.ntmps27;go_upto_region 1 with fail;clear eW0;obtain⟨c0,c1,c2,c3,c4,c5,c6,c7,cf⟩:=HQ0.o.cells;obtain⟨d0,d1,d2,d3,d4,d5,df⟩:=HW0.o.cells;have HNN:=hid (show w.heap.size+1+1<W0.heap.size from Yz HZ0.o);have k1:W0.heap.size≠w.heap.size:=by have:=HNN.o;omega
  have k2:W0.heap.size≠w.heap.size+1:=by have:=HNN.o;omega
  go_cut [8] (fun v8 wx=>∃g,v8=.pointer (some ⟨g,0,none⟩)/\FmM w.heap.size wx g ⟨⟨p,q,C,R,s,.slice lo ln lc⟩,.slice so sn sc,.slice po pn pc,.slice xo n xcp⟩ ⟨W,[]⟩/\W0.heap.size<=g/\Yc W0 wx)
  case first =>
    go_region_held3 (fun w'=>w'.cell? ⟨w.heap.size,0,none⟩=some (.int .i64 p)/\w'.cell? ⟨w.heap.size,1,none⟩=some (.int .u64 q)/\w'.cell? ⟨w.heap.size,2,none⟩=some (.int .i64 C)/\w'.cell? ⟨w.heap.size,3,none⟩=some (.int .i64 R)/\w'.cell? ⟨w.heap.size,4,none⟩=some (.string s)/\w'.cell? ⟨w.heap.size,5,none⟩=some (.slice lo ln lc)/\w'.cell? ⟨w.heap.size,6,none⟩=some (.slice so sn sc)/\w'.cell? ⟨w.heap.size,7,none⟩=some (.slice po pn pc)/\w'.cell? ⟨w.heap.size+1,0,none⟩=some (.int .i64 fr)/\w'.cell? ⟨w.heap.size+1,1,none⟩=some (.slice ao n1 ac)/\w'.cell? ⟨w.heap.size+1,2,none⟩=some (.slice bo n2 bc)/\w'.cell? ⟨w.heap.size+1,3,none⟩=some (.slice co n3 cc)/\w'.cell? ⟨w.heap.size+1,4,none⟩=some (.slice do' n4 dc)/\w'.cell? ⟨w.heap.size+1,5,none⟩=some (.int .i64 nx)) (go_keep)
      (first
        | (go_at_call 58
           refine(HAp.o _ (by repeat(first|exact HS0.o|refine Fr.drew ?_|refine Fr.alloc ?_ _))).mono ?_;rintro e x1 ⟨xa,ya,xb,yb,xc,yc,xd,yd,rfl,o1,o2,o3,o4,g1⟩;have HX1:Hid (Yc W0 x1):=hid (by
             refine Yc.trans ?_ g1;repeat(first|exact Fr.refl _ _|refine Fr.drew ?_|refine Fr.alloc ?_ _))
           obtain⟨y0,y1,y2,y3,y4,y5,y6,y7,yf⟩:=(HQ0.o.sT HX1.o).cells;obtain⟨t0,t1,t2,t3,t4,t5,tf⟩:=(HW0.o.sT HX1.o).cells;have HO1:=hid o1;have HO2:=hid o2;have HO3:=hid o3;have HO4:=hid o4;have m1:x1.heap.size≠w.heap.size:=by have:=HNN.o;have:=HX1.o.size;omega
           have m2:x1.heap.size≠w.heap.size+1:=by have:=HNN.o;have:=HX1.o.size;omega
           try (have z1:x1.heap[W0.heap.size]?=some (.cells #[.int .i64 0,.int .u64 0,.int .i64 0,.int .i64 0,.string ByteArray.empty,.slice none 0 0,.slice none 0 0,.slice none 0 0,.int .i64 0,.slice none 0 0,.slice none 0 0,.slice none 0 0,.slice none 0 0,.int .i64 0,.slice none 0 0,.slice none 0 0] 104 (0,0)):=Fr.kept_still (Yc.undrew g1) (heap_alloc_new W0 _);have u0:=Fmk.cells (S:=⟨⟨0,0,0,0,ByteArray.empty,.slice none 0 0⟩,.slice none 0 0,.slice none 0 0,.slice none 0 0⟩) (show Fmk x1 W0.heap.size _ 0 0 (.slice none 0 0) (.slice none 0 0) (.slice none 0 0) (.slice none 0 0) (.slice none 0 0)from z1);obtain⟨u0,u1,u2,u3,u4,u5,u6,u7,u8,u9,u10,u11,u12,u13,u14,u15,uf⟩:=u0;dsimp only at u0 u1 u2 u3 u4 u5 u6 u7 u14)
           clear o1 o2 o3 o4))
    · go_wp2_with fail
      go_meet
      have hA:=sA x1 (.cells #[.int .i64 p,.int .u64 q,.int .i64 C,.int .i64 R,.string s,.slice lo ln lc,.slice so sn sc,.slice po pn pc,.int .i64 fr,.slice xa n1 ya,.slice xb n2 yb,.slice xc n3 yc,.slice xd n4 yd,.int .i64 nx,.slice xo n xcp,.slice none 0 0] 104);refine⟨x1.heap.size,rfl,⟨.slice xa n1 ya,.slice xb n2 yb,.slice xc n3 yc,.slice xd n4 yd,.slice none 0 0,by have:=HNN.o;have:=HX1.o.size;omega,?_,HO1.o.sT hA,HO2.o.sT hA,HO3.o.sT hA,HO4.o.sT hA,OwG.nil _ _⟩,HX1.o.size,HX1.o.trans hA⟩;show Fmk _ _ _ W.fr W.nx _ _ _ _ _;rw[EQ.o.1,EQ.o.2.1];exact heap_alloc_new x1 _
    · go_wp2_with fail
      go_meet
      have hT:=F9 (w:=x1) (g:=W0.heap.size) (B:=w.heap.size) ⟨_,z1⟩ (by have:=HNN.o;omega) (.int .i64 p) (.int .u64 q) (.int .i64 C) (.int .i64 R) (.string s) (.slice lo ln lc) (.slice so sn sc) (.slice po pn pc) (.int .i64 fr) (.slice xa n1 ya) (.slice xb n2 yb) (.slice xc n3 yc) (.slice xd n4 yd) (.int .i64 nx) (.slice xo n xcp) (.slice none 0 0);have hU:=F9 (w:=x1) (g:=W0.heap.size) (B:=W0.heap.size) ⟨_,z1⟩ (Nat.le_refl _) (.int .i64 p) (.int .u64 q) (.int .i64 C) (.int .i64 R) (.string s) (.slice lo ln lc) (.slice so sn sc) (.slice po pn pc) (.int .i64 fr) (.slice xa n1 ya) (.slice xb n2 yb) (.slice xc n3 yc) (.slice xd n4 yd) (.int .i64 nx) (.slice xo n xcp) (.slice none 0 0);refine⟨W0.heap.size,rfl,⟨.slice xa n1 ya,.slice xb n2 yb,.slice xc n3 yc,.slice xd n4 yd,.slice none 0 0,by have:=HNN.o;omega,?_,HO1.o.keepT hT (by decide),HO2.o.keepT hT (by decide),HO3.o.keepT hT (by decide),HO4.o.keepT hT (by decide),OwG.nil _ _⟩,Nat.le_refl _,hU.old HX1.o (Nat.le_refl _)⟩;show Fmk _ _ _ W.fr W.nx _ _ _ _ _;rw[EQ.o.1,EQ.o.2.1];exact Pn z1 p q C R s _ _ _ fr _ _ _ _ nx _ _
  case rest =>
    obtain⟨g,rfl,hfm,hge,hs⟩:=hcut;have HS1:=hid (HS0.o.trans hs);have HM1:=hid hfm;have HZ1:=hid (HZ0.o.sT hs);have HGE:=hid (show w.heap.size+1+1<g by have:=HNN.o;omega);clear c0 c1 c2 c3 c4 c5 c6 c7 cf d0 d1 d2 d3 d4 d5 df hfm hge hs HS0 HQ0 HW0 HZ0 HAp HNN k1 k2 HV;go_wp2_with fail;refine(Pm _).mono ?_;rintro e w2 ⟨b,rfl,hb,hs2⟩;have HB:=hid hb;have HM2:=hid (HM1.o.sT hs2);have HS2:=hid (HS1.o.trans hs2);have HZ2:=hid (HZ1.o.sT hs2);clear hb hs2 HM1 HS1 HZ1;go_wp2_with fail;go_loopw [18] (fun u wr=>∃i:Nat,i<=8/\u=.int .i64 (i:Int)/\FmM w.heap.size wr g ⟨⟨p,q,C,R,s,.slice lo ln lc⟩,.slice so sn sc,.slice po pn pc,.slice xo n xcp⟩ (phG E l ⟨W,[]⟩ i)/\FrT w.heap.size [104,59,67,69,71,47] w2 wr) (fun u _=>8-(intOf u).toNat);case atStart=>exact⟨0,by omega,rfl,HM2.o,FrT.refl _ _ _⟩
    case round =>
      obtain⟨i,hi,rfl,hg,hf⟩:=hrel;have HSr:=hid (hf.old HS2.o (Nat.le_refl _));have hB:=hf.kept HB.o (by decide);have HF2:=hid hf;by_cases hin:i<8
      · have HP:=hid (HPh.o wr HSr.o g i hin hg)
        have p0:wr.cell? ⟨b,0,none⟩=some (.func (.func 106) #[] #[]):=by rw[cell_of_row _ _ _ _ _ _ hB];rfl
        have p1:wr.cell? ⟨b,1,none⟩=some (.func (.func 107) #[] #[]):=by rw[cell_of_row _ _ _ _ _ _ hB];rfl
        have p2:wr.cell? ⟨b,2,none⟩=some (.func (.func 108) #[] #[]):=by rw[cell_of_row _ _ _ _ _ _ hB];rfl
        have p3:wr.cell? ⟨b,3,none⟩=some (.func (.func 109) #[] #[]):=by rw[cell_of_row _ _ _ _ _ _ hB];rfl
        have p4:wr.cell? ⟨b,4,none⟩=some (.func (.func 110) #[] #[]):=by rw[cell_of_row _ _ _ _ _ _ hB];rfl
        have p5:wr.cell? ⟨b,5,none⟩=some (.func (.func 111) #[] #[]):=by rw[cell_of_row _ _ _ _ _ _ hB];rfl
        have p6:wr.cell? ⟨b,6,none⟩=some (.func (.func 112) #[] #[]):=by rw[cell_of_row _ _ _ _ _ _ hB];rfl
        have p7:wr.cell? ⟨b,7,none⟩=some (.func (.func 113) #[] #[]):=by rw[cell_of_row _ _ _ _ _ _ hB];rfl
        clear hB hg hf hi HM2;obtain rfl|rfl|rfl|rfl|rfl|rfl|rfl|rfl:i=0\/i=1\/i=2\/i=3\/i=4\/i=5\/i=6\/i=7:=by omega
        all_goals clear hin
        all_goals (
          go_wp2_with fail;refine HP.o.mono ?_;rintro e w3 ⟨⟨v3,rfl⟩,hg3,hf3⟩;have HG3:=hid hg3;have HF3:=hid (HF2.o.trans hf3);clear hg3 hf3;go_wp2_with fail;go_roundw;case rel=>exact⟨_,by omega,by first|rfl|go_num,HG3.o,HF3.o⟩
          case measure=>first|(simp[intOf];done)|(simp[intOf];omega))
      · obtain rfl:i=8:=by omega
        have f8:(phG E l ⟨W,[]⟩ 8).w.fr=fr:=(Kl E l ⟨W,[]⟩ 8).trans EQ.o.1;have HFe:=hid (Ph E W l);obtain⟨G8,eG8⟩:∃G,phG E l ⟨W,[]⟩ 8=G:=⟨_,rfl⟩;rw[eG8]at hg f8 HFe;clear eG8;obtain⟨va,vb,vc,vd,ve,hx⟩:=hg;obtain⟨xa,ya,rfl,_⟩:=hx.o1.slice;obtain⟨xb,yb,rfl,_⟩:=hx.o2.slice;obtain⟨xc,yc,rfl,_⟩:=hx.o3.slice;obtain⟨xd,yd,rfl,_⟩:=hx.o4.slice;obtain⟨xe,ye,rfl,_⟩:=hx.o5.slice;obtain⟨m1,em1⟩:∃m,G8.w.ms.length=m:=⟨_,rfl⟩;obtain⟨m2,em2⟩:∃m,G8.w.cs.length=m:=⟨_,rfl⟩;obtain⟨m3,em3⟩:∃m,G8.w.hs.length=m:=⟨_,rfl⟩;obtain⟨m4,em4⟩:∃m,G8.w.ks.length=m:=⟨_,rfl⟩;obtain⟨m5,em5⟩:∃m,G8.ns.length=m:=⟨_,rfl⟩;obtain⟨nx8,en8⟩:∃m,G8.w.nx=m:=⟨_,rfl⟩;rw[em1,em2,em3,em4,em5]at hx;clear em1 em2 em3 em4 em5;obtain⟨c0,c1,c2,c3,c4,c5,c6,c7,c8,c9,c10,c11,c12,c13,c14,c15,cf⟩:=hx.k.cells;rw[f8]at c8;rw[en8]at c13;dsimp only at c0 c1 c2 c3 c4 c5 c6 c7 c14;have HN8:=hid en8;have hfa:0<=fr:=by have:=HF.o.1;rw[EQ.o.1]at this;exact this
        have hfb:fr<1099511627776:=by have:=HF.o.2;rw[EQ.o.1]at this;exact this
        have HX2:=hid (hx.setF (fr+1));have HTy:=hid hx.k.ty;have HZr:=hid (hf.kept HZ2.o (by decide));have ng:g≠w.heap.size+1+1:=by have:=HGE.o;omega
        have ng':w.heap.size+1+1≠g:=by have:=HGE.o;omega
        have HZ3:Hid (Wdb (wr.setCell ⟨g,8,none⟩ (.int .i64 (fr+1))) (w.heap.size+1+1) 0 0 (.slice none 0 0) (.slice none 0 0) (.slice none 0 0) (.slice none 0 0)):=hid (Wdb.other (show Wdb wr (w.heap.size+1+1) 0 0 (.slice none 0 0) (.slice none 0 0) (.slice none 0 0) (.slice none 0 0)from HZr.o) ng');have HS3:Hid (Yc w (wr.setCell ⟨g,8,none⟩ (.int .i64 (fr+1)))):=hid (Fr.setCell HSr.o _ _ (.inr (by have:=HGE.o;show w.heap.size<=g;omega)));obtain⟨W5,eW5⟩:∃X,wr.setCell ⟨g,8,none⟩ (.int .i64 (fr+1))=X:=⟨_,rfl⟩;rw[eW5]at HX2 HZ3 HS3;clear hin hi HM2 hB hx hf f8 en8 HZ2;go_upto_region 8 with fail;clear eW5 c0 c1 c2 c3 c4 c5 c6 c7 c8 c9 c10 c11 c12 c13 c14 c15 cf;obtain⟨c0,c1,c2,c3,c4,c5,c6,c7,c8,c9,c10,c11,c12,c13,c14,c15,cf⟩:=HX2.o.k.cells;dsimp only at c0 c1 c2 c3 c4 c5 c6 c7 c8 c13 c14;rw[HN8.o]at c13;obtain⟨z0,z1,z2,z3,z4,z5,zf⟩:=HZ3.o.cells;go_region
        go_wp2_with fail;have hx:=HX2.o;obtain⟨f1,f2,f3⟩:=FA HZ3.o HS3.o (by omega) (fr+1) nx8 (.slice xa m1 ya) (.slice xb m2 yb) (.slice xc m3 yc) (.slice xd m4 yd);refine bodyPost_ret (Wdb.res2 f1 rfl _ _ rfl rfl) rfl ⟨f2,_,_,rfl,?_,?_⟩
        · rw[HFe.o,EQ.o.1]
          exact⟨_,_,_,_,by rw[HN8.o],f3 hx.o1 (by decide),f3 hx.o2 (by decide),f3 hx.o3 (by decide),f3 hx.o4 (by decide)⟩
        · rw[HFe.o]
          exact f3 hx.o5 (by decide)
theorem Vq{o:Oper}{ρ:Operand->Value}{x:Operand}{s:Cm}(ho:o.op=.buildSlice 34 1 #[(0,x)])(hx:ρ x=xv s)(u:World):(execOp ρ o).run Tryz.prog u=.ok (.value (.slice (some ⟨u.heap.size,0,none⟩) 1 1)) (u.alloc (.cells (xcs s) 63)):=by
 unfold execOp;rw[ho];simp only[List.map_toArray,List.map_cons,List.map_nil,hx];go_simp
theorem FC{o:Oper}{ρ:Operand->Value}{x:Operand}{b:Nat}(ho:o.op=.fieldAddr 63 x 0)(hx:ρ x=.pointer (some ⟨b,0,none⟩))(u:World):(execOp ρ o).run Tryz.prog u=.ok (.value (.pointer (some ⟨b,0,none⟩))) u:=by
 unfold execOp;rw[ho];simp only[hx];go_simp
theorem FD{o:Oper}{ρ:Operand->Value}{x:Operand}{b k:Nat}{v:Int}(ho:o.op=.load 2 x)(hx:ρ x=.pointer (some ⟨b,k,none⟩))(u:World)(hc:u.cell? ⟨b,k,none⟩=some (.int .i64 v)):(execOp ρ o).run Tryz.prog u=.ok (.value (.int .i64 v)) u:=by
 unfold execOp;rw[ho];simp only[hx];go_simp
theorem Pq{P:Program}{α:Type}{K:Kd α}{e:TypeId}{w:World}{B:Nat}{v:Value}{L:List α}(ho:OwG K e w B v L){t ty:TypeId}(hu:P.underlying t=some (.slice e))(bytes:Nat)(z:Value)(hinfo:∃i,P.info? e=some i/\i.zero=some z/\i.size=K.k/\i.bytes=bytes)(p:α){g:Nat}(hr:w.heap[g]?=some (.cells (K.f p).toArray e (0,0)))(h47:(L.length+1)*bytes<=140737488355328)(h63:L.length<=281474976710656){v':Value}{w':World}
  (hrun:(Builtin.append_ #[t,t] ty #[v,.slice (some ⟨g,0,none⟩) 1 1]).run P w=.ok v' w'):∀k,v'.ownBlock=some k->v.ownBlock=some k\/w.heap.size<=k:=by
 obtain⟨i,hi,hz,h1,h2⟩:=hinfo;subst h2;have hl:(K.f p).length=1*i.size:=by rw[K.len,h1,Nat.one_mul]
 have hnews:∀j u,(K.f p)[j]?=some u->w.cell? ((⟨g,0,none⟩:Addr).add j)=some u:=by
  intro j u hj;rw[add_plain,Nat.zero_add,cell_of_row _ _ _ _ _ _ hr];simpa using hj
 rcases ho.2 with⟨rfl,hn⟩|⟨g',cap,cur,rfl,hbg,hg,hnc,hcm,hcs,htake⟩
 ·have:=run_append_nil (P:=P) w t ty e i _ hu hi hz ⟨g,0,none⟩ 1 1 (K.f p) hl hnews (by omega) (by omega) (by rw[hn]at h47;simp only[Nat.zero_add]at h47;omega);rw[this]at hrun;injection hrun with hv _;intro k hk;rw[<- hv]at hk;simp[Value.ownBlock]at hk;right;omega
 ·by_cases hroom:L.length+1<=cap
  ·have:=run_append_room (P:=P) w t ty e i hu hi g' L.length cap cur hg ⟨g,0,none⟩ 1 1 (K.f p) hl hnews (K.one p) hroom (by rw[hl,hcs,<- h1,<- Nat.add_mul];exact Nat.mul_le_mul_right _ hroom);rw[this]at hrun;injection hrun with hv _;intro k hk;rw[<- hv]at hk;left
   simpa[Value.ownBlock]using hk
  ·have holds:=World.ownsRow.cells ho (g:=g') rfl;have:=run_append_grow (P:=P) w t ty e i _ hu hi hz ⟨g',0,none⟩ L.length cap (K.row L) (by rw[K.row_len,h1]) holds ⟨g,0,none⟩ 1 1 (K.f p) hl hnews (by omega) (by omega) (growslice_fits (by omega) h47);rw[this]at hrun;injection hrun with hv _;intro k hk;rw[<- hv]at hk;simp[Value.ownBlock]at hk;right;omega
theorem Ps{P:Program}{α:Type}{e:TypeId}(K:Kd α)(w:World){ops:Array Oper}{rest:List Oper}{o:Oper}{a:Act}{Q:Exit->Act->World->Prop}(hgd:o.guard=none)(s x:Operand)(t:TypeId)
  (hop:o.op=.call { callee:=.builtin .append,args:=#[s,x],argTypes:=#[t,t] })
  (hu:P.underlying t=some (.slice e)) (bytes:Nat) (z:Value) (hzc:z.cells.size=K.k) (hinfo:∃i,P.info? e=some i/\i.zero=some z/\i.size=K.k/\i.bytes=bytes)
  (B g:Nat) (v:Value) (L:List α) (p:α) (hs:a.eval s=v) (hx:a.eval x=.slice (some ⟨g,0,none⟩) 1 1) (ho:OwG K e w B v L) (hr:w.heap[g]?=some (.cells (K.f p).toArray e (0,0))) (h47:(L.length+1)*bytes<=140737488355328) (h63:L.length<=281474976710656) (hB:B<=w.heap.size)
  (h:∀v' w',OwG K e w' B v' (L ++ [p])->Fr (fun k=>v.ownBlock=some k) w w'->(∀k,v'.ownBlock=some k->v.ownBlock=some k\/w.heap.size<=k)->wpList P ops Q rest (a.put o.dst v') w'):wpList P ops Q (o :: rest) a w:=by
 obtain⟨i,hi,hz,h1,h2⟩:=hinfo;have hnews:∀j u,(K.f p)[j]?=some u->w.cell? ((⟨g,0,none⟩:Addr).add j)=some u:=by
  intro j u hj;rw[add_plain,Nat.zero_add,cell_of_row _ _ _ _ _ _ hr];simpa using hj
 obtain⟨v',w',hrun,h2',h3,_⟩:=run_append_own (P:=P) w B t o.type e i z K.k bytes hu hi hz h1 h2 hzc K.pos v L.length (K.row L) ho ⟨g,0,none⟩ 1 1 (K.f p) (by rw[K.len,Nat.one_mul]) hnews (K.one p) (by unfold maxLen;omega) h47 hB;refine wpList_plain hgd fun Kc hK=>?_;unfold Oper.wp execOp;simp only[hop,resolve,invoke,builtin,Sem.run_bind,Sem.run_pure,Result.andThen_ok,List.map_toArray,List.map_cons,List.map_nil,hs,hx,hrun];refine hK _ _ (h v' w' ?_ ⟨h3.os,h3.tape,h3.output,h3.size,fun k hk hn=>h3.block k hk (fun e=>hn e.symm)⟩ (Pq ho hu bytes z ⟨i,hi,hz,h1,h2⟩ p hr h47 h63 hrun));unfold OwG;rw[K.row_app,List.length_append,show K.row [p]=K.f p by simp[Kd.row]];exact h2'
abbrev xsT:TypeId:=34
abbrev xxT:TypeId:=93
abbrev xcT:TypeId:=63
abbrev Zy:Value:=.slice none 0 0
def ofF(S:List Cm)(k:Nat):List Cm:=S.filter (fun x=>decide (x.fr=(k:Int)+1))
structure Bf (w wr:World) (gf f:Nat) (vs:List Value) (S:List Cm):Prop where
 bk:wr.heap[gf]?=some (.cells vs.toArray xsT (0,0))
 len:vs.length=f
 ow:∀k,k<f->OwG KX xcT wr w.heap.size (vs.getD k Zy) (ofF S k)
 sp:∀j k b,j<f->k<f->j≠k->(vs.getD j Zy).ownBlock=some b->(vs.getD k Zy).ownBlock≠some b
 lo:w.heap.size<=gf
 st:Yc w wr
section
variable {w wr w':World} {gf f:Nat} {vs:List Value} {S:List Cm}
theorem Bf.sT(h:Bf w wr gf f vs S)(hs:Yc wr w'):Bf w w' gf f vs S:=⟨hs.kept_still h.bk,h.len,fun k hk=>(h.ow k hk).sT hs,h.sp,h.lo,h.st.trans hs⟩
theorem Pt(z:Value)(n:Nat):madeCells #[z] n=(List.replicate n z).toArray:=by
 apply Array.ext
 ·simp[madeCells]
 ·intro i h1 h2;simp[madeCells,Nat.mod_one]
theorem FE(n i:Nat):(List.replicate n Zy).getD i Zy=Zy:=by
 rw[List.getD_eq_getElem?_getD,List.getElem?_replicate];split<;>rfl
theorem Bf.first(w:World)(f:Nat):Bf w (w.alloc (.cells (madeCells #[Zy] f) xsT)) w.heap.size f (List.replicate f Zy) []:=
 ⟨by rw[Pt];exact heap_alloc_new w _,by simp,fun k _=>(by rw[FE];exact OwG.nil _ _),fun j k b _ _ _ e=>(by rw[FE]at e;cases e),Nat.le_refl _,sA w _⟩
theorem FF(S:List Cm)(c:Cm)(k:Nat):ofF (S ++ [c]) k=if c.fr=(k:Int)+1 then ofF S k ++ [c]else ofF S k:=by
 unfold ofF;rw[List.filter_append];by_cases h:c.fr=(k:Int)+1
 ·rw[if_pos h,List.filter_cons_of_pos (by simpa using h)];rfl
 ·rw[if_neg h,List.filter_cons_of_neg (by simpa using h)];simp
theorem Bf.skip{c:Cm}(h:Bf w wr gf f vs S)(hc:¬(1<=c.fr/\c.fr<=(f:Int))):Bf w wr gf f vs (S ++ [c]):=
 ⟨h.bk,h.len,fun k hk=>by rw[FF,if_neg (by omega)];exact h.ow k hk,h.sp,h.lo,h.st⟩
theorem Bf.cell(h:Bf w wr gf f vs S){k:Nat}(hk:k<f):wr.cell? ⟨gf,k,none⟩=some (vs.getD k Zy):=by
 rw[cell_of_row _ _ _ _ _ _ h.bk];have:k<vs.length:=by rw[h.len];exact hk
 simp[List.getD,this]
theorem Pv{B k:Nat}{v:Value}{L:List Cm}(h:OwG KX xcT w B v L)(hk:v.ownBlock=some k):∃cur,w.heap[k]?=some (.cells cur xcT (0,0)):=by
 rcases h.2 with⟨rfl,_⟩|⟨g,cap,cur,rfl,hb,hg,_⟩
 ·cases hk
 ·cases hk;exact⟨cur,hg⟩
theorem Pw{a b:Nat}{x y:Array Value}{s t:TypeId}(ha:w.heap[a]?=some (.cells x s (0,0)))(hb:w.heap[b]?=some (.cells y t (0,0)))(h:s≠t):a≠b:=fun e=>by
 subst e;rw[ha]at hb;injection hb with hb;injection hb with _ h2 _;exact h h2
theorem Bf.gne(h:Bf w wr gf f vs S){k b:Nat}(hk:k<f)(hb:(vs.getD k Zy).ownBlock=some b):b≠gf:=by
 obtain⟨cur,hc⟩:=Pv (h.ow k hk) hb;exact Pw hc h.bk (by decide)
theorem FG(L:List Value)(i j:Nat)(x:Value)(hi:i<L.length):(L.set i x).getD j Zy=if j=i then x else L.getD j Zy:=by
 rw[List.getD_eq_getElem?_getD,List.getElem?_set];by_cases h:i=j
 ·subst h;simp[hi]
 ·rw[if_neg h,if_neg (fun e=>h e.symm),List.getD_eq_getElem?_getD]
theorem Bf.put{c:Cm}{j:Nat}{v':Value}{u:World}(h:Bf w wr gf f vs S)(hj:j<f)(hc:c.fr=(j:Int)+1)(ho:OwG KX xcT u w.heap.size v' (ofF S j ++ [c]))(hf:Fr (fun k=>(vs.getD j Zy).ownBlock=some k) wr u)(hb:∀k,v'.ownBlock=some k->(vs.getD j Zy).ownBlock=some k\/wr.heap.size<=k):Bf w (u.setCell ⟨gf,j,none⟩ v') gf f (vs.set j v') (S ++ [c]):=by
 have hl:j<vs.length:=by rw[h.len];exact hj
 have bk1:u.heap[gf]?=some (.cells vs.toArray xsT (0,0)):=hf.kept h.bk (fun e=>h.gne hj e rfl);have fs:=(Fr.refl (fun k=>k=gf) u).setCell ⟨gf,j,none⟩ v' (.inl rfl);have glt:=Yz h.bk;have vne:∀k,v'.ownBlock=some k->k≠gf:=fun k hk e=>by
  subst e;rcases hb _ hk with h1|h1
  ·exact h.gne hj h1 rfl
  ·omega
 refine⟨?_,by rw[List.length_set];exact h.len,fun k hk=>?_,fun a b x ha hb' hab e=>?_,h.lo,?_⟩
 ·rw[heap_setCell_same u gf j _ _ v' bk1];simp
 ·rw[FG _ _ _ _ hl,FF];by_cases e:k=j
  ·subst e;rw[if_pos rfl,if_pos hc];exact ho.keep fs (fun x hx e=>vne x e hx)
  ·rw[if_neg e,if_neg (by omega)];exact((h.ow k hk).keep hf (fun x hx e2=>h.sp j k x hj hk (fun e3=>e e3.symm) hx e2)).keep fs (fun x hx e2=>h.gne hk e2 hx)
 ·rw[FG _ _ _ _ hl]at e⊢;by_cases e1:a=j
  ·rw[if_pos e1]at e;rw[if_neg (fun e2=>hab (e1.trans e2.symm))];intro e3;rcases hb x e with h1|h1
   ·exact h.sp j b x hj hb' (fun e2=>hab (e1.trans e2)) h1 e3
   ·have:=((h.ow b hb').block e3).2;omega
  ·rw[if_neg e1]at e;split
   ·rename_i e2;intro e3;rcases hb x e3 with h1|h1
    ·exact h.sp a j x ha hj e1 e h1
    ·have:=((h.ow a ha).block e).2;omega
   ·exact h.sp a b x ha hb' hab e
 ·exact Fr.setCell (Fr.trans h.st hf (fun k hk e=>by have:=((h.ow j hj).block e).1;omega)) _ _ (.inr h.lo)
end
theorem apX{o:Oper}{ρ:Operand->Value}{s x:Operand}{u:World}{B g:Nat}{v:Value}{L:List Cm}{y:Cm}(ho:o.op=.call { callee:=.builtin .append,args:=#[s,x],argTypes:=#[xsT,xsT] })(hs:ρ s=v)(hx:ρ x=.slice (some ⟨g,0,none⟩) 1 1)(hr:u.heap[g]?=some (.cells (xcs y) xcT (0,0)))(hO:OwG KX xcT u B v L)(h47:(L.length+1)*56<=140737488355328)(hB:B<=u.heap.size):∃v' u',(execOp ρ o).run Tryz.prog u=.ok (.value v') u'/\Fr (fun k=>v.ownBlock=some k) u u':=by
 obtain⟨i,hi,hz,h1,h2⟩:=UV;obtain⟨v',w',hrun,_,hgr,_⟩:=run_append_own (P:=Tryz.prog) u B xsT o.type xcT i (.agg (KX.f KX.d).toArray) KX.k 56 Tryz.underlying34 hi hz h1 h2 (by simp[Value.cells,KX.len]) KX.pos v L.length (KX.row L) hO ⟨g,0,none⟩ 1 1 (KX.f y) (by rw[KX.len,Nat.one_mul]) (by
  intro j z hj;rw[add_plain,Nat.zero_add,cell_of_row _ _ _ _ _ _ hr];have hj':(xcs y).toList[j]?=some z:=hj;rwa [Array.getElem?_toList]at hj') (KX.one y) (by unfold maxLen;omega) h47 hB
 refine⟨v',w',?_,⟨hgr.os,hgr.tape,hgr.output,hgr.size,fun k hk hn=>hgr.block k hk (fun e=>hn e.symm)⟩⟩;unfold execOp;simp only[ho,resolve,invoke,builtin,Sem.run_bind,Sem.run_pure,Result.andThen_ok,List.map_toArray,List.map_cons,List.map_nil,hs,hx,hrun]
theorem Px{o:Oper}{ρ:Operand->Value}{s x:Operand}{u:World}{B g:Nat}{v:Value}{L:List Cm}{y:Cm}(ho:o.op=.call { callee:=.builtin .append,args:=#[s,x],argTypes:=#[xsT,xsT] })(hs:ρ s=v)(hx:ρ x=.slice (some ⟨g,0,none⟩) 1 1)(hr:u.heap[g]?=some (.cells (xcs y) xcT (0,0)))(hO:OwG KX xcT u B v L)(h47:(L.length+1)*56<=140737488355328)(hB:B<=u.heap.size):∃v' u',(execOp ρ o).run Tryz.prog u=.ok (.value v') u':=by
 obtain⟨v',u',h,_⟩:=apX ho hs hx hr hO h47 hB;exact⟨v',u',h⟩
theorem Py{o:Oper}{ρ:Operand->Value}{s x:Operand}{u:World}{B g:Nat}{v:Value}{L:List Cm}{y:Cm}{u1:World}{v1:Value}(h3:(execOp ρ o).run Tryz.prog u=.ok (.value v1) u1)(ho:o.op=.call { callee:=.builtin .append,args:=#[s,x],argTypes:=#[xsT,xsT] })(hs:ρ s=v)(hx:ρ x=.slice (some ⟨g,0,none⟩) 1 1)(hr:u.heap[g]?=some (.cells (xcs y) xcT (0,0)))(hO:OwG KX xcT u B v L)(h47:(L.length+1)*56<=140737488355328)(hB:B<=u.heap.size):Fr (fun k=>v.ownBlock=some k) u u1:=by
 obtain⟨v',u',h,hq⟩:=apX ho hs hx hr hO h47 hB;have h4:=h.symm.trans h3;simp only[Result.ok.injEq,Next.value.injEq]at h4;obtain⟨_,rfl⟩:=h4;exact hq
theorem Pz{o:Oper}{ρ:Operand->Value}{s x:Operand}{u:World}{B g:Nat}{v:Value}{L:List Cm}{y:Cm}{u1:World}(h3:(execOp ρ o).run Tryz.prog u=.ok .skip u1)(ho:o.op=.call { callee:=.builtin .append,args:=#[s,x],argTypes:=#[xsT,xsT] })(hs:ρ s=v)(hx:ρ x=.slice (some ⟨g,0,none⟩) 1 1)(hr:u.heap[g]?=some (.cells (xcs y) xcT (0,0)))(hO:OwG KX xcT u B v L)(h47:(L.length+1)*56<=140737488355328)(hB:B<=u.heap.size):False:=by
 obtain⟨v',u',h,_⟩:=apX ho hs hx hr hO h47 hB;have h4:=h.symm.trans h3;simp at h4
theorem sbN{o:Oper}{ρ:Operand->Value}{x y:Operand}{a:Int}{j:Nat}(ho:o.op=.binOp .sub 2 x y 2)(hx:ρ x=.int .i64 a)(hy:ρ y=.int .i64 1)(ha:a=(j:Int)+1)(hj:j<=5000)(u:World):(execOp ρ o).run Tryz.prog u=.ok (.value (.int .i64 (j:Int))) u:=by
 have hw:IntKind.i64.wrap (a-1)=(j:Int):=by rw[ha,IntKind.wrap_i64]<;>omega
 unfold execOp;rw[ho];simp only[hx,hy];clear ha;go_simp
theorem ixN{o:Oper}{ρ:Operand->Value}{x y:Operand}{b f j:Nat}(ho:o.op=.indexAddr xxT x y)(hx:ρ x=.slice (some ⟨b,0,none⟩) f f)(hy:ρ y=.int .i64 (j:Int))(hj:j<f)(u:World):(execOp ρ o).run Tryz.prog u=.ok (.value (.pointer (some ⟨b,j,none⟩))) u:=by
 have h1:(j:Int)<(f:Int):=by omega
 have h0:(0:Int)<=(j:Int):=by omega
 unfold execOp;rw[ho];simp only[hx,hy];go_simp
theorem ldN{o:Oper}{ρ:Operand->Value}{x:Operand}{b j:Nat}{ao:Option Addr}{m c:Nat}(ho:o.op=.load xsT x)(hx:ρ x=.pointer (some ⟨b,j,none⟩))(u:World)(hc:u.cell? ⟨b,j,none⟩=some (.slice ao m c)):(execOp ρ o).run Tryz.prog u=.ok (.value (.slice ao m c)) u:=by
 unfold execOp;rw[ho];simp only[hx];go_simp
def ByR(w w':World)(f:Nat)(S:List Cm)(e:Ending):Prop:=∃gf vs,e=.returned (.slice (some ⟨gf,0,none⟩) f f)/\Bf w w' gf f vs S
theorem P0(S:List Cm)(xo:Option Addr)(n xcp f:Nat)(hf:f<=4097)(hn:56*n<=140737488351232)(w:World)(hr:RdG KX w xo n S):Calls Tryz.prog 46 #[.slice xo n xcp,.int .i64 (f:Int)] w fun e w'=>ByR w w' f S e:=by
 have hmk:∀W:World,(Instr.makeSlice xxT (.int .i64 (f:Int)) (.int .i64 (f:Int))).run Tryz.prog W=.ok (.slice (some ⟨W.heap.size,0,none⟩) f f) (W.alloc (.cells (madeCells #[Zy] f) xsT)):=fun W =>
  run_make_row' (P:=Tryz.prog) xxT xsT Zy 24 Tryz.underlying93 rfl rfl .i64 .i64 f (by omega) (by omega) W
 have HF:=hid (Bf.first w f);have HR:=hid hr;have HL:=hid hr.1;obtain⟨CS,hCS⟩:∃CS,madeCells #[Zy] f=CS:=⟨_,rfl⟩;rw[hCS]at HF;simp only[hCS]at hmk;obtain⟨gf,egf⟩:∃k,w.heap.size=k:=⟨_,rfl⟩;have HG:=hid egf;clear hr hCS;go_enter Tryz.func46,Tryz.ntmps46;go_wp2_with fail;rw[egf]at HF;clear egf;go_loopw [12] (fun u wr=>∃i:Nat,i<=n/\u=.int .i64 (i:Int)/\Hid (∃vs,Bf w wr gf f vs (S.take i))) (fun u _=>n-(intOf u).toNat);case atStart=>exact⟨0,by omega,rfl,hid ⟨_,HF.o⟩⟩
 case round =>
  obtain⟨i,hi,rfl,HI⟩:=hrel;obtain⟨vs,hB⟩:=HI.o;by_cases hin:i<n
  ·have hlt:(i:Int)<(n:Int):=by omega
   have hr1:=HR.o.sT hB.st;obtain⟨B,o,rfl⟩:=hr1.at (by omega);obtain⟨c0,c1,c2,c3,c4,c5,c6⟩:=rdX hr1 hin;have hT:S.take (i+1)=S.take i ++ [cm S i]:=by
    have hi':i<S.length:=by rw[HL.o];exact hin
    rw[List.take_add_one,List.getElem?_eq_getElem hi',Uu hi'];rfl
   obtain⟨c,ec⟩:∃c,cm S i=c:=⟨_,rfl⟩;rw[ec]at c0 c1 c2 c3 c4 c5 c6 hT;have HT:=hid hT;have A1:=sA wr (.cells (xcs c) xcT);have hB1:=hB.sT A1;have hX1:Xb (wr.alloc (.cells (xcs c) xcT)) wr.heap.size c:=Xc wr c;have HW:=hid (fun w=>Dv c.fr 1 (f:Int) w);obtain⟨W1,eW1⟩:∃W,wr.alloc (.cells (xcs c) xcT)=W:=⟨_,rfl⟩;obtain⟨b1,eb1⟩:∃k,wr.heap.size=k:=⟨_,rfl⟩;rw[eW1]at hB1 hX1;rw[eb1]at hX1;simp only[xcs]at eW1;have HB1:=hid hB1;have HX1:=hid hX1;obtain⟨d0,d1,d2,d3,d4,d5,d6,df⟩:=hX1.cells;have HBl:Hid (∀k,k<f->∀x,(vs.getD k Zy).ownBlock=some x->x<b1):=hid (fun k hk x hx=>by rw[<- eb1];exact((hB.ow k hk).block hx).2);clear hr1 hT ec A1 hB1 hX1 hB HI;by_cases hfr:1<=c.fr/\c.fr<=(f:Int)
   ·rw[decide_eq_true hfr]at HW;obtain⟨j,ej⟩:∃j:Nat,c.fr=(j:Int)+1:=⟨(c.fr-1).toNat,by omega⟩;have hjf:j<f:=by omega
    have HEj:=hid ej;have HFr:=hid hfr;clear ej hfr;go_wp2_with fail;refine(HW.o _).mono ?_;rintro e w' ⟨he,hw⟩;rw[he,hw];clear he hw w' HW eW1 eb1 c0 c1 c2 c3 c4 c5 c6;have hoj:=HB1.o.ow j hjf;obtain⟨ao,cp,ev,_⟩:=hoj.slice;obtain⟨Lj,eL⟩:∃k,ofF (S.take i) j=k:=⟨_,rfl⟩;rw[eL]at hoj ev;obtain⟨m,em⟩:∃k,Lj.length=k:=⟨_,rfl⟩;have hcg:=HB1.o.cell hjf;rw[em]at ev;rw[ev]at hcg hoj;have h47:(Lj.length+1)*56<=140737488355328:=by
     have h1:(ofF (S.take i) j).length<=(S.take i).length:=List.length_filter_le _ _;have h2:(S.take i).length<=i:=by rw[List.length_take];omega
     rw[eL]at h1;omega
    have HOj:=hid hoj;have H47:=hid h47;have HEv:=hid ev;have HEL:=hid eL;have HFx:Hid (∀u,Fr (fun k=>(Value.slice ao m cp).ownBlock=some k) W1 u->Xb u b1 c/\u.heap[gf]?=some (.cells vs.toArray xsT (0,0))/\u.cell? ⟨gf,j,none⟩=some (.slice ao m cp)):=hid (fun u hu=>by
     have hne:¬(Value.slice ao m cp).ownBlock=some gf:=fun e=>HB1.o.gne hjf (by rw[HEv.o];exact e) rfl;refine⟨hu.kept HX1.o (fun e=>?_),hu.kept HB1.o.bk hne,?_⟩
     ·have:=HBl.o j hjf b1 (by rw[HEv.o];exact e);omega
     ·rw[<- hcg,hu.cell (Yz HB1.o.bk) hne])
    have HBs:Hid (w.heap.size<=W1.heap.size):=hid HB1.o.st.size;clear hoj ev eL em h47 hcg;go_upto_region 6 with fail;refine Ky 11 2 [1,2,3,5,6,7,8,9] (by kernel_rfl) (by kernel_rfl) (by kernel_rfl) ?_;apply Exists.intro;refine And.intro ?_ (And.intro ?_ (And.intro ?_ ?_))
    ·intro u hu;obtain⟨hx,_,hc⟩:=HFx.o u hu.to;obtain⟨d0,d1,d2,d3,d4,d5,d6,df⟩:=hx.cells;have k0:=kC d0;have k1:=kC d1;have k2:=kC d2;have k3:=kC d3;have k4:=kC d4;have k5:=kC d5;have k6:=kC d6;have m0:=kC hc;have hw1:IntKind.i64.wrap (c.fr-1)=(j:Int):=by rw[HEj.o,IntKind.wrap_i64]<;>omega
     have hjI:(j:Int)<(f:Int):=by omega
     have hj0:(0:Int)<=(j:Int):=by omega
     clear d0 d1 d2 d3 d4 d5 d6 df hx hc;have hne:=Aft.here u;simp only[List.take_succ_cons,List.take_zero];repeat(go_big_quiet_step (rfl))
     exact wpQuiet_nil rfl
    ·intro k o B' u hk ho hR;obtain rfl|rfl:k=0\/k=1:=by omega
     ·obtain rfl:=Option.some.inj ho;cases hR with
      | zero hs=>exact .inl ⟨_,_,Vq (s:=c) rfl rfl u⟩
     ·obtain rfl:=Option.some.inj ho;cases hR with
      | value h1 h2 h3 =>
       cases h1 with
       | zero hs =>
        obtain rfl:=Option.some.inj h2;rw[Vq (s:=c) rfl rfl]at h3;simp only[Result.ok.injEq,Next.value.injEq]at h3;obtain⟨rfl,rfl⟩:=h3;exact .inl (Px (v:=.slice ao m cp) (L:=Lj) (y:=c) rfl rfl rfl (heap_alloc_new _ _) (HOj.o.sT (Fr.alloc hs _)) H47.o (Nat.le_trans HBs.o (Fr.alloc hs _).size))
      | skip h1 h2 h3 =>
       cases h1 with
       | zero hs =>
        obtain rfl:=Option.some.inj h2;rw[Vq (s:=c) rfl rfl]at h3;simp at h3
    ·intro t o t' hj hx ho ht k B' u hk0 hk2 hR;have hst:Fr (fun k=>(Value.slice ao m cp).ownBlock=some k) W1 u:=by
      obtain rfl|rfl:k=1\/k=2:=by omega
      ·cases hR with
       | value h1 h2 h3 =>
        cases h1 with
        | zero hs =>
         obtain rfl:=Option.some.inj h2;rw[Vq (s:=c) rfl rfl]at h3;simp only[Result.ok.injEq,Next.value.injEq]at h3;obtain⟨_,rfl⟩:=h3;exact Yc.to (Fr.alloc hs _)
       | skip h1 h2 h3 =>
        cases h1 with
        | zero hs =>
         obtain rfl:=Option.some.inj h2;rw[Vq (s:=c) rfl rfl]at h3;simp at h3
      ·cases hR with
       | value h1 h2 h3 =>
        cases h1 with
        | value g1 g2 g3 =>
         cases g1 with
         | zero hs =>
          obtain rfl:=Option.some.inj g2;obtain rfl:=Option.some.inj h2;rw[Vq (s:=c) rfl rfl]at g3;simp only[Result.ok.injEq,Next.value.injEq]at g3;obtain⟨rfl,rfl⟩:=g3;exact Fr.trans (Yc.to (Fr.alloc hs _)) (Py (v:=.slice ao m cp) (L:=Lj) (y:=c) h3 rfl rfl rfl (heap_alloc_new _ _) (HOj.o.sT (Fr.alloc hs _)) H47.o (Nat.le_trans HBs.o (Fr.alloc hs _).size)) (fun _ _ e=>e)
        | skip g1 g2 g3 =>
         cases g1 with
         | zero hs =>
          obtain rfl:=Option.some.inj g2;rw[Vq (s:=c) rfl rfl]at g3;simp at g3
       | skip h1 h2 h3 =>
        cases h1 with
        | value g1 g2 g3 =>
         cases g1 with
         | zero hs =>
          obtain rfl:=Option.some.inj g2;obtain rfl:=Option.some.inj h2;rw[Vq (s:=c) rfl rfl]at g3;simp only[Result.ok.injEq,Next.value.injEq]at g3;obtain⟨rfl,rfl⟩:=g3;exact(Pz (v:=.slice ao m cp) (L:=Lj) (y:=c) h3 rfl rfl rfl (heap_alloc_new _ _) (HOj.o.sT (Fr.alloc hs _)) H47.o (Nat.le_trans HBs.o (Fr.alloc hs _).size)).elim
        | skip g1 g2 g3 =>
         cases g1 with
         | zero hs =>
          obtain rfl:=Option.some.inj g2;rw[Vq (s:=c) rfl rfl]at g3;simp at g3
     obtain⟨hxb,_,hcg⟩:=HFx.o u hst;have d0:=hxb.cells.1;have hj2:t=1\/t=2\/t=3\/t=5\/t=6\/t=7\/t=8\/t=9:=by simpa using hx
     rcases hj2 with rfl|rfl|rfl|rfl|rfl|rfl|rfl|rfl
     ·obtain rfl:=Option.some.inj ho;obtain rfl:=Option.some.inj ht;exact FC rfl rfl u
     ·obtain rfl:=Option.some.inj ho;obtain rfl:=Option.some.inj ht;exact FD rfl rfl u d0
     ·obtain rfl:=Option.some.inj ho;obtain rfl:=Option.some.inj ht;exact sbN rfl rfl rfl HEj.o (by omega) u
     ·obtain rfl:=Option.some.inj ho;obtain rfl:=Option.some.inj ht;exact FC rfl rfl u
     ·obtain rfl:=Option.some.inj ho;obtain rfl:=Option.some.inj ht;exact FD rfl rfl u d0
     ·obtain rfl:=Option.some.inj ho;obtain rfl:=Option.some.inj ht;exact sbN rfl rfl rfl HEj.o (by omega) u
     ·obtain rfl:=Option.some.inj ho;obtain rfl:=Option.some.inj ht;exact ixN rfl rfl rfl hjf u
     ·obtain rfl:=Option.some.inj ho;obtain rfl:=Option.some.inj ht;exact ldN rfl rfl u hcg
    intro w3 h3;simp only[List.drop_succ_cons,List.drop_zero];have A4:=sA w3 (.cells (xcs c) xcT);have HY4:Hid ((w3.alloc (.cells (xcs c) xcT)).heap[w3.heap.size]?=some (.cells (KX.f c).toArray xcT (0,0))):=hid (heap_alloc_new w3 _);have HS4:=hid (h3.trans A4);have HO4:=hid (HOj.o.sT HS4.o);have HB4:Hid (w.heap.size<=(w3.alloc (.cells (xcs c) xcT)).heap.size):=hid (Nat.le_trans HBs.o HS4.o.size);have hjI:(j:Int)<(f:Int):=by omega
    have hj0:(0:Int)<=(j:Int):=by omega
    clear h3 A4 d0 d1 d2 d3 d4 d5 d6 df;go_wp2_with (
     at_builtin;refine Ps KX _ rfl _ _ xsT rfl Tryz.underlying34 56 (.agg (KX.f KX.d).toArray) (by simp[Value.cells,KX.len]) UV w.heap.size w3.heap.size (.slice ao m cp) Lj c rfl rfl HO4.o HY4.o H47.o (by have:=H47.o;omega) HB4.o ?_;intro v' w' ho' hf' hb';have hfw:Fr (fun k=>(Value.slice ao m cp).ownBlock=some k) W1 w':=Fr.trans HS4.o.to hf' (fun _ _ e=>e);obtain⟨_,hg2,hcg⟩:=HFx.o w' hfw;have HK:Hid (∃vs,Bf w (w'.setCell ⟨gf,j,none⟩ v') gf f vs (S.take (i+1))):=hid ⟨_,by
      rw[HT.o];refine HB1.o.put hjf HEj.o (by rw[HEL.o];exact ho') (by rw[HEv.o];exact hfw) (fun k hk=>?_);rw[HEv.o];exact(hb' k hk).imp_right (fun h=>Nat.le_trans HS4.o.size h)⟩
     have cf:=fun o=>frozen_of_row w' gf o _ _ hg2;obtain⟨ao',cp',ev',_⟩:=ho'.slice;obtain⟨m2,em2⟩:∃k,(Lj ++ [c]).length=k:=⟨_,rfl⟩;rw[ev',em2]at HK;rw[ev',em2];clear ho' hf' hb' hfw hg2 ev' em2)
    refine⟨rfl,?_⟩;go_wp2_with fail;go_roundw;case rel=>exact⟨i+1,by omega,by go_num,HK⟩
    case measure=>first|(simp[intOf];done)|(simp[intOf];omega)
   ·rw[decide_eq_false hfr]at HW;have HK:Hid (∃vs,Bf w W1 gf f vs (S.take (i+1))):=hid ⟨vs,by rw[HT.o];exact HB1.o.skip hfr⟩;clear hfr;go_wp2_with fail;refine(HW.o _).mono ?_;rintro e w' ⟨he,hw⟩;rw[he,hw];clear he hw w' HW eW1 eb1 c0 c1 c2 c3 c4 c5 c6 d0 d1 d2 d3 d4 d5 d6 df;go_wp2_with fail;go_roundw;case rel=>exact⟨i+1,by omega,by go_num,HK⟩
    case measure=>first|(simp[intOf];done)|(simp[intOf];omega)
  ·have hge:¬(i:Int)<(n:Int):=by omega
   have hE:S.take i=S:=List.take_of_length_le (by rw[HL.o];omega);rw[hE]at hB;have HB:=hid hB;clear hB hE HI;go_wp2_with fail;go_ret;exact⟨gf,vs,rfl,HB.o⟩
end Go.Proofs.YtcgmohldcokccaaGreatDoor
