/- Parts of the proof, laid end to end. -/
import Derived.Test.YtlibdheihodniaaGreatDoorYF14
import Derived.Test.YtlibdheihodniaaGreatDoorYF15
import Derived.Deep.DeepCutAuto
set_option maxHeartbeats 8000000
namespace Go.Proofs.YtlibdheihodniaaGreatDoor
open Go.RowKit
open Pu Gp Ap Vp Np Za Ka Ja Ea Ha Hg Hi
set_option maxRecDepth 100000
def OpenR (w w':World) (p q C R:Int) (s:ByteArray) (lg:Value) (st sp:List (Int × Int)) (e:Ending):Prop :=
 Still w w'/\(p<=(st.length:Int)->∃ ao ac bo bc,OwG KT 46 w' w.heap.size (.slice ao st.length ac) st/\OwG KT 46 w' w.heap.size (.slice bo sp.length bc) sp/\e=.returned (.tuple #[.agg #[.int .i64 p,.int .u64 q,.int .i64 C,.int .i64 R,.string s,lg,.slice ao st.length ac,.slice bo sp.length bc],.int .i64 0])) /\
  (¬ p<=(st.length:Int)->e=.returned (.tuple #[.agg #[.int .i64 0,.int .u64 0,.int .i64 0,.int .i64 0,.string ByteArray.empty,.slice none 0 0,.slice none 0 0,.slice none 0 0],.int .i64 130]))
theorem OwG.set8 {α:Type} {K:Kd α} {e t:TypeId} {w:World} {B g:Nat} {v:Value} {L:List α} (h:OwG K e w B v L) (hg:Tyk w g t) (ht:e≠t) (v0 v1 v2 v3 v4 v5 v6 v7:Value):OwG K e ((((((((w.setCell ⟨g,0,none⟩ v0).setCell ⟨g,1,none⟩ v1).setCell ⟨g,2,none⟩ v2).setCell ⟨g,3,none⟩ v3).setCell ⟨g,4,none⟩ v4).setCell ⟨g,5,none⟩ v5).setCell ⟨g,6,none⟩ v6).setCell ⟨g,7,none⟩ v7) B v L :=
 ((h.set6 hg ht v0 v1 v2 v3 v4 v5).setO ((((((hg.set v0).set v1).set v2).set v3).set v4).set v5) ht v6).setO (((((((hg.set v0).set v1).set v2).set v3).set v4).set v5).set v6) ht v7
theorem open_in (p q C R : Int) (s : ByteArray) (st sp : List (Int × Int)) (l : List Int) (lo : Option Addr) (n cap : Nat) (w : World) (Q : Q13 w ⟨p, q, C, R, s, .slice lo n cap⟩ 0 st sp) (hr : RdI w lo n cap l) (h0 : 2 <= p /\ p <= 6) (hl : Lags l) :
    Calls Tryz.prog 14 #[.agg #[.int .i64 p,.int .u64 q,.int .i64 C,.int .i64 R,.string s,.slice lo n cap]] w fun e w'=>OpenR w w' p q C R s (.slice lo n cap) st sp e:=by
  have A0:=Still.alloc w (.cells (cfc ⟨p,q,C,R,s,.slice lo n cap⟩) 27)
  have A1:=Still.alloc (w.alloc (.cells (cfc ⟨p,q,C,R,s,.slice lo n cap⟩) 27)) (.cells #[.int .i64 0,.int .u64 0,.int .i64 0,.int .i64 0,.string ByteArray.empty,.slice none 0 0,.slice none 0 0,.slice none 0 0] 68)
  have p0:=(newCf_cb w ⟨p,q,C,R,s,.slice lo n cap⟩).still A1
  have q0:=heap_alloc_new (w.alloc (.cells (cfc ⟨p,q,C,R,s,.slice lo n cap⟩) 27)) (.cells #[.int .i64 0,.int .u64 0,.int .i64 0,.int .i64 0,.string ByteArray.empty,.slice none 0 0,.slice none 0 0,.slice none 0 0] 68)
  rw [size_alloc] at q0
  have HZa:=hid q0
  have HSa:=hid (A0.trans A1)
  have HPa:=hid p0
  have HM:=hid (fun u (hu:Still w u)=>maylag_any l lo n cap u (hr.still hu))
  have HK:=hid (fun u (hu:Still w u)=>Q.chk u hu)
  have HQs:=hid (fun u (hu:Still w u)=>(Q.sts u hu).mono (fun e w' (h:∃ a,e=.returned a/\OwG KT 46 w' u.heap.size a st/\Still u w')=>(show ∃ a,e=.returned a/\OwG KT 46 w' w.heap.size a st/\Still u w' by obtain ⟨a,h1,h2,h3⟩:=h; exact ⟨a,h1,h2.less hu.size,h3⟩)))
  have HQp:=hid (fun u (hu:Still w u)=>(Q.sps u hu).mono (fun e w' (h:∃ a,e=.returned a/\OwG KT 46 w' u.heap.size a sp/\Still u w')=>(show ∃ a,e=.returned a/\OwG KT 46 w' w.heap.size a sp/\Still u w' by obtain ⟨a,h1,h2,h3⟩:=h; exact ⟨a,h1,h2.less hu.size,h3⟩)))
  have HLg:=hid hl
  obtain ⟨c0,c1,c2,c3,c4,c5,cf⟩:=HPa.out.cells
  clear Q hr A0 A1 p0 q0 hl
  have HW:=hid (fun u=>wwithin_any p 2 6 u)
  rw [decide_eq_true h0] at HW
  clear h0
  obtain ⟨n1,en1⟩:∃ k,st.length=k:=⟨_,rfl⟩
  obtain ⟨n2,en2⟩:∃ k,sp.length=k:=⟨_,rfl⟩
  have HN:=hid (And.intro en1 en2)
  clear en1 en2
  go_enter Tryz.func14,Tryz.ntmps14
  go_wp2_with fail
  refine (HW.out _).mono ?_
  rintro e w1 ⟨he,hw⟩
  rw [he,hw]
  clear he hw w1
  go_wp2_with fail
  refine (HM.out _ HSa.out).mono ?_
  rintro e w2 ⟨⟨b2,rfl,hb2⟩,h2⟩
  obtain rfl:b2=true:=hb2.2 HLg.out
  have HS2:=hid (HSa.out.trans h2)
  have HP2:=hid (HPa.out.still h2)
  have HZ2:=hid (h2.kept_still HZa.out)
  clear c0 c1 c2 c3 c4 c5 cf h2 hb2
  obtain ⟨c0,c1,c2,c3,c4,c5,cf⟩:=HP2.out.cells
  go_wp2_with fail
  refine (HK.out _ HS2.out).mono ?_
  rintro e w3 ⟨rfl,h3⟩
  have HS3:=hid (HS2.out.trans h3)
  have HP3:=hid (HP2.out.still h3)
  have HZ3:=hid (h3.kept_still HZ2.out)
  clear c0 c1 c2 c3 c4 c5 cf h3 HP2 HS2 HZ2
  obtain ⟨c0,c1,c2,c3,c4,c5,cf⟩:=HP3.out.cells
  go_upto_region 3 with fail
  have nn:w.heap.size+1<w3.heap.size:=block_lt HZ3.out
  have HNN:=hid nn
  have k1:w3.heap.size≠w.heap.size:=by omega
  have k2:w3.heap.size≠w.heap.size+1:=by omega
  clear nn
  go_cut [4] (fun v4 wx=>∃ g ao ac bo bc,v4=.pointer (some ⟨g,0,none⟩)/\wx.heap[g]?=some (.cells #[.int .i64 p,.int .u64 q,.int .i64 C,.int .i64 R,.string s,.slice lo n cap,.slice ao n1 ac,.slice bo n2 bc] 68 (0,0))/\w3.heap.size<=g/\OwG KT 46 wx w.heap.size (.slice ao n1 ac) st/\OwG KT 46 wx w.heap.size (.slice bo n2 bc) sp/\Still w3 wx)
  case first =>
    go_region_held3 (fun w'=>w'.cell? ⟨w.heap.size,0,none⟩=some (.int .i64 p)/\w'.cell? ⟨w.heap.size,1,none⟩=some (.int .u64 q)/\w'.cell? ⟨w.heap.size,2,none⟩=some (.int .i64 C)/\w'.cell? ⟨w.heap.size,3,none⟩=some (.int .i64 R)/\w'.cell? ⟨w.heap.size,4,none⟩=some (.string s)/\w'.cell? ⟨w.heap.size,5,none⟩=some (.slice lo n cap)) (go_keep)
      (first
        | (go_at_call 30
           refine (HQs.out _ (by repeat (first | exact HS3.out | refine Fr.drew ?_ | refine Fr.alloc ?_ _))).mono ?_
           rintro e x1 ⟨v1,rfl,o1,g1⟩
           obtain ⟨ao,ac,hv,_⟩:=o1.slice
           rw [HN.out.1] at hv
           subst hv
           have HX1:Hid (Still w3 x1):=hid (by
             refine Still.trans ?_ g1
             repeat (first | exact Fr.refl _ _ | refine Fr.drew ?_ | refine Fr.alloc ?_ _))
           obtain ⟨d0,d1,d2,d3,d4,d5,df⟩:=(HP3.out.still HX1.out).cells
           have HO1:=hid o1
           have m1:x1.heap.size≠w.heap.size:=by have:=HNN.out; have:=HX1.out.size; omega
           try (have z1:x1.heap[w3.heap.size]?=some (.cells #[.int .i64 0,.int .u64 0,.int .i64 0,.int .i64 0,.string ByteArray.empty,.slice none 0 0,.slice none 0 0,.slice none 0 0] 68 (0,0)):=Fr.kept_still (Still.undrew g1) (heap_alloc_new w3 _); obtain ⟨u0,u1,u2,u3,u4,u5,u6,u7,uf⟩:=ses_cells z1)
           clear o1)
        | (go_at_call 31
           refine (HQp.out _ (by repeat (first | exact Still.trans HS3.out HX1.out | refine Fr.drew ?_ | refine Fr.alloc ?_ _))).mono ?_
           rintro e x2 ⟨v2,rfl,o2,g2⟩
           obtain ⟨bo,bc,hv,_⟩:=o2.slice
           rw [HN.out.2] at hv
           subst hv
           have HX2:Hid (Still x1 x2):=hid (by
             refine Still.trans ?_ g2
             repeat (first | exact Fr.refl _ _ | refine Fr.drew ?_ | refine Fr.alloc ?_ _))
           have HO2:=hid (HO1.out.still HX2.out)
           have HO3:=hid o2
           obtain ⟨y0,y1,y2,y3,y4,y5,yf⟩:=(HP3.out.still (HX1.out.trans HX2.out)).cells
           have m2:x2.heap.size≠w.heap.size:=by have:=HNN.out; have:=HX2.out.size; have:=HX1.out.size; omega
           try (have z2:x2.heap[w3.heap.size]?=some (.cells #[.int .i64 0,.int .u64 0,.int .i64 0,.int .i64 0,.string ByteArray.empty,.slice none 0 0,.slice none 0 0,.slice none 0 0] 68 (0,0)):=HX2.out.kept_still z1; obtain ⟨v0,v1,v2,v3,v4,v5,v6,v7,vf⟩:=ses_cells z2)
           try (have z3:x2.heap[x1.heap.size]?=some (.cells #[.int .i64 0,.int .u64 0,.int .i64 0,.int .i64 0,.string ByteArray.empty,.slice none 0 0,.slice none 0 0,.slice none 0 0] 68 (0,0)):=g2.kept_still (heap_alloc_new x1 _); obtain ⟨t0,t1,t2,t3,t4,t5,t6,t7,tf⟩:=ses_cells z3)
           clear o2))
    · go_wp2_with fail
      go_meet
      have hA:=Still.alloc x2 (.cells #[.int .i64 p,.int .u64 q,.int .i64 C,.int .i64 R,.string s,.slice lo n cap,.slice ao n1 ac,.slice bo n2 bc] 68)
      exact ⟨x2.heap.size,ao,ac,bo,bc,rfl,heap_alloc_new x2 _,by have:=HX2.out.size; have:=HX1.out.size; omega,HO2.out.still hA,HO3.out.still hA,(HX1.out.trans HX2.out).trans hA⟩
    · go_wp2_with fail
      go_meet
      exact ⟨x1.heap.size,ao,ac,bo,bc,rfl,ses_put z3,HX1.out.size,HO2.out.set8 ⟨_,z3⟩ (by decide) _ _ _ _ _ _ _ _,HO3.out.set8 ⟨_,z3⟩ (by decide) _ _ _ _ _ _ _ _,ses_still (HX1.out.trans HX2.out) HX1.out.size _ _ _ _ _ _ _ _⟩
    · go_wp2_with fail
      go_meet
      exact ⟨w3.heap.size,ao,ac,bo,bc,rfl,ses_put z2,Nat.le_refl _,HO2.out.set8 ⟨_,z2⟩ (by decide) _ _ _ _ _ _ _ _,HO3.out.set8 ⟨_,z2⟩ (by decide) _ _ _ _ _ _ _ _,ses_still (HX1.out.trans HX2.out) (Nat.le_refl _) _ _ _ _ _ _ _ _⟩
  case rest =>
    obtain ⟨g,ao,ac,bo,bc,rfl,hg,hge,ho1,ho2,hs⟩:=hcut
    have HG:=hid hg
    have HO1:=hid ho1
    have HO2:=hid ho2
    have HS4:=hid (HS3.out.trans hs)
    have HP4:=hid (HP3.out.still hs)
    have HZ4:=hid (hs.kept_still HZ3.out)
    clear c0 c1 c2 c3 c4 c5 cf ho1 ho2 hs HP3 HS3 HZ3
    obtain ⟨c0,c1,c2,c3,c4,c5,cf⟩:=HP4.out.cells
    obtain ⟨d0,d1,d2,d3,d4,d5,d6,d7,df⟩:=ses_cells hg
    obtain ⟨y0,y1,y2,y3,y4,y5,y6,y7,yf⟩:=ses_cells HZ4.out
    clear hg
    by_cases hp:(n1:Int)<p
    · go_wp2_with fail
      refine bodyPost_ret (ses_res (ses_put HZ4.out) rfl _ _ rfl rfl) rfl ⟨ses_still HS4.out (by omega) _ _ _ _ _ _ _ _,fun h=>?_,fun _=>rfl⟩
      exfalso
      have:=HN.out.1
      omega
    · go_wp2_with fail
      refine bodyPost_ret (ses_res (ses_put HZ4.out) rfl _ _ rfl rfl) rfl ⟨ses_still HS4.out (by omega) _ _ _ _ _ _ _ _,fun _=>?_,fun h=>?_⟩
      · obtain ⟨e1,e2⟩:=HN.out
        subst e1 e2
        exact ⟨ao,ac,bo,bc,HO1.out.set8 ⟨_,HZ4.out⟩ (by decide) _ _ _ _ _ _ _ _,HO2.out.set8 ⟨_,HZ4.out⟩ (by decide) _ _ _ _ _ _ _ _,rfl⟩
      · exfalso
        have:=HN.out.1
        omega
abbrev phv:Array Value:=#[.func (.func 61) #[] #[],.func (.func 62) #[] #[],.func (.func 63) #[] #[],.func (.func 64) #[] #[],.func (.func 65) #[] #[],.func (.func 66) #[] #[],.func (.func 67) #[] #[],.func (.func 68) #[] #[]]
theorem phases_any (w:World):Calls Tryz.prog 38 #[] w fun e w'=>∃ b,e=.returned (.slice (some ⟨b,0,none⟩) 8 8)/\w'.heap[b]?=some (.cells phv 98 (0,0))/\Still w w':=by
 go_enter Tryz.func38,Tryz.ntmps38
 go_wp2_with fail
 go_ret
 exact ⟨w.heap.size,rfl,heap_alloc_new w _,Still.alloc w _⟩
theorem fm_put {w:World} {g:Nat} (h0:w.heap[g]?=some (.cells #[.int .i64 0,.int .u64 0,.int .i64 0,.int .i64 0,.string ByteArray.empty,.slice none 0 0,.slice none 0 0,.slice none 0 0,.int .i64 0,.slice none 0 0,.slice none 0 0,.slice none 0 0,.slice none 0 0,.int .i64 0,.slice none 0 0,.slice none 0 0] 95 (0,0))) (p q C R:Int) (s:ByteArray) (lg st sp:Value) (fr:Int) (a b c d:Value) (nx:Int) (xs e:Value):Fmk ((((((((((((((((w.setCell ⟨g,0,none⟩ (.int .i64 p)).setCell ⟨g,1,none⟩ (.int .u64 q)).setCell ⟨g,2,none⟩ (.int .i64 C)).setCell ⟨g,3,none⟩ (.int .i64 R)).setCell ⟨g,4,none⟩ (.string s)).setCell ⟨g,5,none⟩ lg).setCell ⟨g,6,none⟩ st).setCell ⟨g,7,none⟩ sp).setCell ⟨g,8,none⟩ (.int .i64 fr)).setCell ⟨g,9,none⟩ a).setCell ⟨g,10,none⟩ b).setCell ⟨g,11,none⟩ c).setCell ⟨g,12,none⟩ d).setCell ⟨g,13,none⟩ (.int .i64 nx)).setCell ⟨g,14,none⟩ xs).setCell ⟨g,15,none⟩ e) g ⟨⟨p,q,C,R,s,lg⟩,st,sp,xs⟩ fr nx a b c d e:=by
 unfold Fmk
 have h1:=heap_setCell_same _ g 0 _ _ (.int .i64 p) h0
 have h2:=heap_setCell_same _ g 1 _ _ (.int .u64 q) h1
 have h3:=heap_setCell_same _ g 2 _ _ (.int .i64 C) h2
 have h4:=heap_setCell_same _ g 3 _ _ (.int .i64 R) h3
 have h5:=heap_setCell_same _ g 4 _ _ (.string s) h4
 have h6:=heap_setCell_same _ g 5 _ _ lg h5
 have h7:=heap_setCell_same _ g 6 _ _ st h6
 have h8:=heap_setCell_same _ g 7 _ _ sp h7
 have h9:=heap_setCell_same _ g 8 _ _ (.int .i64 fr) h8
 have h10:=heap_setCell_same _ g 9 _ _ a h9
 have h11:=heap_setCell_same _ g 10 _ _ b h10
 have h12:=heap_setCell_same _ g 11 _ _ c h11
 have h13:=heap_setCell_same _ g 12 _ _ d h12
 have h14:=heap_setCell_same _ g 13 _ _ (.int .i64 nx) h13
 have h15:=heap_setCell_same _ g 14 _ _ xs h14
 have h16:=heap_setCell_same _ g 15 _ _ e h15
 exact h16.trans (by kernel_rfl)
theorem fm_frT {w:World} {g B:Nat} (hg:Tyk w g 95) (hB:B<=g) (v0 v1 v2 v3 v4 v5 v6 v7 v8 v9 v10 v11 v12 v13 v14 v15:Value):FrT B [95] w ((((((((((((((((w.setCell ⟨g,0,none⟩ v0).setCell ⟨g,1,none⟩ v1).setCell ⟨g,2,none⟩ v2).setCell ⟨g,3,none⟩ v3).setCell ⟨g,4,none⟩ v4).setCell ⟨g,5,none⟩ v5).setCell ⟨g,6,none⟩ v6).setCell ⟨g,7,none⟩ v7).setCell ⟨g,8,none⟩ v8).setCell ⟨g,9,none⟩ v9).setCell ⟨g,10,none⟩ v10).setCell ⟨g,11,none⟩ v11).setCell ⟨g,12,none⟩ v12).setCell ⟨g,13,none⟩ v13).setCell ⟨g,14,none⟩ v14).setCell ⟨g,15,none⟩ v15) :=
 (((((((((((((((((FrT.refl B [95] w).set hg (by simp) hB v0).set (hg.set v0) (by simp) hB v1).set ((hg.set v0).set v1) (by simp) hB v2).set (((hg.set v0).set v1).set v2) (by simp) hB v3).set ((((hg.set v0).set v1).set v2).set v3) (by simp) hB v4).set (((((hg.set v0).set v1).set v2).set v3).set v4) (by simp) hB v5).set ((((((hg.set v0).set v1).set v2).set v3).set v4).set v5) (by simp) hB v6).set (((((((hg.set v0).set v1).set v2).set v3).set v4).set v5).set v6) (by simp) hB v7).set ((((((((hg.set v0).set v1).set v2).set v3).set v4).set v5).set v6).set v7) (by simp) hB v8).set (((((((((hg.set v0).set v1).set v2).set v3).set v4).set v5).set v6).set v7).set v8) (by simp) hB v9).set ((((((((((hg.set v0).set v1).set v2).set v3).set v4).set v5).set v6).set v7).set v8).set v9) (by simp) hB v10).set (((((((((((hg.set v0).set v1).set v2).set v3).set v4).set v5).set v6).set v7).set v8).set v9).set v10) (by simp) hB v11).set ((((((((((((hg.set v0).set v1).set v2).set v3).set v4).set v5).set v6).set v7).set v8).set v9).set v10).set v11) (by simp) hB v12).set (((((((((((((hg.set v0).set v1).set v2).set v3).set v4).set v5).set v6).set v7).set v8).set v9).set v10).set v11).set v12) (by simp) hB v13).set ((((((((((((((hg.set v0).set v1).set v2).set v3).set v4).set v5).set v6).set v7).set v8).set v9).set v10).set v11).set v12).set v13) (by simp) hB v14).set (((((((((((((((hg.set v0).set v1).set v2).set v3).set v4).set v5).set v6).set v7).set v8).set v9).set v10).set v11).set v12).set v13).set v14) (by simp) hB v15)
theorem Wdb.res2 {fn:Func} {p r:Tmp} {w:World} {g:Nat} {fr nx:Int} {ao bo co so:Option Addr} {n1 n2 n3 n4 c1 c2 c3 c4:Nat} (hb:Wdb w g fr nx (.slice ao n1 c1) (.slice bo n2 c2) (.slice co n3 c3) (.slice so n4 c4)) (h:fn.results=#[.cell p 35,.tmp r]) (tmps:Array Value) (t:Value) (hp:tmps.getD p undef=.pointer (some ⟨g,0,none⟩)) (ht:tmps.getD r undef=t) :
  (results fn tmps).run Tryz.prog w=.ok (.tuple #[.agg (wdcs fr nx (.slice ao n1 c1) (.slice bo n2 c2) (.slice co n3 c3) (.slice so n4 c4)),t]) w:=by
 have hp':tmps[p]?.getD undef=.pointer (some ⟨g,0,none⟩):=by simpa using hp
 have ht':tmps[r]?.getD undef=t:=by simpa using ht
 simp [results,h,hp',ht',asAddr,hb.load]
theorem apart_at (W:Wd) (fr nx:Int) (n1 n2 n3 n4:Nat) (efr:W.fr=fr) (enx:W.nx=nx) (e1:W.ms.length=n1) (e2:W.cs.length=n2) (e3:W.hs.length=n3) (e4:W.ks.length=n4) (B:Nat) (v:Value) (w:World) (hB:B<=w.heap.size) (hv:RdW w v W) (h1:n1<=48) (h2:n2<=48) (h3:n3<=48) (h4:n4<=48) :
  Calls Tryz.prog 37 #[v] w fun e w'=>∃ xa ya xb yb xc yc xd yd,e=.returned (.agg (wdcs fr nx (.slice xa n1 ya) (.slice xb n2 yb) (.slice xc n3 yc) (.slice xd n4 yd)))/\OwG KM 48 w' B (.slice xa n1 ya) W.ms/\OwG KC 50 w' B (.slice xb n2 yb) W.cs/\OwG KS 52 w' B (.slice xc n3 yc) W.hs/\OwG KQ 54 w' B (.slice xd n4 yd) W.ks/\Still w w':=by
 refine (wapart_any W v w hv (by omega) (by omega) (by omega) (by omega)).mono ?_
 rintro e w' ⟨u,rfl,⟨a,b,c,d,rfl,o1,o2,o3,o4⟩,hs⟩
 obtain ⟨xa,ya,rfl,_⟩:=o1.slice
 obtain ⟨xb,yb,rfl,_⟩:=o2.slice
 obtain ⟨xc,yc,rfl,_⟩:=o3.slice
 obtain ⟨xd,yd,rfl,_⟩:=o4.slice
 subst efr enx e1 e2 e3 e4
 exact ⟨xa,ya,xb,yb,xc,yc,xd,yd,rfl,o1.less hB,o2.less hB,o3.less hB,o4.less hB,hs⟩
theorem fin6 {w W5:World} {k:Nat} {f0 x0:Int} {a0 b0 c0 d0:Value} (hz:Wdb W5 k f0 x0 a0 b0 c0 d0) (hs:Still w W5) (hk:w.heap.size<=k) (fr nx:Int) (a b c d:Value):Wdb ((((((W5.setCell ⟨k,0,none⟩ (.int .i64 fr)).setCell ⟨k,1,none⟩ a).setCell ⟨k,2,none⟩ b).setCell ⟨k,3,none⟩ c).setCell ⟨k,4,none⟩ d).setCell ⟨k,5,none⟩ (.int .i64 nx)).drew k fr nx a b c d/\Still w ((((((W5.setCell ⟨k,0,none⟩ (.int .i64 fr)).setCell ⟨k,1,none⟩ a).setCell ⟨k,2,none⟩ b).setCell ⟨k,3,none⟩ c).setCell ⟨k,4,none⟩ d).setCell ⟨k,5,none⟩ (.int .i64 nx)).drew/\∀ {α:Type} {K:Kd α} {e:TypeId} {B:Nat} {v:Value} {L:List α},OwG K e W5 B v L->e≠35->OwG K e ((((((W5.setCell ⟨k,0,none⟩ (.int .i64 fr)).setCell ⟨k,1,none⟩ a).setCell ⟨k,2,none⟩ b).setCell ⟨k,3,none⟩ c).setCell ⟨k,4,none⟩ d).setCell ⟨k,5,none⟩ (.int .i64 nx)).drew B v L :=
 ⟨(hz.put fr nx a b c d).still ((Fr.refl _ _).drew),(still_set6 hs hk _ _ _ _ _ _).drew,fun h ht=>(h.set6 hz.ty ht _ _ _ _ _ _).still ((Fr.refl _ _).drew)⟩
def StepR (E:Env) (W:Wd) (l:List Cm) (w w':World) (e:Ending):Prop:=Still w w'/\∃ u nv,e=.returned (.tuple #[u,nv])/\OwW w' w.heap.size u (frame E W l).w/\OwG KN 44 w' w.heap.size nv (frame E W l).ns
theorem wstep_any (p q C R : Int) (s : ByteArray) (lo : Option Addr) (ln lc : Nat) (so : Option Addr) (sn sc : Nat) (po : Option Addr) (pn pc : Nat) (xo : Option Addr) (n xcp : Nat) (E : Env) (w : World) (D : P13 w ⟨p, q, C, R, s, .slice lo ln lc⟩ E) (B0 : Nat) (W : Wd) (N : Nat) (l : List Cm) (hr : RdG KX w xo n l) (hst : OwG KT 46 w B0 (.slice so sn sc) E.st) (hsp : OwG KT 46 w B0 (.slice po pn pc) E.sp) (hN : N <= 6) (hNs : N <= E.st.length) (hs16 : E.sp.length <= 16) (hG : Ha.Good N E W) (hfr : 0 <= W.fr /\ W.fr < 1099511627776) (hl : ∀ y ∈ l, Rgt N y) (h47 : (n + 300) * 24 <= 140737488355328) (v : Value) (hv : RdW w v W) :
    Calls Tryz.prog 18 #[.agg #[.int .i64 p,.int .u64 q,.int .i64 C,.int .i64 R,.string s,.slice lo ln lc,.slice so sn sc,.slice po pn pc],v,.slice xo n xcp] w fun e w'=>StepR E W l w w' e:=by
  have HV:=hid hv
  obtain ⟨a,b,c,d,rfl,⟨ao,ac,rfl,l1,ha,hra⟩,⟨bo,bc,rfl,l2,hb,hrb⟩,⟨co,cc,rfl,l3,hc,hrc⟩,⟨do',dc,rfl,l4,hd,hrd⟩⟩:=hv
  clear l1 l2 l3 l4 ha hb hc hd hra hrb hrc hrd
  have g1:W.ms.length<=48:=by have:=hG.1.1; omega
  have g2:W.cs.length<=48:=by have:=hG.1.2.2.1; omega
  have g3:W.hs.length<=48:=(flo_pw.1 hG.2.1).1
  have g4:W.ks.length<=48:=by have:=(mayK_pw.1 hG.2.2.2.1).2.1; omega
  obtain ⟨n1,e1⟩:∃ n,W.ms.length=n:=⟨_,rfl⟩
  obtain ⟨n2,e2⟩:∃ n,W.cs.length=n:=⟨_,rfl⟩
  obtain ⟨n3,e3⟩:∃ n,W.hs.length=n:=⟨_,rfl⟩
  obtain ⟨n4,e4⟩:∃ n,W.ks.length=n:=⟨_,rfl⟩
  obtain ⟨fr,efr⟩:∃ n,W.fr=n:=⟨_,rfl⟩
  obtain ⟨nx,enx⟩:∃ n,W.nx=n:=⟨_,rfl⟩
  rw [e1] at g1
  rw [e2] at g2
  rw [e3] at g3
  rw [e4] at g4
  rw [e1,e2,e3,e4,efr,enx] at HV ⊢
  have HAp:=hid (fun u (hu:Still w u)=>apart_at W fr nx n1 n2 n3 n4 efr enx e1 e2 e3 e4 w.heap.size _ u hu.size (HV.out.still hu) g1 g2 g3 g4)
  have HPh:=hid (fun u (hu:Still w u) g i (hi:i<8)=>wphase_any ⟨⟨p,q,C,R,s,.slice lo ln lc⟩,.slice so sn sc,.slice po pn pc,.slice xo n xcp⟩ E w D w.heap.size B0 g W N l xo n xcp rfl hr (Nat.le_refl _) hst hsp hN hNs hs16 hG ⟨hfr.1,by omega⟩ hl h47 u hu hu.size i hi)
  have EQ:=hid (And.intro efr (And.intro enx (And.intro e1 (And.intro e2 (And.intro e3 e4)))))
  have HF:=hid hfr
  clear D hr hst hsp hN hNs hs16 hG hfr hl h47 efr enx e1 e2 e3 e4 g1 g2 g3 g4
  have A0:=Still.alloc w (.cells #[.int .i64 p,.int .u64 q,.int .i64 C,.int .i64 R,.string s,.slice lo ln lc,.slice so sn sc,.slice po pn pc] 68)
  have A1:=Still.alloc (w.alloc (.cells #[.int .i64 p,.int .u64 q,.int .i64 C,.int .i64 R,.string s,.slice lo ln lc,.slice so sn sc,.slice po pn pc] 68)) (.cells (wdcs fr nx (.slice ao n1 ac) (.slice bo n2 bc) (.slice co n3 cc) (.slice do' n4 dc)) 35)
  have A2:=Still.alloc ((w.alloc (.cells #[.int .i64 p,.int .u64 q,.int .i64 C,.int .i64 R,.string s,.slice lo ln lc,.slice so sn sc,.slice po pn pc] 68)).alloc (.cells (wdcs fr nx (.slice ao n1 ac) (.slice bo n2 bc) (.slice co n3 cc) (.slice do' n4 dc)) 35)) (.cells (wdcs 0 0 (.slice none 0 0) (.slice none 0 0) (.slice none 0 0) (.slice none 0 0)) 35)
  have s0:Seb (w.alloc (.cells #[.int .i64 p,.int .u64 q,.int .i64 C,.int .i64 R,.string s,.slice lo ln lc,.slice so sn sc,.slice po pn pc] 68)) w.heap.size ⟨⟨p,q,C,R,s,.slice lo ln lc⟩,.slice so sn sc,.slice po pn pc,.slice xo n xcp⟩:=(heap_alloc_new w (.cells #[.int .i64 p,.int .u64 q,.int .i64 C,.int .i64 R,.string s,.slice lo ln lc,.slice so sn sc,.slice po pn pc] 68))
  have w0:=newWd_wb (w.alloc (.cells #[.int .i64 p,.int .u64 q,.int .i64 C,.int .i64 R,.string s,.slice lo ln lc,.slice so sn sc,.slice po pn pc] 68)) fr nx (.slice ao n1 ac) (.slice bo n2 bc) (.slice co n3 cc) (.slice do' n4 dc)
  have z0:=newWd_wb ((w.alloc (.cells #[.int .i64 p,.int .u64 q,.int .i64 C,.int .i64 R,.string s,.slice lo ln lc,.slice so sn sc,.slice po pn pc] 68)).alloc (.cells (wdcs fr nx (.slice ao n1 ac) (.slice bo n2 bc) (.slice co n3 cc) (.slice do' n4 dc)) 35)) 0 0 (.slice none 0 0) (.slice none 0 0) (.slice none 0 0) (.slice none 0 0)
  rw [size_alloc] at w0
  rw [size_alloc,size_alloc] at z0
  have HS0:Hid (Still w (((w.alloc (.cells #[.int .i64 p,.int .u64 q,.int .i64 C,.int .i64 R,.string s,.slice lo ln lc,.slice so sn sc,.slice po pn pc] 68)).alloc (.cells (wdcs fr nx (.slice ao n1 ac) (.slice bo n2 bc) (.slice co n3 cc) (.slice do' n4 dc)) 35)).alloc (.cells (wdcs 0 0 (.slice none 0 0) (.slice none 0 0) (.slice none 0 0) (.slice none 0 0)) 35))):=hid ((A0.trans A1).trans A2)
  have HQ0:Hid (Seb (((w.alloc (.cells #[.int .i64 p,.int .u64 q,.int .i64 C,.int .i64 R,.string s,.slice lo ln lc,.slice so sn sc,.slice po pn pc] 68)).alloc (.cells (wdcs fr nx (.slice ao n1 ac) (.slice bo n2 bc) (.slice co n3 cc) (.slice do' n4 dc)) 35)).alloc (.cells (wdcs 0 0 (.slice none 0 0) (.slice none 0 0) (.slice none 0 0) (.slice none 0 0)) 35)) w.heap.size ⟨⟨p,q,C,R,s,.slice lo ln lc⟩,.slice so sn sc,.slice po pn pc,.slice xo n xcp⟩):=hid ((s0.still A1).still A2)
  have HW0:Hid (Wdb (((w.alloc (.cells #[.int .i64 p,.int .u64 q,.int .i64 C,.int .i64 R,.string s,.slice lo ln lc,.slice so sn sc,.slice po pn pc] 68)).alloc (.cells (wdcs fr nx (.slice ao n1 ac) (.slice bo n2 bc) (.slice co n3 cc) (.slice do' n4 dc)) 35)).alloc (.cells (wdcs 0 0 (.slice none 0 0) (.slice none 0 0) (.slice none 0 0) (.slice none 0 0)) 35)) (w.heap.size+1) fr nx (.slice ao n1 ac) (.slice bo n2 bc) (.slice co n3 cc) (.slice do' n4 dc)):=hid (w0.still A2)
  have HZ0:Hid (Wdb (((w.alloc (.cells #[.int .i64 p,.int .u64 q,.int .i64 C,.int .i64 R,.string s,.slice lo ln lc,.slice so sn sc,.slice po pn pc] 68)).alloc (.cells (wdcs fr nx (.slice ao n1 ac) (.slice bo n2 bc) (.slice co n3 cc) (.slice do' n4 dc)) 35)).alloc (.cells (wdcs 0 0 (.slice none 0 0) (.slice none 0 0) (.slice none 0 0) (.slice none 0 0)) 35)) (w.heap.size+1+1) 0 0 (.slice none 0 0) (.slice none 0 0) (.slice none 0 0) (.slice none 0 0)):=hid z0
  clear A0 A1 A2 s0 w0 z0
  obtain ⟨W0,eW0⟩:∃ X,(((w.alloc (.cells #[.int .i64 p,.int .u64 q,.int .i64 C,.int .i64 R,.string s,.slice lo ln lc,.slice so sn sc,.slice po pn pc] 68)).alloc (.cells (wdcs fr nx (.slice ao n1 ac) (.slice bo n2 bc) (.slice co n3 cc) (.slice do' n4 dc)) 35)).alloc (.cells (wdcs 0 0 (.slice none 0 0) (.slice none 0 0) (.slice none 0 0) (.slice none 0 0)) 35))=X:=⟨_,rfl⟩
  rw [eW0] at HS0 HQ0 HW0 HZ0
  go_enter Tryz.func18,Tryz.ntmps18
  go_upto_region 1 with fail
  clear eW0
  obtain ⟨c0,c1,c2,c3,c4,c5,c6,c7,cf⟩:=HQ0.out.cells
  obtain ⟨d0,d1,d2,d3,d4,d5,df⟩:=HW0.out.cells
  have HNN:=hid (show w.heap.size+1+1<W0.heap.size from block_lt HZ0.out)
  have k1:W0.heap.size≠w.heap.size:=by have:=HNN.out; omega
  have k2:W0.heap.size≠w.heap.size+1:=by have:=HNN.out; omega
  go_cut [8] (fun v8 wx=>∃ g,v8=.pointer (some ⟨g,0,none⟩)/\FmM w.heap.size wx g ⟨⟨p,q,C,R,s,.slice lo ln lc⟩,.slice so sn sc,.slice po pn pc,.slice xo n xcp⟩ ⟨W,[]⟩/\W0.heap.size<=g/\Still W0 wx)
  case first =>
    go_region_held3 (fun w'=>w'.cell? ⟨w.heap.size,0,none⟩=some (.int .i64 p)/\w'.cell? ⟨w.heap.size,1,none⟩=some (.int .u64 q)/\w'.cell? ⟨w.heap.size,2,none⟩=some (.int .i64 C)/\w'.cell? ⟨w.heap.size,3,none⟩=some (.int .i64 R)/\w'.cell? ⟨w.heap.size,4,none⟩=some (.string s)/\w'.cell? ⟨w.heap.size,5,none⟩=some (.slice lo ln lc)/\w'.cell? ⟨w.heap.size,6,none⟩=some (.slice so sn sc)/\w'.cell? ⟨w.heap.size,7,none⟩=some (.slice po pn pc)/\w'.cell? ⟨w.heap.size+1,0,none⟩=some (.int .i64 fr)/\w'.cell? ⟨w.heap.size+1,1,none⟩=some (.slice ao n1 ac)/\w'.cell? ⟨w.heap.size+1,2,none⟩=some (.slice bo n2 bc)/\w'.cell? ⟨w.heap.size+1,3,none⟩=some (.slice co n3 cc)/\w'.cell? ⟨w.heap.size+1,4,none⟩=some (.slice do' n4 dc)/\w'.cell? ⟨w.heap.size+1,5,none⟩=some (.int .i64 nx)) (go_keep)
      (first
        | (go_at_call 37
           refine (HAp.out _ (by repeat (first | exact HS0.out | refine Fr.drew ?_ | refine Fr.alloc ?_ _))).mono ?_
           rintro e x1 ⟨xa,ya,xb,yb,xc,yc,xd,yd,rfl,o1,o2,o3,o4,g1⟩
           have HX1:Hid (Still W0 x1):=hid (by
             refine Still.trans ?_ g1
             repeat (first | exact Fr.refl _ _ | refine Fr.drew ?_ | refine Fr.alloc ?_ _))
           obtain ⟨y0,y1,y2,y3,y4,y5,y6,y7,yf⟩:=(HQ0.out.still HX1.out).cells
           obtain ⟨t0,t1,t2,t3,t4,t5,tf⟩:=(HW0.out.still HX1.out).cells
           have HO1:=hid o1
           have HO2:=hid o2
           have HO3:=hid o3
           have HO4:=hid o4
           have m1:x1.heap.size≠w.heap.size:=by have:=HNN.out; have:=HX1.out.size; omega
           have m2:x1.heap.size≠w.heap.size+1:=by have:=HNN.out; have:=HX1.out.size; omega
           try (have z1:x1.heap[W0.heap.size]?=some (.cells #[.int .i64 0,.int .u64 0,.int .i64 0,.int .i64 0,.string ByteArray.empty,.slice none 0 0,.slice none 0 0,.slice none 0 0,.int .i64 0,.slice none 0 0,.slice none 0 0,.slice none 0 0,.slice none 0 0,.int .i64 0,.slice none 0 0,.slice none 0 0] 95 (0,0)):=Fr.kept_still (Still.undrew g1) (heap_alloc_new W0 _); have u0:=Fmk.cells (S:=⟨⟨0,0,0,0,ByteArray.empty,.slice none 0 0⟩,.slice none 0 0,.slice none 0 0,.slice none 0 0⟩) (show Fmk x1 W0.heap.size _ 0 0 (.slice none 0 0) (.slice none 0 0) (.slice none 0 0) (.slice none 0 0) (.slice none 0 0) from z1); obtain ⟨u0,u1,u2,u3,u4,u5,u6,u7,u8,u9,u10,u11,u12,u13,u14,u15,uf⟩:=u0; dsimp only at u0 u1 u2 u3 u4 u5 u6 u7 u14)
           clear o1 o2 o3 o4))
    · go_wp2_with fail
      go_meet
      have hA:=Still.alloc x1 (.cells #[.int .i64 p,.int .u64 q,.int .i64 C,.int .i64 R,.string s,.slice lo ln lc,.slice so sn sc,.slice po pn pc,.int .i64 fr,.slice xa n1 ya,.slice xb n2 yb,.slice xc n3 yc,.slice xd n4 yd,.int .i64 nx,.slice xo n xcp,.slice none 0 0] 95)
      refine ⟨x1.heap.size,rfl,⟨.slice xa n1 ya,.slice xb n2 yb,.slice xc n3 yc,.slice xd n4 yd,.slice none 0 0,by have:=HNN.out; have:=HX1.out.size; omega, ?_,HO1.out.still hA,HO2.out.still hA,HO3.out.still hA,HO4.out.still hA,OwG.nil _ _⟩,HX1.out.size,HX1.out.trans hA⟩
      show Fmk _ _ _ W.fr W.nx _ _ _ _ _
      rw [EQ.out.1,EQ.out.2.1]
      exact heap_alloc_new x1 _
    · go_wp2_with fail
      go_meet
      have hT:=fm_frT (w:=x1) (g:=W0.heap.size) (B:=w.heap.size) ⟨_,z1⟩ (by have:=HNN.out; omega) (.int .i64 p) (.int .u64 q) (.int .i64 C) (.int .i64 R) (.string s) (.slice lo ln lc) (.slice so sn sc) (.slice po pn pc) (.int .i64 fr) (.slice xa n1 ya) (.slice xb n2 yb) (.slice xc n3 yc) (.slice xd n4 yd) (.int .i64 nx) (.slice xo n xcp) (.slice none 0 0)
      have hU:=fm_frT (w:=x1) (g:=W0.heap.size) (B:=W0.heap.size) ⟨_,z1⟩ (Nat.le_refl _) (.int .i64 p) (.int .u64 q) (.int .i64 C) (.int .i64 R) (.string s) (.slice lo ln lc) (.slice so sn sc) (.slice po pn pc) (.int .i64 fr) (.slice xa n1 ya) (.slice xb n2 yb) (.slice xc n3 yc) (.slice xd n4 yd) (.int .i64 nx) (.slice xo n xcp) (.slice none 0 0)
      refine ⟨W0.heap.size,rfl,⟨.slice xa n1 ya,.slice xb n2 yb,.slice xc n3 yc,.slice xd n4 yd,.slice none 0 0,by have:=HNN.out; omega, ?_,HO1.out.keepT hT (by decide),HO2.out.keepT hT (by decide),HO3.out.keepT hT (by decide),HO4.out.keepT hT (by decide),OwG.nil _ _⟩,Nat.le_refl _,hU.old HX1.out (Nat.le_refl _)⟩
      show Fmk _ _ _ W.fr W.nx _ _ _ _ _
      rw [EQ.out.1,EQ.out.2.1]
      exact fm_put z1 p q C R s _ _ _ fr _ _ _ _ nx _ _
  case rest =>
    obtain ⟨g,rfl,hfm,hge,hs⟩:=hcut
    have HS1:=hid (HS0.out.trans hs)
    have HM1:=hid hfm
    have HZ1:=hid (HZ0.out.still hs)
    have HGE:=hid (show w.heap.size+1+1<g by have:=HNN.out; omega)
    clear c0 c1 c2 c3 c4 c5 c6 c7 cf d0 d1 d2 d3 d4 d5 df hfm hge hs HS0 HQ0 HW0 HZ0 HAp HNN k1 k2 HV
    go_wp2_with fail
    refine (phases_any _).mono ?_
    rintro e w2 ⟨b,rfl,hb,hs2⟩
    have HB:=hid hb
    have HM2:=hid (HM1.out.still hs2)
    have HS2:=hid (HS1.out.trans hs2)
    have HZ2:=hid (HZ1.out.still hs2)
    clear hb hs2 HM1 HS1 HZ1
    go_wp2_with fail
    go_loopw [18] (fun u wr=>∃ i:Nat,i<=8/\u=.int .i64 (i:Int)/\FmM w.heap.size wr g ⟨⟨p,q,C,R,s,.slice lo ln lc⟩,.slice so sn sc,.slice po pn pc,.slice xo n xcp⟩ (phG E l ⟨W,[]⟩ i)/\FrT w.heap.size [95,48,50,52,54,44] w2 wr) (fun u _=>8 - (intOf u).toNat)
    case atStart=>exact ⟨0,by omega,rfl,HM2.out,FrT.refl _ _ _⟩
    case round =>
      obtain ⟨i,hi,rfl,hg,hf⟩:=hrel
      have HSr:=hid (hf.old HS2.out (Nat.le_refl _))
      have hB:=hf.kept HB.out (by decide)
      have HF2:=hid hf
      by_cases hin:i<8
      · have HP:=hid (HPh.out wr HSr.out g i hin hg)
        have p0:wr.cell? ⟨b,0,none⟩=some (.func (.func 61) #[] #[]):=by rw [cell_of_row _ _ _ _ _ _ hB]; rfl
        have p1:wr.cell? ⟨b,1,none⟩=some (.func (.func 62) #[] #[]):=by rw [cell_of_row _ _ _ _ _ _ hB]; rfl
        have p2:wr.cell? ⟨b,2,none⟩=some (.func (.func 63) #[] #[]):=by rw [cell_of_row _ _ _ _ _ _ hB]; rfl
        have p3:wr.cell? ⟨b,3,none⟩=some (.func (.func 64) #[] #[]):=by rw [cell_of_row _ _ _ _ _ _ hB]; rfl
        have p4:wr.cell? ⟨b,4,none⟩=some (.func (.func 65) #[] #[]):=by rw [cell_of_row _ _ _ _ _ _ hB]; rfl
        have p5:wr.cell? ⟨b,5,none⟩=some (.func (.func 66) #[] #[]):=by rw [cell_of_row _ _ _ _ _ _ hB]; rfl
        have p6:wr.cell? ⟨b,6,none⟩=some (.func (.func 67) #[] #[]):=by rw [cell_of_row _ _ _ _ _ _ hB]; rfl
        have p7:wr.cell? ⟨b,7,none⟩=some (.func (.func 68) #[] #[]):=by rw [cell_of_row _ _ _ _ _ _ hB]; rfl
        clear hB hg hf hi HM2
        obtain rfl | rfl | rfl | rfl | rfl | rfl | rfl | rfl:i=0\/i=1\/i=2\/i=3\/i=4\/i=5\/i=6\/i=7:=by omega
        all_goals clear hin
        all_goals (
          go_wp2_with fail
          refine HP.out.mono ?_
          rintro e w3 ⟨⟨v3,rfl⟩,hg3,hf3⟩
          have HG3:=hid hg3
          have HF3:=hid (HF2.out.trans hf3)
          clear hg3 hf3
          go_wp2_with fail
          go_roundw
          case rel=>exact ⟨_,by omega,by first | rfl | go_num,HG3.out,HF3.out⟩
          case measure=>first | (simp [intOf]; done) | (simp [intOf]; omega))
      · obtain rfl:i=8:=by omega
        have f8:(phG E l ⟨W,[]⟩ 8).w.fr=fr:=(phG_fr E l ⟨W,[]⟩ 8).trans EQ.out.1
        have HFe:=hid (phG_frame E W l)
        obtain ⟨G8,eG8⟩:∃ G,phG E l ⟨W,[]⟩ 8=G:=⟨_,rfl⟩
        rw [eG8] at hg f8 HFe
        clear eG8
        obtain ⟨va,vb,vc,vd,ve,hx⟩:=hg
        obtain ⟨xa,ya,rfl,_⟩:=hx.o1.slice
        obtain ⟨xb,yb,rfl,_⟩:=hx.o2.slice
        obtain ⟨xc,yc,rfl,_⟩:=hx.o3.slice
        obtain ⟨xd,yd,rfl,_⟩:=hx.o4.slice
        obtain ⟨xe,ye,rfl,_⟩:=hx.o5.slice
        obtain ⟨m1,em1⟩:∃ m,G8.w.ms.length=m:=⟨_,rfl⟩
        obtain ⟨m2,em2⟩:∃ m,G8.w.cs.length=m:=⟨_,rfl⟩
        obtain ⟨m3,em3⟩:∃ m,G8.w.hs.length=m:=⟨_,rfl⟩
        obtain ⟨m4,em4⟩:∃ m,G8.w.ks.length=m:=⟨_,rfl⟩
        obtain ⟨m5,em5⟩:∃ m,G8.ns.length=m:=⟨_,rfl⟩
        obtain ⟨nx8,en8⟩:∃ m,G8.w.nx=m:=⟨_,rfl⟩
        rw [em1,em2,em3,em4,em5] at hx
        clear em1 em2 em3 em4 em5
        obtain ⟨c0,c1,c2,c3,c4,c5,c6,c7,c8,c9,c10,c11,c12,c13,c14,c15,cf⟩:=hx.k.cells
        rw [f8] at c8
        rw [en8] at c13
        dsimp only at c0 c1 c2 c3 c4 c5 c6 c7 c14
        have HN8:=hid en8
        have hfa:0<=fr:=by have:=HF.out.1; rw [EQ.out.1] at this; exact this
        have hfb:fr<1099511627776:=by have:=HF.out.2; rw [EQ.out.1] at this; exact this
        have HX2:=hid (hx.setF (fr+1))
        have HTy:=hid hx.k.ty
        have HZr:=hid (hf.kept HZ2.out (by decide))
        have ng:g≠w.heap.size+1+1:=by have:=HGE.out; omega
        have ng':w.heap.size+1+1≠g:=by have:=HGE.out; omega
        have HZ3:Hid (Wdb (wr.setCell ⟨g,8,none⟩ (.int .i64 (fr+1))) (w.heap.size+1+1) 0 0 (.slice none 0 0) (.slice none 0 0) (.slice none 0 0) (.slice none 0 0)):=hid (Wdb.other (show Wdb wr (w.heap.size+1+1) 0 0 (.slice none 0 0) (.slice none 0 0) (.slice none 0 0) (.slice none 0 0) from HZr.out) ng')
        have HS3:Hid (Still w (wr.setCell ⟨g,8,none⟩ (.int .i64 (fr+1)))):=hid (Fr.setCell HSr.out _ _ (.inr (by have:=HGE.out; show w.heap.size<=g; omega)))
        obtain ⟨W5,eW5⟩:∃ X,wr.setCell ⟨g,8,none⟩ (.int .i64 (fr+1))=X:=⟨_,rfl⟩
        rw [eW5] at HX2 HZ3 HS3
        clear hin hi HM2 hB hx hf f8 en8 HZ2
        go_upto_region 8 with fail
        clear eW5 c0 c1 c2 c3 c4 c5 c6 c7 c8 c9 c10 c11 c12 c13 c14 c15 cf
        obtain ⟨c0,c1,c2,c3,c4,c5,c6,c7,c8,c9,c10,c11,c12,c13,c14,c15,cf⟩:=HX2.out.k.cells
        dsimp only at c0 c1 c2 c3 c4 c5 c6 c7 c8 c13 c14
        rw [HN8.out] at c13
        obtain ⟨z0,z1,z2,z3,z4,z5,zf⟩:=HZ3.out.cells
        go_region
        go_wp2_with fail
        have hx:=HX2.out
        obtain ⟨f1,f2,f3⟩:=fin6 HZ3.out HS3.out (by omega) (fr+1) nx8 (.slice xa m1 ya) (.slice xb m2 yb) (.slice xc m3 yc) (.slice xd m4 yd)
        refine bodyPost_ret (Wdb.res2 f1 rfl _ _ rfl rfl) rfl ⟨f2,_,_,rfl, ?_, ?_⟩
        · rw [HFe.out,EQ.out.1]
          exact ⟨_,_,_,_,by rw [HN8.out],f3 hx.o1 (by decide),f3 hx.o2 (by decide),f3 hx.o3 (by decide),f3 hx.o4 (by decide)⟩
        · rw [HFe.out]
          exact f3 hx.o5 (by decide)
end Go.Proofs.YtlibdheihodniaaGreatDoor
