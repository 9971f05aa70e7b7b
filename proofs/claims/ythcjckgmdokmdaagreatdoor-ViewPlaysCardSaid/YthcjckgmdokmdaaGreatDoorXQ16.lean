import Derived.Test.YthcjckgmdokmdaaGreatDoorXQ14
import Derived.Test.YthcjckgmdokmdaaGreatDoorXQ15
set_option maxHeartbeats 8000000
namespace Go.Proofs.YthcjckgmdokmdaaGreatDoor
open Go.RowKit
open Pu Gp Ap Vp Np Za Ka Ja Ea Ha Hg Hi
set_option maxRecDepth 100000
def Ih (w w':World) (p q C R:Int) (s:ByteArray) (lg:Value) (st sp:List (Int × Int)) (e:Ending):Prop :=
 Yc w w'/\(p<=(st.length:Int)->∃ ao ac bo bc,OwG KT 54 w' w.heap.size (.slice ao st.length ac) st/\OwG KT 54 w' w.heap.size (.slice bo sp.length bc) sp/\e=.returned (.tuple #[.agg #[.int .i64 p,.int .u64 q,.int .i64 C,.int .i64 R,.string s,lg,.slice ao st.length ac,.slice bo sp.length bc],.int .i64 0])) /\
  (¬ p<=(st.length:Int)->e=.returned (.tuple #[.agg #[.int .i64 0,.int .u64 0,.int .i64 0,.int .i64 0,.string ByteArray.empty,.slice none 0 0,.slice none 0 0,.slice none 0 0],.int .i64 130]))
theorem OwG.set8 {α:Type} {K:Kd α} {e t:TypeId} {w:World} {B g:Nat} {v:Value} {L:List α} (h:OwG K e w B v L) (hg:Tyk w g t) (ht:e≠t) (v0 v1 v2 v3 v4 v5 v6 v7:Value):OwG K e ((((((((w.setCell ⟨g,0,none⟩ v0).setCell ⟨g,1,none⟩ v1).setCell ⟨g,2,none⟩ v2).setCell ⟨g,3,none⟩ v3).setCell ⟨g,4,none⟩ v4).setCell ⟨g,5,none⟩ v5).setCell ⟨g,6,none⟩ v6).setCell ⟨g,7,none⟩ v7) B v L :=
 ((h.set6 hg ht v0 v1 v2 v3 v4 v5).setO ((((((hg.set v0).set v1).set v2).set v3).set v4).set v5) ht v6).setO (((((((hg.set v0).set v1).set v2).set v3).set v4).set v5).set v6) ht v7
theorem Wn (p q C R : Int) (s : ByteArray) (st sp : List (Int × Int)) (l : List Int) (lo : Option Addr) (n cap : Nat) (w : World) (Q : Q13 w ⟨p, q, C, R, s, .slice lo n cap⟩ 0 st sp) (hr : RdI w lo n cap l) (h0 : 2 <= p /\ p <= 6) (hl : Vt l) :
    Calls Tryz.prog 40 #[.agg #[.int .i64 p,.int .u64 q,.int .i64 C,.int .i64 R,.string s,.slice lo n cap]] w fun e w'=>Ih w w' p q C R s (.slice lo n cap) st sp e:=by
  have A0:=aL w (.cells (cfc ⟨p,q,C,R,s,.slice lo n cap⟩) 27);have A1:=aL (w.alloc (.cells (cfc ⟨p,q,C,R,s,.slice lo n cap⟩) 27)) (.cells #[.int .i64 0,.int .u64 0,.int .i64 0,.int .i64 0,.string ByteArray.empty,.slice none 0 0,.slice none 0 0,.slice none 0 0] 101);have p0:=(Zs w ⟨p,q,C,R,s,.slice lo n cap⟩).sT A1;have q0:=heap_alloc_new (w.alloc (.cells (cfc ⟨p,q,C,R,s,.slice lo n cap⟩) 27)) (.cells #[.int .i64 0,.int .u64 0,.int .i64 0,.int .i64 0,.string ByteArray.empty,.slice none 0 0,.slice none 0 0,.slice none 0 0] 101);rw [Yf] at q0;have HZa:=hid q0;have HSa:=hid (A0.trans A1);have HPa:=hid p0;have HM:=hid (fun u (hu:Yc w u)=>We l lo n cap u (hr.sT hu));have HK:=hid (fun u (hu:Yc w u)=>Q.chk u hu);have HQs:=hid (fun u (hu:Yc w u)=>(Q.sts u hu).mono (fun e w' (h:∃ a,e=.returned a/\OwG KT 54 w' u.heap.size a st/\Yc u w')=>(show ∃ a,e=.returned a/\OwG KT 54 w' w.heap.size a st/\Yc u w' by obtain ⟨a,h1,h2,h3⟩:=h; exact ⟨a,h1,h2.less hu.size,h3⟩)));have HQp:=hid (fun u (hu:Yc w u)=>(Q.sps u hu).mono (fun e w' (h:∃ a,e=.returned a/\OwG KT 54 w' u.heap.size a sp/\Yc u w')=>(show ∃ a,e=.returned a/\OwG KT 54 w' w.heap.size a sp/\Yc u w' by obtain ⟨a,h1,h2,h3⟩:=h; exact ⟨a,h1,h2.less hu.size,h3⟩)));have HLg:=hid hl;obtain ⟨c0,c1,c2,c3,c4,c5,cf⟩:=HPa.o.cells;clear Q hr A0 A1 p0 q0 hl;have HW:=hid (fun u=>U8 p 2 6 u);rw [decide_eq_true h0] at HW;clear h0;obtain ⟨n1,en1⟩:∃ k,st.length=k:=⟨_,rfl⟩;obtain ⟨n2,en2⟩:∃ k,sp.length=k:=⟨_,rfl⟩;have HN:=hid (And.intro en1 en2);clear en1 en2;go_enter Tryz.func40,Tryz.ntmps40;go_wp2_with fail;refine (HW.o _).mono ?_;rintro e w1 ⟨he,hw⟩;rw [he,hw];clear he hw w1;go_wp2_with fail;refine (HM.o _ HSa.o).mono ?_;rintro e w2 ⟨⟨b2,rfl,hb2⟩,h2⟩;obtain rfl:b2=true:=hb2.2 HLg.o;have HS2:=hid (HSa.o.trans h2);have HP2:=hid (HPa.o.sT h2);have HZ2:=hid (h2.kept_still HZa.o);clear c0 c1 c2 c3 c4 c5 cf h2 hb2;obtain ⟨c0,c1,c2,c3,c4,c5,cf⟩:=HP2.o.cells;go_wp2_with fail;refine (HK.o _ HS2.o).mono ?_;rintro e w3 ⟨rfl,h3⟩;have HS3:=hid (HS2.o.trans h3);have HP3:=hid (HP2.o.sT h3);have HZ3:=hid (h3.kept_still HZ2.o);clear c0 c1 c2 c3 c4 c5 cf h3 HP2 HS2 HZ2;obtain ⟨c0,c1,c2,c3,c4,c5,cf⟩:=HP3.o.cells;go_upto_region 3 with fail;have nn:w.heap.size+1<w3.heap.size:=Yz HZ3.o;have HNN:=hid nn;have k1:w3.heap.size≠w.heap.size:=by omega
  have k2:w3.heap.size≠w.heap.size+1:=by omega
  clear nn;go_cut [4] (fun v4 wx=>∃ g ao ac bo bc,v4=.pointer (some ⟨g,0,none⟩)/\wx.heap[g]?=some (.cells #[.int .i64 p,.int .u64 q,.int .i64 C,.int .i64 R,.string s,.slice lo n cap,.slice ao n1 ac,.slice bo n2 bc] 101 (0,0))/\w3.heap.size<=g/\OwG KT 54 wx w.heap.size (.slice ao n1 ac) st/\OwG KT 54 wx w.heap.size (.slice bo n2 bc) sp/\Yc w3 wx)
  case first =>
    go_region_held3 (fun w'=>w'.cell? ⟨w.heap.size,0,none⟩=some (.int .i64 p)/\w'.cell? ⟨w.heap.size,1,none⟩=some (.int .u64 q)/\w'.cell? ⟨w.heap.size,2,none⟩=some (.int .i64 C)/\w'.cell? ⟨w.heap.size,3,none⟩=some (.int .i64 R)/\w'.cell? ⟨w.heap.size,4,none⟩=some (.string s)/\w'.cell? ⟨w.heap.size,5,none⟩=some (.slice lo n cap)) (go_keep)
      (first
        | (go_at_call 90
           refine (HQs.o _ (by repeat (first | exact HS3.o | refine Fr.drew ?_ | refine Fr.alloc ?_ _))).mono ?_;rintro e x1 ⟨v1,rfl,o1,g1⟩;obtain ⟨ao,ac,hv,_⟩:=o1.slice;rw [HN.o.1] at hv;subst hv;have HX1:Hid (Yc w3 x1):=hid (by
             refine Yc.trans ?_ g1;repeat (first | exact Fr.refl _ _ | refine Fr.drew ?_ | refine Fr.alloc ?_ _))
           obtain ⟨d0,d1,d2,d3,d4,d5,df⟩:=(HP3.o.sT HX1.o).cells;have HO1:=hid o1;have m1:x1.heap.size≠w.heap.size:=by have:=HNN.o; have:=HX1.o.size; omega
           try (have z1:x1.heap[w3.heap.size]?=some (.cells #[.int .i64 0,.int .u64 0,.int .i64 0,.int .i64 0,.string ByteArray.empty,.slice none 0 0,.slice none 0 0,.slice none 0 0] 101 (0,0)):=Fr.kept_still (Yc.undrew g1) (heap_alloc_new w3 _); obtain ⟨u0,u1,u2,u3,u4,u5,u6,u7,uf⟩:=Uj z1)
           clear o1)
        | (go_at_call 43
           refine (HQp.o _ (by repeat (first | exact Yc.trans HS3.o HX1.o | refine Fr.drew ?_ | refine Fr.alloc ?_ _))).mono ?_;rintro e x2 ⟨v2,rfl,o2,g2⟩;obtain ⟨bo,bc,hv,_⟩:=o2.slice;rw [HN.o.2] at hv;subst hv;have HX2:Hid (Yc x1 x2):=hid (by
             refine Yc.trans ?_ g2;repeat (first | exact Fr.refl _ _ | refine Fr.drew ?_ | refine Fr.alloc ?_ _))
           have HO2:=hid (HO1.o.sT HX2.o);have HO3:=hid o2;obtain ⟨y0,y1,y2,y3,y4,y5,yf⟩:=(HP3.o.sT (HX1.o.trans HX2.o)).cells;have m2:x2.heap.size≠w.heap.size:=by have:=HNN.o; have:=HX2.o.size; have:=HX1.o.size; omega
           try (have z2:x2.heap[w3.heap.size]?=some (.cells #[.int .i64 0,.int .u64 0,.int .i64 0,.int .i64 0,.string ByteArray.empty,.slice none 0 0,.slice none 0 0,.slice none 0 0] 101 (0,0)):=HX2.o.kept_still z1; obtain ⟨v0,v1,v2,v3,v4,v5,v6,v7,vf⟩:=Uj z2)
           try (have z3:x2.heap[x1.heap.size]?=some (.cells #[.int .i64 0,.int .u64 0,.int .i64 0,.int .i64 0,.string ByteArray.empty,.slice none 0 0,.slice none 0 0,.slice none 0 0] 101 (0,0)):=g2.kept_still (heap_alloc_new x1 _); obtain ⟨t0,t1,t2,t3,t4,t5,t6,t7,tf⟩:=Uj z3)
           clear o2))
    · go_wp2_with fail
      go_meet
      have hA:=aL x2 (.cells #[.int .i64 p,.int .u64 q,.int .i64 C,.int .i64 R,.string s,.slice lo n cap,.slice ao n1 ac,.slice bo n2 bc] 101);exact ⟨x2.heap.size,ao,ac,bo,bc,rfl,heap_alloc_new x2 _,by have:=HX2.o.size; have:=HX1.o.size; omega,HO2.o.sT hA,HO3.o.sT hA,(HX1.o.trans HX2.o).trans hA⟩
    · go_wp2_with fail
      go_meet
      exact ⟨x1.heap.size,ao,ac,bo,bc,rfl,UD z3,HX1.o.size,HO2.o.set8 ⟨_,z3⟩ (by decide) _ _ _ _ _ _ _ _,HO3.o.set8 ⟨_,z3⟩ (by decide) _ _ _ _ _ _ _ _,UE (HX1.o.trans HX2.o) HX1.o.size _ _ _ _ _ _ _ _⟩
    · go_wp2_with fail
      go_meet
      exact ⟨w3.heap.size,ao,ac,bo,bc,rfl,UD z2,Nat.le_refl _,HO2.o.set8 ⟨_,z2⟩ (by decide) _ _ _ _ _ _ _ _,HO3.o.set8 ⟨_,z2⟩ (by decide) _ _ _ _ _ _ _ _,UE (HX1.o.trans HX2.o) (Nat.le_refl _) _ _ _ _ _ _ _ _⟩
  case rest =>
    obtain ⟨g,ao,ac,bo,bc,rfl,hg,hge,ho1,ho2,hs⟩:=hcut;have HG:=hid hg;have HO1:=hid ho1;have HO2:=hid ho2;have HS4:=hid (HS3.o.trans hs);have HP4:=hid (HP3.o.sT hs);have HZ4:=hid (hs.kept_still HZ3.o);clear c0 c1 c2 c3 c4 c5 cf ho1 ho2 hs HP3 HS3 HZ3;obtain ⟨c0,c1,c2,c3,c4,c5,cf⟩:=HP4.o.cells;obtain ⟨d0,d1,d2,d3,d4,d5,d6,d7,df⟩:=Uj hg;obtain ⟨y0,y1,y2,y3,y4,y5,y6,y7,yf⟩:=Uj HZ4.o;clear hg;by_cases hp:(n1:Int)<p
    · go_wp2_with fail
      refine bodyPost_ret (Jq (UD HZ4.o) rfl _ _ rfl rfl) rfl ⟨UE HS4.o (by omega) _ _ _ _ _ _ _ _,fun h=>?_,fun _=>rfl⟩;exfalso;have:=HN.o.1;omega
    · go_wp2_with fail
      refine bodyPost_ret (Jq (UD HZ4.o) rfl _ _ rfl rfl) rfl ⟨UE HS4.o (by omega) _ _ _ _ _ _ _ _,fun _=>?_,fun h=>?_⟩
      · obtain ⟨e1,e2⟩:=HN.o
        subst e1 e2;exact ⟨ao,ac,bo,bc,HO1.o.set8 ⟨_,HZ4.o⟩ (by decide) _ _ _ _ _ _ _ _,HO2.o.set8 ⟨_,HZ4.o⟩ (by decide) _ _ _ _ _ _ _ _,rfl⟩
      · exfalso
        have:=HN.o.1;omega
theorem Wdb.res2 {fn:Func} {p r:Tmp} {w:World} {g:Nat} {fr nx:Int} {ao bo co so:Option Addr} {n1 n2 n3 n4 c1 c2 c3 c4:Nat} (hb:Wdb w g fr nx (.slice ao n1 c1) (.slice bo n2 c2) (.slice co n3 c3) (.slice so n4 c4)) (h:fn.results=#[.cell p 33,.tmp r]) (tmps:Array Value) (t:Value) (hp:tmps.getD p undef=.pointer (some ⟨g,0,none⟩)) (ht:tmps.getD r undef=t) :
  (results fn tmps).run Tryz.prog w=.ok (.tuple #[.agg (Yd fr nx (.slice ao n1 c1) (.slice bo n2 c2) (.slice co n3 c3) (.slice so n4 c4)),t]) w:=by
 have hp':tmps[p]?.getD undef=.pointer (some ⟨g,0,none⟩):=by simpa using hp
 have ht':tmps[r]?.getD undef=t:=by simpa using ht
 simp [results,h,hp',ht',asAddr,hb.load]
theorem Ii {w W5:World} {k:Nat} {f0 x0:Int} {a0 b0 c0 d0:Value} (hz:Wdb W5 k f0 x0 a0 b0 c0 d0) (hs:Yc w W5) (hk:w.heap.size<=k) (fr nx:Int) (a b c d:Value):Wdb ((((((W5.setCell ⟨k,0,none⟩ (.int .i64 fr)).setCell ⟨k,1,none⟩ a).setCell ⟨k,2,none⟩ b).setCell ⟨k,3,none⟩ c).setCell ⟨k,4,none⟩ d).setCell ⟨k,5,none⟩ (.int .i64 nx)).drew k fr nx a b c d/\Yc w ((((((W5.setCell ⟨k,0,none⟩ (.int .i64 fr)).setCell ⟨k,1,none⟩ a).setCell ⟨k,2,none⟩ b).setCell ⟨k,3,none⟩ c).setCell ⟨k,4,none⟩ d).setCell ⟨k,5,none⟩ (.int .i64 nx)).drew/\∀ {α:Type} {K:Kd α} {e:TypeId} {B:Nat} {v:Value} {L:List α},OwG K e W5 B v L->e≠33->OwG K e ((((((W5.setCell ⟨k,0,none⟩ (.int .i64 fr)).setCell ⟨k,1,none⟩ a).setCell ⟨k,2,none⟩ b).setCell ⟨k,3,none⟩ c).setCell ⟨k,4,none⟩ d).setCell ⟨k,5,none⟩ (.int .i64 nx)).drew B v L :=
 ⟨(hz.put fr nx a b c d).sT ((Fr.refl _ _).drew),(Vx hs hk _ _ _ _ _ _).drew,fun h ht=>(h.set6 hz.ty ht _ _ _ _ _ _).sT ((Fr.refl _ _).drew)⟩
end Go.Proofs.YthcjckgmdokmdaaGreatDoor
