/- Parts of the proof, laid end to end. -/
import Derived.Test.YtlibdheihodniaaGreatDoorYF06
import Derived.Test.YtlibdheihodniaaGreatDoorYF07
import Derived.Test.YtlibdheihodniaaGreatDoorYF08
import Derived.Test.YtlibdheihodniaaGreatDoorYF09
import Derived.Test.YtlibdheihodniaaGreatDoorYF01
import Derived.Test.YtlibdheihodniaaGreatDoorYF02
import Derived.Test.YtlibdheihodniaaGreatDoorYF03
import Derived.Test.YtlibdheihodniaaGreatDoorYF04
set_option maxHeartbeats 8000000
namespace Go.Proofs.YtlibdheihodniaaGreatDoor
open Go.RowKit
open Pu Gp Ap Vp Np Za Ka Ja Ea Ha
set_option maxRecDepth 100000
def KQ:Kd Pk:=⟨fun p=>[.int .i64 p.no,.int .i64 p.sp,.int .i64 p.kd],3,zK,fun _=>rfl,fun m u hu=>by
 simp at hu
 rcases hu with rfl | rfl | rfl <;> rfl,by decide⟩
theorem rdQ {w:World} {B o n:Nat} {L:List Pk} (h:RdG KQ w (some ⟨B,o,none⟩) n L) {i:Nat} (hi:i<n):w.cell? ⟨B,o+i*3,none⟩=some (.int .i64 (pk L i).no)/\w.cell? ⟨B,o+i*3+1,none⟩=some (.int .i64 (pk L i).sp)/\w.cell? ⟨B,o+i*3+2,none⟩=some (.int .i64 (pk L i).kd) :=
 ⟨h.get hi 0 _ rfl,h.get hi 1 _ rfl,h.get hi 2 _ rfl⟩
theorem rdK_ofQ {w:World} {ao:Option Addr} {n:Nat} {L:List Pk} (h:RdG KQ w ao n L):RdK w ao n L:=by
 refine ⟨h.1,h.2.1, ?_⟩
 rcases h.2.2 with h0 | ⟨B,o,e,hc⟩
 ·exact .inl h0
 ·exact .inr ⟨B,o,e,fun i hi=>⟨hc i hi 0 _ rfl,hc i hi 1 _ rfl,hc i hi 2 _ rfl⟩⟩
theorem neq_sv_f (s:Sh) (w:World):(binOp .neq 52 (sv s) (sv s)).run Tryz.prog w=.ok (.bool false) w:=by
 have h:=eql_sv_t s w
 rw [run_eql_struct] at h
 rw [run_neq_struct]
 revert h
 generalize (Op.equalIn 10000 52 (sv s) (sv s)).run Tryz.prog w=r
 intro h
 cases r with
 | ok b w' =>
  simp [Result.andThen] at h ⊢
  obtain ⟨h1,h2⟩:=h
  subst h1 h2
  exact ⟨rfl,rfl⟩
 | _=>simp [Result.andThen] at h
abbrev wdcs (fr nx:Int) (a b c d:Value):Array Value:=#[.int .i64 fr,a,b,c,d,.int .i64 nx]
def Wdb (w:World) (g:Nat) (fr nx:Int) (a b c d:Value):Prop:=w.heap[g]?=some (.cells (wdcs fr nx a b c d) 35 (0,0))
theorem Wdb.still {w w':World} {g:Nat} {fr nx:Int} {a b c d:Value} (h:Wdb w g fr nx a b c d) (hs:Still w w'):Wdb w' g fr nx a b c d:=hs.kept_still h
theorem Wdb.cells {w:World} {g:Nat} {fr nx:Int} {a b c d:Value} (h:Wdb w g fr nx a b c d):w.cell? ⟨g,0,none⟩=some (.int .i64 fr)/\w.cell? ⟨g,1,none⟩=some a/\w.cell? ⟨g,2,none⟩=some b/\w.cell? ⟨g,3,none⟩=some c/\w.cell? ⟨g,4,none⟩=some d/\w.cell? ⟨g,5,none⟩=some (.int .i64 nx)/\∀ o,w.frozen? ⟨g,o,none⟩=false:=by
 refine ⟨?_, ?_, ?_, ?_, ?_, ?_,fun o=>frozen_of_row w g o _ _ h⟩ <;> (rw [cell_of_row _ _ _ _ _ _ h]; rfl)
abbrev newWd (w:World) (fr nx:Int) (a b c d:Value):World:=w.alloc (.cells (wdcs fr nx a b c d) 35)
theorem newWd_wb (w:World) (fr nx:Int) (a b c d:Value):Wdb (newWd w fr nx a b c d) w.heap.size fr nx a b c d:=heap_alloc_new w _
def Sl {α:Type} (K:Kd α) (w:World) (v:Value) (L:List α):Prop:=∃ ao cap,v=.slice ao L.length cap/\L.length<=cap/\(ao=none->cap=0)/\RdG K w ao L.length L
theorem Sl.still {α:Type} {K:Kd α} {w w':World} {v:Value} {L:List α} (h:Sl K w v L) (hs:Still w w'):Sl K w' v L:=by
 obtain ⟨ao,cap,e,h1,h2,h3⟩:=h
 exact ⟨ao,cap,e,h1,h2,h3.still hs⟩
def RdW (w:World) (v:Value) (W:Wd):Prop:=∃ a b c d,v=.agg (wdcs W.fr W.nx a b c d)/\Sl KM w a W.ms/\Sl KC w b W.cs/\Sl KS w c W.hs/\Sl KQ w d W.ks
theorem RdW.still {w w':World} {v:Value} {W:Wd} (h:RdW w v W) (hs:Still w w'):RdW w' v W:=by
 obtain ⟨a,b,c,d,e,h1,h2,h3,h4⟩:=h
 exact ⟨a,b,c,d,e,h1.still hs,h2.still hs,h3.still hs,h4.still hs⟩
theorem rsame_any (W:Wd) (v u:Value) (w:World) (hv:RdW w v W) (hu:RdW w u W):Calls Tryz.prog 10 #[v,u] w fun e w'=>e=.returned (.bool true)/\Still w w':=by
 obtain ⟨_,_,_,_,rfl,⟨ao0,ca0,rfl,_,_,ra0⟩,⟨bo0,cb0,rfl,_,_,rb0⟩,⟨co0,cc0,rfl,_,_,rc0⟩,⟨do0,cd0,rfl,_,_,rd0⟩⟩:=hv
 obtain ⟨_,_,_,_,rfl,⟨ao1,ca1,rfl,_,_,ra1⟩,⟨bo1,cb1,rfl,_,_,rb1⟩,⟨co1,cc1,rfl,_,_,rc1⟩,⟨do1,cd1,rfl,_,_,rd1⟩⟩:=hu
 obtain ⟨n1,e1⟩:∃ n,W.ms.length=n:=⟨_,rfl⟩
 obtain ⟨n2,e2⟩:∃ n,W.cs.length=n:=⟨_,rfl⟩
 obtain ⟨n3,e3⟩:∃ n,W.hs.length=n:=⟨_,rfl⟩
 obtain ⟨n4,e4⟩:∃ n,W.ks.length=n:=⟨_,rfl⟩
 rw [e1] at ra0 ra1 ⊢
 rw [e2] at rb0 rb1 ⊢
 rw [e3] at rc0 rc1 ⊢
 rw [e4] at rd0 rd1 ⊢
 have h1m:=ra0.2.1
 have h2m:=rb0.2.1
 have h3m:=rc0.2.1
 have h4m:=rd0.2.1
 obtain ⟨fr,efr⟩:∃ x,W.fr=x:=⟨_,rfl⟩
 obtain ⟨nx,enx⟩:∃ x,W.nx=x:=⟨_,rfl⟩
 rw [efr,enx]
 have HR:=hid (And.intro (And.intro ra0 ra1) (And.intro (And.intro rb0 rb1) (And.intro (And.intro rc0 rc1) (And.intro rd0 rd1))))
 have A0:=Still.alloc w (.cells (wdcs fr nx (.slice ao0 n1 ca0) (.slice bo0 n2 cb0) (.slice co0 n3 cc0) (.slice do0 n4 cd0)) 35)
 have A1:=Still.alloc (newWd w fr nx (.slice ao0 n1 ca0) (.slice bo0 n2 cb0) (.slice co0 n3 cc0) (.slice do0 n4 cd0)) (.cells (wdcs fr nx (.slice ao1 n1 ca1) (.slice bo1 n2 cb1) (.slice co1 n3 cc1) (.slice do1 n4 cd1)) 35)
 have p0:=(newWd_wb w fr nx (.slice ao0 n1 ca0) (.slice bo0 n2 cb0) (.slice co0 n3 cc0) (.slice do0 n4 cd0)).still A1
 have q0:=newWd_wb (newWd w fr nx (.slice ao0 n1 ca0) (.slice bo0 n2 cb0) (.slice co0 n3 cc0) (.slice do0 n4 cd0)) fr nx (.slice ao1 n1 ca1) (.slice bo1 n2 cb1) (.slice co1 n3 cc1) (.slice do1 n4 cd1)
 simp only [size_alloc] at q0
 have HP:=hid p0
 have HQ:=hid q0
 have HS0:=hid (A0.trans A1)
 have G1:=guard_mv
 have G2:=guard_cv
 have G3:=guard_sv
 have G4:=guard_kv
 obtain ⟨c0,c1,c2,c3,c4,c5,cf⟩:=p0.cells
 obtain ⟨d0,d1,d2,d3,d4,d5,df⟩:=q0.cells
 clear ra0 ra1 rb0 rb1 rc0 rc1 rd0 rd1 e1 e2 e3 e4 efr enx A0 A1 p0 q0
 go_enter Tryz.func10,Tryz.ntmps10
 go_wp2_with fail
 clear c0 c1 c2 c3 c4 c5 cf d0 d1 d2 d3 d4 d5 df
 obtain ⟨V,eV⟩:∃ V,V=(newWd w fr nx (.slice ao0 n1 ca0) (.slice bo0 n2 cb0) (.slice co0 n3 cc0) (.slice do0 n4 cd0)).alloc (.cells (wdcs fr nx (.slice ao1 n1 ca1) (.slice bo1 n2 cb1) (.slice co1 n3 cc1) (.slice do1 n4 cd1)) 35):=⟨_,rfl⟩
 simp only [newWd,wdcs] at eV
 (try simp only [newWd,wdcs] at HP)
 (try simp only [newWd,wdcs] at HQ)
 (try simp only [newWd,wdcs] at HS0)
 rw [<- eV] at HP HQ HS0 ⊢
 clear eV
 go_loopw [5] (fun u wr=>∃ i:Nat,i<=n1/\u=.int .i64 (i:Int)/\Still V wr) (fun u _=>n1 - (intOf u).toNat)
 case atStart=>exact ⟨0,by omega,rfl,Fr.refl _ _⟩
 case round =>
  obtain ⟨i0,hi,rfl,hs⟩:=hrel
  obtain ⟨c0,c1,c2,c3,c4,c5,cf⟩:=(HP.out.still hs).cells
  obtain ⟨d0,d1,d2,d3,d4,d5,df⟩:=(HQ.out.still hs).cells
  have HS1:=hid (HS0.out.trans hs)
  have HP1:=hid (HP.out.still hs)
  have HQ1:=hid (HQ.out.still hs)
  have HX:=hid hs
  clear hs
  by_cases hlt:i0<n1
  ·have hlt':(i0:Int)<(n1:Int):=by omega
   have r0:=HR.out.1.1.still HS1.out
   have r1:=HR.out.1.2.still HS1.out
   obtain ⟨B0,o0,rfl⟩:=r0.at (by omega)
   obtain ⟨B1,o1,rfl⟩:=r1.at (by omega)
   have z0:=rdM r0 hlt
   have z1:=rdM r1 hlt
   have E1:=neq_mv_f (mm W.ms i0)
   obtain ⟨x,ex⟩:∃ x,mm W.ms i0=x:=⟨_,rfl⟩
   rw [ex] at z0 z1 E1
   have k1:=Cl.cell c1
   have k2:=Cl.cell d1
   obtain ⟨a0,a1,a2,a3,a4,a5,a6,a7,a8,a9,a10,a11,a12⟩:=z0
   obtain ⟨b0,b1,b2,b3,b4,b5,b6,b7,b8,b9,b10,b11,b12⟩:=z1
   have y0:=Cl.cell a0
   have x0:=Cl.cell b0
   have y1:=Cl.cell a1
   have x1:=Cl.cell b1
   have y2:=Cl.cell a2
   have x2:=Cl.cell b2
   have y3:=Cl.cell a3
   have x3:=Cl.cell b3
   have y4:=Cl.cell a4
   have x4:=Cl.cell b4
   have y5:=Cl.cell a5
   have x5:=Cl.cell b5
   have y6:=Cl.cell a6
   have x6:=Cl.cell b6
   have y7:=Cl.cell a7
   have x7:=Cl.cell b7
   have y8:=Cl.cell a8
   have x8:=Cl.cell b8
   have y9:=Cl.cell a9
   have x9:=Cl.cell b9
   have y10:=Cl.cell a10
   have x10:=Cl.cell b10
   have y11:=Cl.cell a11
   have x11:=Cl.cell b11
   have y12:=Cl.cell a12
   have x12:=Cl.cell b12
   have hne:=Aft.here wr
   clear ex r0 r1 a0 a1 a2 a3 a4 a5 a6 a7 a8 a9 a10 a11 a12 b0 b1 b2 b3 b4 b5 b6 b7 b8 b9 b10 b11 b12
   go_wp2_with fail
   clear c0 c1 c2 c3 c4 c5 cf d0 d1 d2 d3 d4 d5 df
   refine region_all (by kernel_rfl) (by kernel_rfl) ?_
   repeat (go_big_quiet_step (fail))
   refine wpQuiet_nil ?_
   intro w2 h2
   have HS2:=hid h2
   clear h2 k1 k2 hne E1 y0 x0 y1 x1 y2 x2 y3 x3 y4 x4 y5 x5 y6 x6 y7 x7 y8 x8 y9 x9 y10 x10 y11 x11 y12 x12
   go_wp2_with fail
   go_roundw
   case rel=>exact ⟨i0+1,by omega,by go_num,HX.out.trans HS2.out⟩
   case measure=>simp [intOf]; omega
  ·have hge:¬ (i0:Int)<(n1:Int):=by omega
   clear hlt hi HX HP HQ HS0
   have HP:=HP1
   have HQ:=HQ1
   have HS0:=HS1
   clear HP1 HQ1 HS1
   go_wp2_with fail
   clear c0 c1 c2 c3 c4 c5 cf d0 d1 d2 d3 d4 d5 df
   obtain ⟨V0,eV0⟩:∃ V,V=wr:=⟨_,rfl⟩
   rw [<- eV0] at HP HQ HS0 ⊢
   clear eV0
   go_loopw [6] (fun u wr=>∃ i:Nat,i<=n2/\u=.int .i64 (i:Int)/\Still V0 wr) (fun u _=>n2 - (intOf u).toNat)
   case atStart=>exact ⟨0,by omega,rfl,Fr.refl _ _⟩
   case round =>
    obtain ⟨i1,hi,rfl,hs⟩:=hrel
    obtain ⟨c0,c1,c2,c3,c4,c5,cf⟩:=(HP.out.still hs).cells
    obtain ⟨d0,d1,d2,d3,d4,d5,df⟩:=(HQ.out.still hs).cells
    have HS1:=hid (HS0.out.trans hs)
    have HP1:=hid (HP.out.still hs)
    have HQ1:=hid (HQ.out.still hs)
    have HX:=hid hs
    clear hs
    by_cases hlt:i1<n2
    ·have hlt':(i1:Int)<(n2:Int):=by omega
     have r0:=HR.out.2.1.1.still HS1.out
     have r1:=HR.out.2.1.2.still HS1.out
     obtain ⟨B0,o0,rfl⟩:=r0.at (by omega)
     obtain ⟨B1,o1,rfl⟩:=r1.at (by omega)
     have z0:=rdC r0 hlt
     have z1:=rdC r1 hlt
     have E1:=neq_cv_f (sc W.cs i1)
     obtain ⟨x,ex⟩:∃ x,sc W.cs i1=x:=⟨_,rfl⟩
     rw [ex] at z0 z1 E1
     have k1:=Cl.cell c2
     have k2:=Cl.cell d2
     obtain ⟨a0,a1,a2,a3⟩:=z0
     obtain ⟨b0,b1,b2,b3⟩:=z1
     have y0:=Cl.cell a0
     have x0:=Cl.cell b0
     have y1:=Cl.cell a1
     have x1:=Cl.cell b1
     have y2:=Cl.cell a2
     have x2:=Cl.cell b2
     have y3:=Cl.cell a3
     have x3:=Cl.cell b3
     have hne:=Aft.here wr
     clear ex r0 r1 a0 a1 a2 a3 b0 b1 b2 b3
     go_wp2_with fail
     clear c0 c1 c2 c3 c4 c5 cf d0 d1 d2 d3 d4 d5 df
     refine region_all (by kernel_rfl) (by kernel_rfl) ?_
     repeat (go_big_quiet_step (fail))
     refine wpQuiet_nil ?_
     intro w2 h2
     have HS2:=hid h2
     clear h2 k1 k2 hne E1 y0 x0 y1 x1 y2 x2 y3 x3
     go_wp2_with fail
     go_roundw
     case rel=>exact ⟨i1+1,by omega,by go_num,HX.out.trans HS2.out⟩
     case measure=>simp [intOf]; omega
    ·have hge:¬ (i1:Int)<(n2:Int):=by omega
     clear hlt hi HX HP HQ HS0
     have HP:=HP1
     have HQ:=HQ1
     have HS0:=HS1
     clear HP1 HQ1 HS1
     go_wp2_with fail
     clear c0 c1 c2 c3 c4 c5 cf d0 d1 d2 d3 d4 d5 df
     obtain ⟨V1,eV1⟩:∃ V,V=wr:=⟨_,rfl⟩
     rw [<- eV1] at HP HQ HS0 ⊢
     clear eV1
     go_loopw [7] (fun u wr=>∃ i:Nat,i<=n3/\u=.int .i64 (i:Int)/\Still V1 wr) (fun u _=>n3 - (intOf u).toNat)
     case atStart=>exact ⟨0,by omega,rfl,Fr.refl _ _⟩
     case round =>
      obtain ⟨i2,hi,rfl,hs⟩:=hrel
      obtain ⟨c0,c1,c2,c3,c4,c5,cf⟩:=(HP.out.still hs).cells
      obtain ⟨d0,d1,d2,d3,d4,d5,df⟩:=(HQ.out.still hs).cells
      have HS1:=hid (HS0.out.trans hs)
      have HP1:=hid (HP.out.still hs)
      have HQ1:=hid (HQ.out.still hs)
      have HX:=hid hs
      clear hs
      by_cases hlt:i2<n3
      ·have hlt':(i2:Int)<(n3:Int):=by omega
       have r0:=HR.out.2.2.1.1.still HS1.out
       have r1:=HR.out.2.2.1.2.still HS1.out
       obtain ⟨B0,o0,rfl⟩:=r0.at (by omega)
       obtain ⟨B1,o1,rfl⟩:=r1.at (by omega)
       have z0:=rdS r0 hlt
       have z1:=rdS r1 hlt
       have E1:=neq_sv_f (ss W.hs i2)
       obtain ⟨x,ex⟩:∃ x,ss W.hs i2=x:=⟨_,rfl⟩
       rw [ex] at z0 z1 E1
       have k1:=Cl.cell c3
       have k2:=Cl.cell d3
       obtain ⟨a0,a1,a2,a3,a4,a5,a6,a7⟩:=z0
       obtain ⟨b0,b1,b2,b3,b4,b5,b6,b7⟩:=z1
       have y0:=Cl.cell a0
       have x0:=Cl.cell b0
       have y1:=Cl.cell a1
       have x1:=Cl.cell b1
       have y2:=Cl.cell a2
       have x2:=Cl.cell b2
       have y3:=Cl.cell a3
       have x3:=Cl.cell b3
       have y4:=Cl.cell a4
       have x4:=Cl.cell b4
       have y5:=Cl.cell a5
       have x5:=Cl.cell b5
       have y6:=Cl.cell a6
       have x6:=Cl.cell b6
       have y7:=Cl.cell a7
       have x7:=Cl.cell b7
       have hne:=Aft.here wr
       clear ex r0 r1 a0 a1 a2 a3 a4 a5 a6 a7 b0 b1 b2 b3 b4 b5 b6 b7
       go_wp2_with fail
       clear c0 c1 c2 c3 c4 c5 cf d0 d1 d2 d3 d4 d5 df
       refine region_all (by kernel_rfl) (by kernel_rfl) ?_
       repeat (go_big_quiet_step (fail))
       refine wpQuiet_nil ?_
       intro w2 h2
       have HS2:=hid h2
       clear h2 k1 k2 hne E1 y0 x0 y1 x1 y2 x2 y3 x3 y4 x4 y5 x5 y6 x6 y7 x7
       go_wp2_with fail
       go_roundw
       case rel=>exact ⟨i2+1,by omega,by go_num,HX.out.trans HS2.out⟩
       case measure=>simp [intOf]; omega
      ·have hge:¬ (i2:Int)<(n3:Int):=by omega
       clear hlt hi HX HP HQ HS0
       have HP:=HP1
       have HQ:=HQ1
       have HS0:=HS1
       clear HP1 HQ1 HS1
       go_wp2_with fail
       clear c0 c1 c2 c3 c4 c5 cf d0 d1 d2 d3 d4 d5 df
       obtain ⟨V2,eV2⟩:∃ V,V=wr:=⟨_,rfl⟩
       rw [<- eV2] at HP HQ HS0 ⊢
       clear eV2
       go_loopw [8] (fun u wr=>∃ i:Nat,i<=n4/\u=.int .i64 (i:Int)/\Still V2 wr) (fun u _=>n4 - (intOf u).toNat)
       case atStart=>exact ⟨0,by omega,rfl,Fr.refl _ _⟩
       case round =>
        obtain ⟨i3,hi,rfl,hs⟩:=hrel
        obtain ⟨c0,c1,c2,c3,c4,c5,cf⟩:=(HP.out.still hs).cells
        obtain ⟨d0,d1,d2,d3,d4,d5,df⟩:=(HQ.out.still hs).cells
        have HS1:=hid (HS0.out.trans hs)
        have HP1:=hid (HP.out.still hs)
        have HQ1:=hid (HQ.out.still hs)
        have HX:=hid hs
        clear hs
        by_cases hlt:i3<n4
        ·have hlt':(i3:Int)<(n4:Int):=by omega
         have r0:=HR.out.2.2.2.1.still HS1.out
         have r1:=HR.out.2.2.2.2.still HS1.out
         obtain ⟨B0,o0,rfl⟩:=r0.at (by omega)
         obtain ⟨B1,o1,rfl⟩:=r1.at (by omega)
         have z0:=rdQ r0 hlt
         have z1:=rdQ r1 hlt
         have E1:=neq_kv_f (pk W.ks i3)
         obtain ⟨x,ex⟩:∃ x,pk W.ks i3=x:=⟨_,rfl⟩
         rw [ex] at z0 z1 E1
         have k1:=Cl.cell c4
         have k2:=Cl.cell d4
         obtain ⟨a0,a1,a2⟩:=z0
         obtain ⟨b0,b1,b2⟩:=z1
         have y0:=Cl.cell a0
         have x0:=Cl.cell b0
         have y1:=Cl.cell a1
         have x1:=Cl.cell b1
         have y2:=Cl.cell a2
         have x2:=Cl.cell b2
         have hne:=Aft.here wr
         clear ex r0 r1 a0 a1 a2 b0 b1 b2
         go_wp2_with fail
         clear c0 c1 c2 c3 c4 c5 cf d0 d1 d2 d3 d4 d5 df
         refine region_all (by kernel_rfl) (by kernel_rfl) ?_
         repeat (go_big_quiet_step (fail))
         refine wpQuiet_nil ?_
         intro w2 h2
         have HS2:=hid h2
         clear h2 k1 k2 hne E1 y0 x0 y1 x1 y2 x2
         go_wp2_with fail
         go_roundw
         case rel=>exact ⟨i3+1,by omega,by go_num,HX.out.trans HS2.out⟩
         case measure=>simp [intOf]; omega
        ·have hge:¬ (i3:Int)<(n4:Int):=by omega
         clear hlt hi HX HP HQ HS0
         have HP:=HP1
         have HQ:=HQ1
         have HS0:=HS1
         clear HP1 HQ1 HS1
         go_wp2_with fail
         go_ret
         exact ⟨rfl,HS0.out⟩
def zX:Cm:=⟨0,0,0,0,0,0,0⟩
def cm (L:List Cm) (i:Nat):Cm:=L.getD i zX
theorem cm_at {L:List Cm} {i:Nat} (h:i<L.length):cm L i=L[i]:=by simp [cm,List.getD,h]
abbrev xcs (x:Cm):Array Value:=#[.int .i64 x.fr,.int .i64 x.pe,.int .i64 x.sq,.int .i64 x.v,.int .i64 x.a,.int .i64 x.b,.int .i64 x.c]
abbrev xv (x:Cm):Value:=.agg (xcs x)
def KX:Kd Cm:=⟨fun x=>(xcs x).toList,7,zX,fun _=>rfl,fun m u hu=>by
 simp at hu
 rcases hu with rfl | rfl | rfl | rfl | rfl | rfl | rfl <;> rfl,by decide⟩
theorem infoX:∃ i,Tryz.prog.info? 60=some i/\i.zero=some (.agg (KX.f KX.d).toArray)/\i.size=KX.k/\i.bytes=56:=⟨_,rfl,rfl,rfl,rfl⟩
theorem rdX {w:World} {B o n:Nat} {L:List Cm} (h:RdG KX w (some ⟨B,o,none⟩) n L) {i:Nat} (hi:i<n):w.cell? ⟨B,o+i*7,none⟩=some (.int .i64 (cm L i).fr)/\w.cell? ⟨B,o+i*7+1,none⟩=some (.int .i64 (cm L i).pe)/\w.cell? ⟨B,o+i*7+2,none⟩=some (.int .i64 (cm L i).sq)/\w.cell? ⟨B,o+i*7+3,none⟩=some (.int .i64 (cm L i).v)/\w.cell? ⟨B,o+i*7+4,none⟩=some (.int .i64 (cm L i).a)/\w.cell? ⟨B,o+i*7+5,none⟩=some (.int .i64 (cm L i).b)/\w.cell? ⟨B,o+i*7+6,none⟩=some (.int .i64 (cm L i).c) :=
 ⟨h.get hi 0 _ rfl,h.get hi 1 _ rfl,h.get hi 2 _ rfl,h.get hi 3 _ rfl,h.get hi 4 _ rfl,h.get hi 5 _ rfl,h.get hi 6 _ rfl⟩
theorem owX {e:TypeId} {w:World} {B g n cap:Nat} {L:List Cm} (h:OwG KX e w B (.slice (some ⟨g,0,none⟩) n cap) L) {i:Nat} (hi:i<L.length):w.cell? ⟨g,i*7,none⟩=some (.int .i64 (cm L i).fr)/\w.cell? ⟨g,i*7+1,none⟩=some (.int .i64 (cm L i).pe)/\w.cell? ⟨g,i*7+2,none⟩=some (.int .i64 (cm L i).sq)/\w.cell? ⟨g,i*7+3,none⟩=some (.int .i64 (cm L i).v)/\w.cell? ⟨g,i*7+4,none⟩=some (.int .i64 (cm L i).a)/\w.cell? ⟨g,i*7+5,none⟩=some (.int .i64 (cm L i).b)/\w.cell? ⟨g,i*7+6,none⟩=some (.int .i64 (cm L i).c)/\∀ o,w.frozen? ⟨g,o,none⟩=false :=
 ⟨h.get hi 0 _ rfl,h.get hi 1 _ rfl,h.get hi 2 _ rfl,h.get hi 3 _ rfl,h.get hi 4 _ rfl,h.get hi 5 _ rfl,h.get hi 6 _ rfl,h.frozen⟩
def Xb (w:World) (g:Nat) (x:Cm):Prop:=w.heap[g]?=some (.cells (xcs x) 60 (0,0))
theorem Xb.still {w w':World} {g:Nat} {x:Cm} (h:Xb w g x) (hs:Still w w'):Xb w' g x:=hs.kept_still h
theorem Xb.cells {w:World} {g:Nat} {x:Cm} (h:Xb w g x):w.cell? ⟨g,0,none⟩=some (.int .i64 x.fr)/\w.cell? ⟨g,1,none⟩=some (.int .i64 x.pe)/\w.cell? ⟨g,2,none⟩=some (.int .i64 x.sq)/\w.cell? ⟨g,3,none⟩=some (.int .i64 x.v)/\w.cell? ⟨g,4,none⟩=some (.int .i64 x.a)/\w.cell? ⟨g,5,none⟩=some (.int .i64 x.b)/\w.cell? ⟨g,6,none⟩=some (.int .i64 x.c)/\∀ o,w.frozen? ⟨g,o,none⟩=false:=by
 refine ⟨?_, ?_, ?_, ?_, ?_, ?_, ?_,fun o=>frozen_of_row w g o _ _ h⟩ <;> (rw [cell_of_row _ _ _ _ _ _ h]; rfl)
abbrev newX (w:World) (x:Cm):World:=w.alloc (.cells (xcs x) 60)
theorem newX_xb (w:World) (x:Cm):Xb (newX w x) w.heap.size x:=heap_alloc_new w _
theorem setCells_other:∀ (vs:List Value) (w:World) (g o k:Nat),k≠g->(w.setCells g o vs).heap[k]?=w.heap[k]?
 | [],_,_,_,_,_=>rfl
 | v :: r,w,g,o,k,h=>by
  show ((w.setCell ⟨g,o,none⟩ v).setCells g (o+1) r).heap[k]?=_
  rw [setCells_other r _ g (o+1) k h,heap_setCell_other _ _ _ _ h]
theorem Xb.sets {w:World} {h g:Nat} {x:Cm} (hx:Xb w h x) (hg:h≠g) (vs:List Value) (o:Nat):Xb (w.setCells g o vs) h x:=by
 unfold Xb at *
 rw [setCells_other vs w g o h hg]
 exact hx
theorem rless_any (a b:Cm) (w:World):Calls Tryz.prog 19 #[xv a,xv b] w fun e w'=>e=.returned (.bool (lessC a b))/\Still w w':=by
 have A0:=Still.alloc w (.cells (xcs a) 60)
 have A1:=Still.alloc (newX w a) (.cells (xcs b) 60)
 have p0:=(newX_xb w a).still A1
 have q0:=newX_xb (newX w a) b
 simp only [size_alloc] at q0
 have HS0:=hid (A0.trans A1)
 obtain ⟨_,c1,c2,_,_,_,_,cf⟩:=p0.cells
 obtain ⟨_,d1,d2,_,_,_,_,df⟩:=q0.cells
 have HU:=hid (show lessC a b=(decide (a.pe<b.pe) || (decide (a.pe=b.pe) && decide (a.sq<b.sq))) from rfl)
 obtain ⟨p,ep⟩:∃ p,a.pe=p:=⟨_,rfl⟩
 obtain ⟨q,eq⟩:∃ p,b.pe=p:=⟨_,rfl⟩
 obtain ⟨r,er⟩:∃ p,a.sq=p:=⟨_,rfl⟩
 obtain ⟨s,es⟩:∃ p,b.sq=p:=⟨_,rfl⟩
 rw [ep,eq,er,es] at HU
 rw [ep] at c1
 rw [er] at c2
 rw [eq] at d1
 rw [es] at d2
 rw [HU.out]
 clear A0 A1 p0 q0 ep eq er es HU
 by_cases h1:p<q
 ·go_enter Tryz.func19,Tryz.ntmps19
  go_wp2_with fail
  go_ret
  exact ⟨by simp [h1],HS0.out⟩
 ·have h1':decide (p<q)=false:=by simpa using h1
  by_cases h2:p=q
  ·have h2':(p == q)=true:=by simpa using h2
   have h2'':decide (p=q)=true:=by simpa using h2
   rw [h1',h2'']
   clear h1 h2 h2''
   go_enter Tryz.func19,Tryz.ntmps19
   go_wp2_with fail
   go_ret
   exact ⟨by simp,HS0.out⟩
  ·have h2':(p == q)=false:=by simpa using h2
   have h2'':decide (p=q)=false:=by simpa using h2
   rw [h1',h2'']
   clear h1 h2 h2''
   go_enter Tryz.func19,Tryz.ntmps19
   go_wp2_with fail
   go_ret
   exact ⟨rfl,HS0.out⟩
def mid (R:List Cm) (x:Cm) (j:Nat):List Cm:=(R.drop j).reverse ++ x :: (R.take j).reverse
theorem mid_zero (R:List Cm) (x:Cm):mid R x 0=R.reverse ++ [x]:=by simp [mid]
theorem mid_len {R:List Cm} {x:Cm} {j:Nat} (h:j<=R.length):(mid R x j).length=R.length+1:=by simp [mid]; omega
theorem mid_at {R:List Cm} {x:Cm} {j k:Nat} (h:k+j=R.length):cm (mid R x j) k=x:=by
 unfold mid cm
 rw [List.getD_eq_getElem?_getD,List.getElem?_append_right (by simp; omega)]
 simp [show k - (R.length - j)=0 by omega]
theorem mid_ahead {R:List Cm} {x:Cm} {j k:Nat} (h:k+1+j=R.length):cm (mid R x j) k=cm R j:=by
 have hj:j<R.length:=by omega
 unfold mid cm
 rw [List.getD_eq_getElem?_getD,List.getElem?_append_left (by simp; omega),List.getElem?_reverse (by simp; omega),List.getElem?_drop]
 simp only [List.length_drop]
 rw [show j+(R.length - j - 1 - k)=j by omega]
 rw [List.getD_eq_getElem?_getD]
theorem mid_swap {R:List Cm} {x:Cm} {j k:Nat} (h:k+1+j=R.length):((mid R x j).set (k+1) (cm R j)).set k x=mid R x (j+1):=by
 have hj:j<R.length:=by omega
 have e1:R.drop j=R[j] :: R.drop (j+1):=List.drop_eq_getElem_cons hj
 have e2:R.take (j+1)=R.take j ++ [R[j]]:=List.take_succ_eq_append_getElem hj
 have hl:(R.drop (j+1)).reverse.length=k:=by simp; omega
 unfold mid
 rw [e1,e2,cm_at hj]
 simp only [List.reverse_cons,List.append_assoc,List.reverse_append,List.nil_append,List.cons_append]
 rw [List.set_append_right _ _ (by omega),hl,show k+1 - k=1 by omega]
 simp only [List.set_cons_succ,List.set_cons_zero]
 rw [List.set_append_right _ _ (by omega),hl,show k - k=0 by omega]
 rfl
theorem insR_mid:∀ {R:List Cm} {x:Cm} {j:Nat},j<=R.length->(∀ i,i<j->lessC (cm R i) x=false)->(j=R.length\/lessC (cm R j) x=true)->mid R x j=(insR R x).reverse
 | [],x,j,h,_,_=>by
  have:j=0:=by simpa using h
  subst this
  rfl
 | y :: R,x,0,_,_,h2=>by
  have h3:lessC y x=true:=by
   rcases h2 with h2 | h2
   ·simp at h2
   ·simpa [cm] using h2
  unfold insR
  rw [h3]
  simp [mid]
 | y :: R,x,j+1,h,h1,h2=>by
  have h3:lessC y x=false:=by simpa [cm] using h1 0 (by omega)
  have ih:=insR_mid (R:=R) (x:=x) (j:=j) (by simpa using h) (fun i hi=>by simpa [cm] using h1 (i+1) (by omega)) (by
   rcases h2 with h2 | h2
   ·exact .inl (by simpa using h2)
   ·exact .inr (by simpa [cm] using h2))
  unfold insR
  rw [h3]
  simp only [Bool.false_eq_true,if_false,List.reverse_cons]
  rw [<- ih]
  simp [mid]
theorem ofR_step {f:Int} {l:List Cm} {i:Nat} (h:i<l.length):ofR f (l.take (i+1)) []=if (cm l i).fr=f then insR (ofR f (l.take i) []) (cm l i) else ofR f (l.take i) []:=by
 have app:∀ (a b acc:List Cm),ofR f (a ++ b) acc=ofR f b (ofR f a acc):=by
  intro a
  induction a with
  | nil=>intro b acc; rfl
  | cons x a ih=>intro b acc; exact ih b _
 rw [List.take_succ_eq_append_getElem h,app,cm_at h]
 rfl
theorem ofR_len (f:Int) (l:List Cm):(ofR f l []).length<=l.length:=by
 have h:=(ofR_perm f l []).length_eq
 rw [h,List.append_nil]
 exact List.length_filter_le _ _
theorem rof_any (l:List Cm) (f:Int) (ao:Option Addr) (n cap:Nat) (h47:56*n<=140737488355328) (w:World) (hr:RdG KX w ao n l):Calls Tryz.prog 8 #[.slice ao n cap,.int .i64 f] w fun e w'=>∃ v,e=.returned v/\OwG KX 60 w' w.heap.size v (ofC l f)/\Still w w':=by
 have HR:=hid hr
 have HL:=hid hr.1
 have hn2:n<=4398046511104:=by omega
 clear hr
 go_enter Tryz.func8,Tryz.ntmps8
 go_wp2_with fail
 go_loopw [5,6] (fun v u wr=>∃ i:Nat,i<=n/\u=.int .i64 (i:Int)/\OwG KX 60 wr w.heap.size v (ofR f (l.take i) []).reverse/\Still w wr) (fun _ u _=>n - (intOf u).toNat)
 case atStart=>exact ⟨0,by omega,rfl,OwG.nil _ _,Fr.refl _ _⟩
 case round =>
  obtain ⟨i,hi,rfl,ho,hs⟩:=hrel
  by_cases hlt:i<n
  ·have hlt':(i:Int)<(n:Int):=by omega
   have hr1:=HR.out.still hs
   obtain ⟨B,o,rfl⟩:=hr1.at (by omega)
   obtain ⟨c0,c1,c2,c3,c4,c5,c6⟩:=rdX hr1 hlt
   have HT:=hid (ofR_step (f:=f) (l:=l) (i:=i) (by have:=HL.out; omega))
   have hRl:=ofR_len f (l.take i)
   have hRl2:(ofR f (l.take i) []).length<=i:=by
    have:(l.take i).length<=i:=by simp; omega
    omega
   obtain ⟨R,eR⟩:∃ R,ofR f (l.take i) []=R:=⟨_,rfl⟩
   obtain ⟨x,ex⟩:∃ x,cm l i=x:=⟨_,rfl⟩
   rw [eR] at ho hRl2
   rw [eR,ex] at HT
   rw [ex] at c0 c1 c2 c3 c4 c5 c6
   have HO:=hid ho
   have HS:=hid hs
   clear eR ex ho hs hr1 hRl
   by_cases hf:x.fr=f
   ·rw [if_pos hf] at HT
    have hf':(x.fr != f)=false:=by simpa using hf
    have HY:=hid (newX_xb wr x)
    obtain ⟨N,eN⟩:∃ N,R.length=N:=⟨_,rfl⟩
    have HN:=hid eN
    rw [eN] at hRl2
    clear hf eN
    go_wp2_with (
     at_builtin
     refine wpList_appH KX _ rfl _ _ 28 rfl Tryz.underlying28 56 infoX w.heap.size wr.heap.size _ R.reverse x rfl rfl (HO.out.still (Still.alloc wr _)) HY.out (by rw [List.length_reverse,HN.out]; omega) (by rw [List.length_reverse,HN.out]; omega) (by have:=HS.out.size; simp; omega) ?_
     intro v' w2 ho2 hf2
     have HS2:=hid (still_appG (HS.out.trans (Still.alloc wr _)) (HO.out.still (Still.alloc wr _)) hf2 (Nat.le_refl _))
     rw [<- mid_zero] at ho2
     obtain ⟨g,cp,rfl,hg1,hg2⟩:=ho2.head (by rw [mid_len (by omega)]; omega)
     rw [mid_len (by omega),HN.out] at ho2 ⊢
     have HO2:=hid ho2
     have HG:=hid hg1
     clear ho2 hf2 hg1 hg2 HO HS HY c0 c1 c2 c3 c4 c5 c6 hf')
    go_loopw [7] (fun u wx=>∃ j:Nat,j<=N/\u=.int .i64 ((N:Int) - (j:Int))/\OwG KX 60 wx w.heap.size (.slice (some ⟨g,0,none⟩) (N+1) cp) (mid R x j)/\Hid (∀ q,q<j->lessC (cm R q) x=false)/\Still w wx) (fun u _=>(intOf u).toNat)
    case atStart=>exact ⟨0,by omega,by go_num,HO2.out,hid (fun q hq=>by omega),HS2.out⟩
    case round =>
     clear HO2 HS2
     obtain ⟨j,hj,rfl,ho3,HQ,hs3⟩:=hrel
     have HO3:=hid ho3
     have HS3:=hid hs3
     clear ho3 hs3
     by_cases hk:j<N
     ·obtain ⟨K,eK⟩:∃ K:Nat,(N:Int) - (j:Int)=(K:Int):=⟨N - j,by omega⟩
      rw [eK]
      have hK0:0<K:=by omega
      have hKN:K<=N:=by omega
      have HK:=hid (show K - 1+1+j=R.length by rw [HN.out]; omega)
      have HK2:=hid (show K+j=R.length by rw [HN.out]; omega)
      have hml:(mid R x j).length=N+1:=by rw [mid_len (by rw [HN.out]; omega),HN.out]
      obtain ⟨a0,a1,a2,a3,a4,a5,a6,af⟩:=owX HO3.out (i:=K - 1) (by omega)
      obtain ⟨b0,b1,b2,b3,b4,b5,b6,bf⟩:=owX HO3.out (i:=K) (by omega)
      rw [mid_ahead HK.out] at a0 a1 a2 a3 a4 a5 a6
      rw [mid_at HK2.out] at b0 b1 b2 b3 b4 b5 b6
      have HC:=hid (fun u=>rless_any (cm R j) x u)
      have HW:=hid (mid_swap (x:=x) HK.out)
      have HDone:=hid (fun h=>insR_mid (R:=R) (x:=x) (j:=j) (by rw [HN.out]; exact hj) HQ.out (.inr h))
      have HNxt:=hid (show lessC (cm R j) x=false->∀ q,q<j+1->lessC (cm R q) x=false from fun h q hq=>by
       by_cases e:q=j
       ·subst e; exact h
       ·exact HQ.out q (by omega))
      obtain ⟨y,ey⟩:∃ y,cm R j=y:=⟨_,rfl⟩
      rw [ey] at a0 a1 a2 a3 a4 a5 a6 HC HW HDone HNxt
      obtain ⟨b,eb⟩:∃ b,lessC y x=b:=⟨_,rfl⟩
      rw [eb] at HC HDone HNxt
      have HE:=hid eK
      have HEy:=hid ey
      clear ey eb eK hml
      have k0:=Cl.cell a0
      have k1:=Cl.cell a1
      have k2:=Cl.cell a2
      have k3:=Cl.cell a3
      have k4:=Cl.cell a4
      have k5:=Cl.cell a5
      have k6:=Cl.cell a6
      have m0:=Cl.cell b0
      have m1:=Cl.cell b1
      have m2:=Cl.cell b2
      have m3:=Cl.cell b3
      have m4:=Cl.cell b4
      have m5:=Cl.cell b5
      have m6:=Cl.cell b6
      have hne:=Aft.here wr
      have hKp:(K:Int) > 0:=by omega
      have hKl:(K:Int)<(N:Int)+1:=by omega
      have hKl2:(K:Int) - 1<(N:Int)+1:=by omega
      clear a0 a1 a2 a3 a4 a5 a6 b0 b1 b2 b3 b4 b5 b6 af bf
      go_wp2_with fail
      refine region_all (by kernel_rfl) (by kernel_rfl) ?_
      repeat (go_big_quiet_step ((go_at_call 19; exact Calls.cl (HC.out _))))
      refine wpQuiet_nil ?_
      intro w4 h4
      have HS4:=hid (HS3.out.trans h4)
      have HO4:=hid (HO3.out.still h4)
      clear h4 HS3 HO3 k0 k1 k2 k3 k4 k5 k6 m0 m1 m2 m3 m4 m5 m6 hne HC
      cases b with
      | true =>
       have HF:=hid (HDone.out rfl)
       clear HDone HNxt HW
       go_wp2_with fail
       go_roundw
       case rel=>exact ⟨i+1,by omega,by go_num,by rw [HT.out,<- HF.out]; exact HO4.out,HS4.out⟩
       case measure=>simp [intOf]; omega
      | false =>
       have HF:=hid (HNxt.out rfl)
       obtain ⟨k,rfl⟩:∃ k,K=k+1:=⟨K - 1,by omega⟩
       rw [show ((k+1:Nat):Int)=(k:Int)+1 by omega]
       rw [show k+1 - 1=k by omega] at HK HW
       clear hKl2
       clear HDone HNxt
       have hml:(mid R x j).length=N+1:=by rw [mid_len (by rw [HN.out]; omega),HN.out]
       have A5:=Still.alloc w4 (.cells (xcs x) 60)
       have ho5:=HO4.out.still A5
       have x5:=newX_xb w4 x
       have hgw:w.heap.size<=g:=HG.out
       have hg5:g<w4.heap.size:=(HO4.out.block (k:=g) rfl).2
       obtain ⟨b0,b1,b2,b3,b4,b5,b6,bf⟩:=owX HO4.out (i:=(k+1)) (by omega)
       rw [mid_at HK2.out] at b0 b1 b2 b3 b4 b5 b6
       obtain ⟨W5,eW5⟩:∃ W,w4.alloc (.cells (xcs x) 60)=W:=⟨_,rfl⟩
       rw [eW5] at ho5
       have x5':Xb W5 w4.heap.size x:=by rw [<- eW5]; exact x5
       have HS5:Hid (Still w W5):=hid (by rw [<- eW5]; exact HS4.out.trans A5)
       have h5s:w4.heap.size<W5.heap.size:=by rw [<- eW5]; simp
       clear A5 x5
       go_upto_region 13 with fail
       clear eW5 b0 b1 b2 b3 b4 b5 b6 bf HO4 HS4
       obtain ⟨h5,eh5⟩:∃ h,w4.heap.size=h:=⟨_,rfl⟩
       rw [eh5] at x5' hg5 h5s ⊢
       clear eh5
       obtain ⟨a0,a1,a2,a3,a4,a5,a6,af⟩:=owX ho5 (i:=k) (by omega)
       rw [mid_ahead HK.out,HEy.out] at a0 a1 a2 a3 a4 a5 a6
       obtain ⟨b0,b1,b2,b3,b4,b5,b6,bf⟩:=owX ho5 (i:=(k+1)) (by omega)
       rw [mid_at HK2.out] at b0 b1 b2 b3 b4 b5 b6
       have HW':=hid (show ((mid R x j).set (k+1) y).set (k) x=mid R x (j+1) from HW.out)
       have ho6:=ho5.put (i:=(k+1)) (by omega) y
       have HS6:=hid (fr_setCells g (KX.f y) ((k+1)*KX.k) W5 HS5.out (.inr hgw))
       have x6:=Xb.sets x5' (g:=g) (by omega) (KX.f y) ((k+1)*KX.k)
       obtain ⟨W6,eW6⟩:∃ W,((((((W5.setCell ⟨g,(k+1)*7,none⟩ (.int .i64 y.fr)).setCell ⟨g,(k+1)*7+1,none⟩ (.int .i64 y.pe)).setCell ⟨g,(k+1)*7+2,none⟩ (.int .i64 y.sq)).setCell ⟨g,(k+1)*7+3,none⟩ (.int .i64 y.v)).setCell ⟨g,(k+1)*7+4,none⟩ (.int .i64 y.a)).setCell ⟨g,(k+1)*7+5,none⟩ (.int .i64 y.b)).setCell ⟨g,(k+1)*7+6,none⟩ (.int .i64 y.c)=W:=⟨_,rfl⟩
       have ho6':OwG KX 60 W6 w.heap.size (.slice (some ⟨g,0,none⟩) (N+1) cp) ((mid R x j).set (k+1) y):=by rw [<- eW6]; exact ho6
       have HS6':Hid (Still w W6):=hid (by rw [<- eW6]; exact HS6.out)
       have x6':Xb W6 h5 x:=by rw [<- eW6]; exact x6
       clear ho6 HS6 x6 HW
       go_upto_region 14 with fail
       clear eW6 a0 a1 a2 a3 a4 a5 a6 af b0 b1 b2 b3 b4 b5 b6 bf ho5 x5' HS5
       have hml2:((mid R x j).set (k+1) y).length=N+1:=by rw [List.length_set]; exact hml
       obtain ⟨b0,b1,b2,b3,b4,b5,b6,bf⟩:=owX ho6' (i:=k) (by omega)
       obtain ⟨z,ez⟩:∃ z,cm ((mid R x j).set (k+1) y) (k)=z:=⟨_,rfl⟩
       rw [ez] at b0 b1 b2 b3 b4 b5 b6
       clear ez
       obtain ⟨a0,a1,a2,a3,a4,a5,a6,af⟩:=x6'.cells
       have ho7:=ho6'.put (i:=k) (by omega) x
       have HS7:=hid (fr_setCells g (KX.f x) ((k)*KX.k) W6 HS6'.out (.inr hgw))
       have HO7:Hid (OwG KX 60 (((((((W6.setCell ⟨g,(k)*7,none⟩ (.int .i64 x.fr)).setCell ⟨g,(k)*7+1,none⟩ (.int .i64 x.pe)).setCell ⟨g,(k)*7+2,none⟩ (.int .i64 x.sq)).setCell ⟨g,(k)*7+3,none⟩ (.int .i64 x.v)).setCell ⟨g,(k)*7+4,none⟩ (.int .i64 x.a)).setCell ⟨g,(k)*7+5,none⟩ (.int .i64 x.b)).setCell ⟨g,(k)*7+6,none⟩ (.int .i64 x.c)) w.heap.size (.slice (some ⟨g,0,none⟩) (N+1) cp) (mid R x (j+1))):=hid (by
        rw [<- HW'.out]
        exact ho7)
       have HS7':Hid (Still w (((((((W6.setCell ⟨g,(k)*7,none⟩ (.int .i64 x.fr)).setCell ⟨g,(k)*7+1,none⟩ (.int .i64 x.pe)).setCell ⟨g,(k)*7+2,none⟩ (.int .i64 x.sq)).setCell ⟨g,(k)*7+3,none⟩ (.int .i64 x.v)).setCell ⟨g,(k)*7+4,none⟩ (.int .i64 x.a)).setCell ⟨g,(k)*7+5,none⟩ (.int .i64 x.b)).setCell ⟨g,(k)*7+6,none⟩ (.int .i64 x.c))):=hid HS7.out
       clear ho7 HS7 ho6' x6' HS6' hml hml2
       go_wp2_with fail
       go_roundw
       case rel=>exact ⟨j+1,by omega,by rw [show ((j+1:Nat):Int)=(j:Int)+1 by omega,show (N:Int) - ((j:Int)+1)=(k:Int) by have:=HE.out; omega],HO7.out,HF,HS7'.out⟩
       case measure=>simp [intOf]
     ·obtain rfl:j=N:=by omega
      have HF:=hid (insR_mid (R:=R) (x:=x) (j:=j) (by rw [HN.out]; omega) HQ.out (.inl HN.out.symm))
      rw [show (j:Int) - (j:Int)=0 by omega]
      clear hk
      go_wp2_with fail
      go_roundw
      case rel=>exact ⟨i+1,by omega,by go_num,by rw [HT.out,<- HF.out]; exact HO3.out,HS3.out⟩
      case measure=>simp [intOf]; omega
   ·rw [if_neg hf] at HT
    have hf':(x.fr != f)=true:=by simpa using hf
    clear hf
    go_wp2_with fail
    go_roundw
    case rel=>exact ⟨i+1,by omega,by go_num,by rw [HT.out]; exact HO.out,HS.out⟩
    case measure=>simp [intOf]; omega
  ·have hge:¬ (i:Int)<(n:Int):=by omega
   obtain rfl:i=n:=by omega
   have ht:l.take i=l:=List.take_of_length_le (by have:=HL.out; omega)
   rw [ht] at ho
   have HO:=hid (And.intro ho hs)
   clear ho hs hge hlt hi ht
   go_wp2_with fail
   go_ret
   exact ⟨_,rfl,HO.out.1,HO.out.2⟩
def zNn:Nn:=⟨0,0,0⟩
abbrev ncs (x:Nn):Array Value:=#[.int .i64 x.k,.int .i64 x.a,.int .i64 x.b]
def KN:Kd Nn:=⟨fun x=>(ncs x).toList,3,zNn,fun _=>rfl,fun m u hu=>by
 simp at hu
 rcases hu with rfl | rfl | rfl <;> rfl,by decide⟩
theorem infoN:∃ i,Tryz.prog.info? 44=some i/\i.zero=some (.agg (KN.f KN.d).toArray)/\i.size=KN.k/\i.bytes=24:=⟨_,rfl,rfl,rfl,rfl⟩
structure Cf where
 p:Int
 q:Int
 C:Int
 R:Int
 s:ByteArray
 lg:Value
section
variable {w w':World} {g:Nat} {F:Cf} {f fr nx:Int} {a b c d e:Value}
end
theorem OwG.setO {α:Type} {K:Kd α} {e:TypeId} {w:World} {B:Nat} {v:Value} {L:List α} (h:OwG K e w B v L) {g o:Nat} {t:TypeId} (hg:Tyk w g t) (ht:e≠t) (u:Value):OwG K e (w.setCell ⟨g,o,none⟩ u) B v L :=
 h.keepT (B:=0) (ts:=[t]) ((FrT.refl 0 [t] w).set hg (by simp) (Nat.zero_le _) u) (by simp; exact ht)
structure Se where
 F:Cf
 st:Value
 sp:Value
 xs:Value
abbrev fmc (S:Se) (fr nx:Int) (a b c d e:Value):Array Value:=#[.int .i64 S.F.p,.int .u64 S.F.q,.int .i64 S.F.C,.int .i64 S.F.R,.string S.F.s,S.F.lg,S.st,S.sp,.int .i64 fr,a,b,c,d,.int .i64 nx,S.xs,e]
def Fmk (w:World) (g:Nat) (S:Se) (fr nx:Int) (a b c d e:Value):Prop:=w.heap[g]?=some (.cells (fmc S fr nx a b c d e) 95 (0,0))
section
variable {w w':World} {g:Nat} {S:Se} {fr nx:Int} {a b c d e:Value}
theorem Fmk.still (h:Fmk w g S fr nx a b c d e) (hs:Still w w'):Fmk w' g S fr nx a b c d e:=hs.kept_still h
theorem Fmk.lt (h:Fmk w g S fr nx a b c d e):g<w.heap.size:=block_lt h
theorem Fmk.ty (h:Fmk w g S fr nx a b c d e):Tyk w g 95:=⟨_,h⟩
theorem Fmk.cells (h:Fmk w g S fr nx a b c d e):w.cell? ⟨g,0,none⟩=some (.int .i64 S.F.p)/\w.cell? ⟨g,1,none⟩=some (.int .u64 S.F.q)/\w.cell? ⟨g,2,none⟩=some (.int .i64 S.F.C)/\w.cell? ⟨g,3,none⟩=some (.int .i64 S.F.R)/\w.cell? ⟨g,4,none⟩=some (.string S.F.s)/\w.cell? ⟨g,5,none⟩=some S.F.lg/\w.cell? ⟨g,6,none⟩=some S.st/\w.cell? ⟨g,7,none⟩=some S.sp/\w.cell? ⟨g,8,none⟩=some (.int .i64 fr)/\w.cell? ⟨g,9,none⟩=some a/\w.cell? ⟨g,10,none⟩=some b/\w.cell? ⟨g,11,none⟩=some c/\w.cell? ⟨g,12,none⟩=some d/\w.cell? ⟨g,13,none⟩=some (.int .i64 nx)/\w.cell? ⟨g,14,none⟩=some S.xs/\w.cell? ⟨g,15,none⟩=some e/\∀ o,w.frozen? ⟨g,o,none⟩=false:=by
 refine ⟨?_, ?_, ?_, ?_, ?_, ?_, ?_, ?_, ?_, ?_, ?_, ?_, ?_, ?_, ?_, ?_,fun o=>frozen_of_row w g o _ _ h⟩ <;> (rw [cell_of_row _ _ _ _ _ _ h]; rfl)
theorem Fmk.setF (h:Fmk w g S fr nx a b c d e) (v:Int):Fmk (w.setCell ⟨g,8,none⟩ (.int .i64 v)) g S v nx a b c d e:=(heap_setCell_same w g 8 _ _ _ h).trans (by kernel_rfl)
theorem Fmk.setC (h:Fmk w g S fr nx a b c d e) (v:Value):Fmk (w.setCell ⟨g,11,none⟩ v) g S fr nx a b v d e:=(heap_setCell_same w g 11 _ _ v h).trans (by kernel_rfl)
theorem Fmk.setD (h:Fmk w g S fr nx a b c d e) (v:Value):Fmk (w.setCell ⟨g,12,none⟩ v) g S fr nx a b c v e:=(heap_setCell_same w g 12 _ _ v h).trans (by kernel_rfl)
theorem Fmk.setX (h:Fmk w g S fr nx a b c d e) (v:Int):Fmk (w.setCell ⟨g,13,none⟩ (.int .i64 v)) g S fr v a b c d e:=(heap_setCell_same w g 13 _ _ _ h).trans (by kernel_rfl)
theorem Fmk.setE (h:Fmk w g S fr nx a b c d e) (v:Value):Fmk (w.setCell ⟨g,15,none⟩ v) g S fr nx a b c d v:=(heap_setCell_same w g 15 _ _ v h).trans (by kernel_rfl)
theorem Fmk.keepT {B:Nat} {ts:List TypeId} (h:Fmk w g S fr nx a b c d e) (hf:FrT B ts w w') (ht:95 ∉ ts):Fmk w' g S fr nx a b c d e:=hf.kept h ht
end
structure Fx (B:Nat) (w:World) (g:Nat) (S:Se) (G:Gm) (a b c d e:Value):Prop where
 hb:B<=g
 k:Fmk w g S G.w.fr G.w.nx a b c d e
 o1:OwG KM 48 w B a G.w.ms
 o2:OwG KC 50 w B b G.w.cs
 o3:OwG KS 52 w B c G.w.hs
 o4:OwG KQ 54 w B d G.w.ks
 o5:OwG KN 44 w B e G.ns
def FmM (B:Nat) (w:World) (g:Nat) (S:Se) (G:Gm):Prop:=∃ a b c d e,Fx B w g S G a b c d e
section
variable {B:Nat} {w w':World} {g:Nat} {S:Se} {G:Gm} {a b c d e:Value}
theorem Fx.still (h:Fx B w g S G a b c d e) (hs:Still w w'):Fx B w' g S G a b c d e:=⟨h.hb,h.k.still hs,h.o1.still hs,h.o2.still hs,h.o3.still hs,h.o4.still hs,h.o5.still hs⟩
theorem FmM.still (h:FmM B w g S G) (hs:Still w w'):FmM B w' g S G:=by
 obtain ⟨a,b,c,d,e,h⟩:=h
 exact ⟨a,b,c,d,e,h.still hs⟩
theorem Fx.putM {gm n cp i:Nat} (h:Fx B w g S G (.slice (some ⟨gm,0,none⟩) n cp) b c d e) (hi:i<G.w.ms.length) (m:Mv):Fx B (w.setCells gm (i*KM.k) (KM.f m)) g S ⟨{ G.w with ms:=G.w.ms.set i m },G.ns⟩ (.slice (some ⟨gm,0,none⟩) n cp) b c d e/\FrT B [48] w (w.setCells gm (i*KM.k) (KM.f m)):=by
 have hT:=OwG.setT h.o1 (ts:=[48]) (by simp) (KM.f m) (i*KM.k) w (FrT.refl _ _ _) (h.o1.ty rfl)
 exact ⟨⟨h.hb,h.k.keepT hT (by decide),h.o1.put hi m,h.o2.keepT hT (by decide),h.o3.keepT hT (by decide),h.o4.keepT hT (by decide),h.o5.keepT hT (by decide)⟩,hT⟩
theorem Fx.putC {gm n cp i:Nat} (h:Fx B w g S G a (.slice (some ⟨gm,0,none⟩) n cp) c d e) (hi:i<G.w.cs.length) (m:Scr):Fx B (w.setCells gm (i*KC.k) (KC.f m)) g S ⟨{ G.w with cs:=G.w.cs.set i m },G.ns⟩ a (.slice (some ⟨gm,0,none⟩) n cp) c d e/\FrT B [50] w (w.setCells gm (i*KC.k) (KC.f m)):=by
 have hT:=OwG.setT h.o2 (ts:=[50]) (by simp) (KC.f m) (i*KC.k) w (FrT.refl _ _ _) (h.o2.ty rfl)
 exact ⟨⟨h.hb,h.k.keepT hT (by decide),h.o1.keepT hT (by decide),h.o2.put hi m,h.o3.keepT hT (by decide),h.o4.keepT hT (by decide),h.o5.keepT hT (by decide)⟩,hT⟩
theorem Fx.frT (h:Fx B w g S G a b c d e) (o:Nat) (v:Value):FrT B [95] w (w.setCell ⟨g,o,none⟩ v):=(FrT.refl B [95] w).set h.k.ty (by simp) h.hb v
theorem Fx.setC (h:Fx B w g S G a b c d e) (v:Value) (L:List Sh) (hv:OwG KS 52 w B v L):Fx B (w.setCell ⟨g,11,none⟩ v) g S ⟨{ G.w with hs:=L },G.ns⟩ a b v d e :=
 ⟨h.hb,h.k.setC v,h.o1.setO h.k.ty (by decide) _,h.o2.setO h.k.ty (by decide) _,hv.setO h.k.ty (by decide) _,h.o4.setO h.k.ty (by decide) _,h.o5.setO h.k.ty (by decide) _⟩
theorem Fx.setD (h:Fx B w g S G a b c d e) (v:Value) (L:List Pk) (hv:OwG KQ 54 w B v L):Fx B (w.setCell ⟨g,12,none⟩ v) g S ⟨{ G.w with ks:=L },G.ns⟩ a b c v e :=
 ⟨h.hb,h.k.setD v,h.o1.setO h.k.ty (by decide) _,h.o2.setO h.k.ty (by decide) _,h.o3.setO h.k.ty (by decide) _,hv.setO h.k.ty (by decide) _,h.o5.setO h.k.ty (by decide) _⟩
theorem Fx.setX (h:Fx B w g S G a b c d e) (v:Int):Fx B (w.setCell ⟨g,13,none⟩ (.int .i64 v)) g S ⟨{ G.w with nx:=v },G.ns⟩ a b c d e :=
 ⟨h.hb,h.k.setX v,h.o1.setO h.k.ty (by decide) _,h.o2.setO h.k.ty (by decide) _,h.o3.setO h.k.ty (by decide) _,h.o4.setO h.k.ty (by decide) _,h.o5.setO h.k.ty (by decide) _⟩
theorem Fx.setF (h:Fx B w g S G a b c d e) (v:Int):Fx B (w.setCell ⟨g,8,none⟩ (.int .i64 v)) g S ⟨{ G.w with fr:=v },G.ns⟩ a b c d e :=
 ⟨h.hb,h.k.setF v,h.o1.setO h.k.ty (by decide) _,h.o2.setO h.k.ty (by decide) _,h.o3.setO h.k.ty (by decide) _,h.o4.setO h.k.ty (by decide) _,h.o5.setO h.k.ty (by decide) _⟩
end
theorem wnote_at (B:Nat) (g:Nat) (S:Se) (G:Gm) (va vb vc vd ve:Value) (k a b:Int) (w:World) (hB:B<=w.heap.size) (hx:Fx B w g S G va vb vc vd ve) (h47:(G.ns.length+1)*24<=140737488355328) :
  Calls Tryz.prog 102 #[.pointer (some ⟨g,0,none⟩),.int .i64 k,.int .i64 a,.int .i64 b] w fun e w'=>(∃ v,e=.returned v)/\(∃ vn,Fx B w' g S ⟨G.w,G.ns ++ [⟨k,a,b⟩]⟩ va vb vc vd vn)/\FrT B [95,44] w w':=by
 obtain ⟨ao,cap,rfl,_⟩:=hx.o5.slice
 obtain ⟨c0,c1,c2,c3,c4,c5,c6,c7,c8,c9,c10,c11,c12,c13,c14,c15,cf⟩:=hx.k.cells
 have A4:=Still.alloc w (.cells #[.int .i64 k,.int .i64 a,.int .i64 b] 44)
 have HA:=hid A4
 have HX4:Hid ((w.alloc (.cells #[.int .i64 k,.int .i64 a,.int .i64 b] 44)).heap[w.heap.size]?=some (.cells #[.int .i64 k,.int .i64 a,.int .i64 b] 44 (0,0))):=hid (heap_alloc_new w _)
 have HB4:=hid (show B<=(w.alloc (.cells #[.int .i64 k,.int .i64 a,.int .i64 b] 44)).heap.size by rw [size_alloc]; omega)
 have HLn:=hid h47
 have H1:=hid (hx.still A4)
 have HO4:=hid (hx.o5.still A4)
 obtain ⟨m,em⟩:∃ m,G.ns.length=m:=⟨_,rfl⟩
 rw [em] at HO4 c15
 have HM:=hid em
 clear A4 hx h47 em
 go_enter Tryz.func102,Tryz.ntmps102
 go_wp2_with (
  at_builtin
  refine wpList_appH KN _ rfl _ _ 39 rfl Tryz.underlying39 24 infoN B w.heap.size _ G.ns ⟨k,a,b⟩ rfl rfl HO4.out HX4.out HLn.out (by have:=HLn.out; omega) HB4.out ?_
  intro v' w' ho' hf'
  have hT:=HO4.out.frT (ts:=[44]) hf' (Nat.le_refl B) (by simp)
  have HT:=hid hT
  have HO:=hid ho'
  have k1:=H1.out.k.keepT hT (by decide)
  have HK:=hid k1
  obtain ⟨d0,d1,d2,d3,d4,d5,d6,d7,d8,d9,d10,d11,d12,d13,d14,d15,df⟩:=k1.cells
  obtain ⟨g',cap',rfl,_,_⟩:=ho'.head (by simp)
  clear hT k1 ho' hf' c0 c1 c2 c3 c4 c5 c6 c7 c8 c9 c10 c11 c12 c13 c14 c15 cf)
 go_end0
 refine ⟨⟨_,rfl⟩,⟨_,H1.out.hb,HK.out.setE _, ?_, ?_, ?_, ?_, ?_⟩, ?_⟩
 ·exact (H1.out.o1.keepT HT.out (by decide)).setO HK.out.ty (by decide) _
 ·exact (H1.out.o2.keepT HT.out (by decide)).setO HK.out.ty (by decide) _
 ·exact (H1.out.o3.keepT HT.out (by decide)).setO HK.out.ty (by decide) _
 ·exact (H1.out.o4.keepT HT.out (by decide)).setO HK.out.ty (by decide) _
 ·have h:=HO.out
  rw [show (G.ns ++ [(⟨k,a,b⟩:Nn)]).length=G.ns.length+1 by simp] at h
  exact h.setO HK.out.ty (by decide) _
 ·exact (((FrT.of_still HA.out).trans (HT.out.mono (by simp))).set HK.out.ty (by simp) H1.out.hb _)
theorem wnote_any (B:Nat) (g:Nat) (S:Se) (G:Gm) (k a b:Int) (w:World) (hB:B<=w.heap.size) (h:FmM B w g S G) (h47:(G.ns.length+1)*24<=140737488355328) :
  Calls Tryz.prog 102 #[.pointer (some ⟨g,0,none⟩),.int .i64 k,.int .i64 a,.int .i64 b] w fun e w'=>(∃ v,e=.returned v)/\FmM B w' g S ⟨G.w,G.ns ++ [⟨k,a,b⟩]⟩/\FrT B [95,44] w w':=by
 obtain ⟨va,vb,vc,vd,ve,hx⟩:=h
 refine (wnote_at B g S G va vb vc vd ve k a b w hB hx h47).mono ?_
 rintro e w' ⟨h1,⟨vn,h2⟩,h3⟩
 exact ⟨h1,⟨_,_,_,_,_,h2⟩,h3⟩
theorem Fmk.cl {w:World} {g:Nat} {S:Se} {fr nx:Int} {a b c d e:Value} (h:Fmk w g S fr nx a b c d e):(∀ z:Aft w,z.u.cell? ⟨g,0,none⟩=some (.int .i64 S.F.p))/\(∀ z:Aft w,z.u.cell? ⟨g,1,none⟩=some (.int .u64 S.F.q))/\(∀ z:Aft w,z.u.cell? ⟨g,2,none⟩=some (.int .i64 S.F.C))/\(∀ z:Aft w,z.u.cell? ⟨g,3,none⟩=some (.int .i64 S.F.R))/\(∀ z:Aft w,z.u.cell? ⟨g,4,none⟩=some (.string S.F.s))/\(∀ z:Aft w,z.u.cell? ⟨g,5,none⟩=some S.F.lg)/\(∀ z:Aft w,z.u.cell? ⟨g,6,none⟩=some S.st)/\(∀ z:Aft w,z.u.cell? ⟨g,7,none⟩=some S.sp)/\(∀ z:Aft w,z.u.cell? ⟨g,8,none⟩=some (.int .i64 fr))/\(∀ z:Aft w,z.u.cell? ⟨g,9,none⟩=some a)/\(∀ z:Aft w,z.u.cell? ⟨g,10,none⟩=some b)/\(∀ z:Aft w,z.u.cell? ⟨g,11,none⟩=some c)/\(∀ z:Aft w,z.u.cell? ⟨g,12,none⟩=some d)/\(∀ z:Aft w,z.u.cell? ⟨g,13,none⟩=some (.int .i64 nx))/\(∀ z:Aft w,z.u.cell? ⟨g,14,none⟩=some S.xs)/\(∀ z:Aft w,z.u.cell? ⟨g,15,none⟩=some e):=by
 obtain ⟨c0,c1,c2,c3,c4,c5,c6,c7,c8,c9,c10,c11,c12,c13,c14,c15,_⟩:=h.cells
 exact ⟨Cl.cell c0,Cl.cell c1,Cl.cell c2,Cl.cell c3,Cl.cell c4,Cl.cell c5,Cl.cell c6,Cl.cell c7,Cl.cell c8,Cl.cell c9,Cl.cell c10,Cl.cell c11,Cl.cell c12,Cl.cell c13,Cl.cell c14,Cl.cell c15⟩
theorem Mb.cl {w:World} {g:Nat} {m:Mv} (h:Mb w g m):(∀ z:Aft w,z.u.cell? ⟨g,0,none⟩=some (.int .i64 m.ax))/\(∀ z:Aft w,z.u.cell? ⟨g,1,none⟩=some (.int .i64 m.ay))/\(∀ z:Aft w,z.u.cell? ⟨g,2,none⟩=some (.int .i64 m.sx))/\(∀ z:Aft w,z.u.cell? ⟨g,3,none⟩=some (.int .i64 m.sy))/\(∀ z:Aft w,z.u.cell? ⟨g,4,none⟩=some (.int .i64 m.px))/\(∀ z:Aft w,z.u.cell? ⟨g,5,none⟩=some (.int .i64 m.py))/\(∀ z:Aft w,z.u.cell? ⟨g,6,none⟩=some (.int .i64 m.fc))/\(∀ z:Aft w,z.u.cell? ⟨g,7,none⟩=some (.int .i64 m.hl))/\(∀ z:Aft w,z.u.cell? ⟨g,8,none⟩=some (.int .i64 m.en))/\(∀ z:Aft w,z.u.cell? ⟨g,9,none⟩=some (.bool m.sh))/\(∀ z:Aft w,z.u.cell? ⟨g,10,none⟩=some (.int .i64 m.co))/\(∀ z:Aft w,z.u.cell? ⟨g,11,none⟩=some (.int .i64 m.ou))/\(∀ z:Aft w,z.u.cell? ⟨g,12,none⟩=some (.int .i64 m.sd)):=by
 obtain ⟨c0,c1,c2,c3,c4,c5,c6,c7,c8,c9,c10,c11,c12,_⟩:=h.cells
 exact ⟨Cl.cell c0,Cl.cell c1,Cl.cell c2,Cl.cell c3,Cl.cell c4,Cl.cell c5,Cl.cell c6,Cl.cell c7,Cl.cell c8,Cl.cell c9,Cl.cell c10,Cl.cell c11,Cl.cell c12⟩
theorem Sb.cl {w:World} {g:Nat} {m:Sh} (h:Sb w g m):(∀ z:Aft w,z.u.cell? ⟨g,0,none⟩=some (.int .i64 m.no))/\(∀ z:Aft w,z.u.cell? ⟨g,1,none⟩=some (.int .i64 m.ow))/\(∀ z:Aft w,z.u.cell? ⟨g,2,none⟩=some (.int .i64 m.pw))/\(∀ z:Aft w,z.u.cell? ⟨g,3,none⟩=some (.int .i64 m.ax))/\(∀ z:Aft w,z.u.cell? ⟨g,4,none⟩=some (.int .i64 m.ay))/\(∀ z:Aft w,z.u.cell? ⟨g,5,none⟩=some (.int .i64 m.sx))/\(∀ z:Aft w,z.u.cell? ⟨g,6,none⟩=some (.int .i64 m.sy))/\(∀ z:Aft w,z.u.cell? ⟨g,7,none⟩=some (.int .i64 m.lf)):=by
 obtain ⟨c0,c1,c2,c3,c4,c5,c6,c7,_⟩:=h.cells
 exact ⟨Cl.cell c0,Cl.cell c1,Cl.cell c2,Cl.cell c3,Cl.cell c4,Cl.cell c5,Cl.cell c6,Cl.cell c7⟩
theorem Kb.cl {w:World} {g:Nat} {m:Pk} (h:Kb w g m):(∀ z:Aft w,z.u.cell? ⟨g,0,none⟩=some (.int .i64 m.no))/\(∀ z:Aft w,z.u.cell? ⟨g,1,none⟩=some (.int .i64 m.sp))/\(∀ z:Aft w,z.u.cell? ⟨g,2,none⟩=some (.int .i64 m.kd)):=by
 obtain ⟨c0,c1,c2,_⟩:=h.cells
 exact ⟨Cl.cell c0,Cl.cell c1,Cl.cell c2⟩
theorem Xb.cl {w:World} {g:Nat} {m:Cm} (h:Xb w g m):(∀ z:Aft w,z.u.cell? ⟨g,0,none⟩=some (.int .i64 m.fr))/\(∀ z:Aft w,z.u.cell? ⟨g,1,none⟩=some (.int .i64 m.pe))/\(∀ z:Aft w,z.u.cell? ⟨g,2,none⟩=some (.int .i64 m.sq))/\(∀ z:Aft w,z.u.cell? ⟨g,3,none⟩=some (.int .i64 m.v))/\(∀ z:Aft w,z.u.cell? ⟨g,4,none⟩=some (.int .i64 m.a))/\(∀ z:Aft w,z.u.cell? ⟨g,5,none⟩=some (.int .i64 m.b))/\(∀ z:Aft w,z.u.cell? ⟨g,6,none⟩=some (.int .i64 m.c)):=by
 obtain ⟨c0,c1,c2,c3,c4,c5,c6,_⟩:=h.cells
 exact ⟨Cl.cell c0,Cl.cell c1,Cl.cell c2,Cl.cell c3,Cl.cell c4,Cl.cell c5,Cl.cell c6⟩
theorem owS {e:TypeId} {w:World} {B g n cap:Nat} {L:List Sh} (h:OwG KS e w B (.slice (some ⟨g,0,none⟩) n cap) L) {i:Nat} (hi:i<L.length):w.cell? ⟨g,i*8,none⟩=some (.int .i64 (ss L i).no)/\w.cell? ⟨g,i*8+1,none⟩=some (.int .i64 (ss L i).ow)/\w.cell? ⟨g,i*8+2,none⟩=some (.int .i64 (ss L i).pw)/\w.cell? ⟨g,i*8+3,none⟩=some (.int .i64 (ss L i).ax)/\w.cell? ⟨g,i*8+4,none⟩=some (.int .i64 (ss L i).ay)/\w.cell? ⟨g,i*8+5,none⟩=some (.int .i64 (ss L i).sx)/\w.cell? ⟨g,i*8+6,none⟩=some (.int .i64 (ss L i).sy)/\w.cell? ⟨g,i*8+7,none⟩=some (.int .i64 (ss L i).lf)/\∀ o,w.frozen? ⟨g,o,none⟩=false :=
 ⟨h.get hi 0 _ rfl,h.get hi 1 _ rfl,h.get hi 2 _ rfl,h.get hi 3 _ rfl,h.get hi 4 _ rfl,h.get hi 5 _ rfl,h.get hi 6 _ rfl,h.get hi 7 _ rfl,h.frozen⟩
theorem owQ {e:TypeId} {w:World} {B g n cap:Nat} {L:List Pk} (h:OwG KQ e w B (.slice (some ⟨g,0,none⟩) n cap) L) {i:Nat} (hi:i<L.length):w.cell? ⟨g,i*3,none⟩=some (.int .i64 (pk L i).no)/\w.cell? ⟨g,i*3+1,none⟩=some (.int .i64 (pk L i).sp)/\w.cell? ⟨g,i*3+2,none⟩=some (.int .i64 (pk L i).kd)/\∀ o,w.frozen? ⟨g,o,none⟩=false :=
 ⟨h.get hi 0 _ rfl,h.get hi 1 _ rfl,h.get hi 2 _ rfl,h.frozen⟩
theorem owM_cl {e:TypeId} {w:World} {B g n cap:Nat} {L:List Mv} (h:OwG KM e w B (.slice (some ⟨g,0,none⟩) n cap) L) {i:Nat} (hi:i<L.length) {x:Mv} (hx:mm L i=x):(∀ z:Aft w,z.u.cell? ⟨g,i*13,none⟩=some (.int .i64 x.ax))/\(∀ z:Aft w,z.u.cell? ⟨g,i*13+1,none⟩=some (.int .i64 x.ay))/\(∀ z:Aft w,z.u.cell? ⟨g,i*13+2,none⟩=some (.int .i64 x.sx))/\(∀ z:Aft w,z.u.cell? ⟨g,i*13+3,none⟩=some (.int .i64 x.sy))/\(∀ z:Aft w,z.u.cell? ⟨g,i*13+4,none⟩=some (.int .i64 x.px))/\(∀ z:Aft w,z.u.cell? ⟨g,i*13+5,none⟩=some (.int .i64 x.py))/\(∀ z:Aft w,z.u.cell? ⟨g,i*13+6,none⟩=some (.int .i64 x.fc))/\(∀ z:Aft w,z.u.cell? ⟨g,i*13+7,none⟩=some (.int .i64 x.hl))/\(∀ z:Aft w,z.u.cell? ⟨g,i*13+8,none⟩=some (.int .i64 x.en))/\(∀ z:Aft w,z.u.cell? ⟨g,i*13+9,none⟩=some (.bool x.sh))/\(∀ z:Aft w,z.u.cell? ⟨g,i*13+10,none⟩=some (.int .i64 x.co))/\(∀ z:Aft w,z.u.cell? ⟨g,i*13+11,none⟩=some (.int .i64 x.ou))/\(∀ z:Aft w,z.u.cell? ⟨g,i*13+12,none⟩=some (.int .i64 x.sd)):=by
 subst hx
 obtain ⟨c0,c1,c2,c3,c4,c5,c6,c7,c8,c9,c10,c11,c12,_⟩:=owM h hi
 exact ⟨Cl.cell c0,Cl.cell c1,Cl.cell c2,Cl.cell c3,Cl.cell c4,Cl.cell c5,Cl.cell c6,Cl.cell c7,Cl.cell c8,Cl.cell c9,Cl.cell c10,Cl.cell c11,Cl.cell c12⟩
theorem owC_cl {e:TypeId} {w:World} {B g n cap:Nat} {L:List Scr} (h:OwG KC e w B (.slice (some ⟨g,0,none⟩) n cap) L) {i:Nat} (hi:i<L.length) {x:Scr} (hx:sc L i=x):(∀ z:Aft w,z.u.cell? ⟨g,i*4,none⟩=some (.int .i64 x.p))/\(∀ z:Aft w,z.u.cell? ⟨g,i*4+1,none⟩=some (.int .i64 x.h))/\(∀ z:Aft w,z.u.cell? ⟨g,i*4+2,none⟩=some (.int .i64 x.o))/\(∀ z:Aft w,z.u.cell? ⟨g,i*4+3,none⟩=some (.int .i64 x.k)):=by
 subst hx
 obtain ⟨c0,c1,c2,c3,_⟩:=owC h hi
 exact ⟨Cl.cell c0,Cl.cell c1,Cl.cell c2,Cl.cell c3⟩
theorem owS_cl {e:TypeId} {w:World} {B g n cap:Nat} {L:List Sh} (h:OwG KS e w B (.slice (some ⟨g,0,none⟩) n cap) L) {i:Nat} (hi:i<L.length) {x:Sh} (hx:ss L i=x):(∀ z:Aft w,z.u.cell? ⟨g,i*8,none⟩=some (.int .i64 x.no))/\(∀ z:Aft w,z.u.cell? ⟨g,i*8+1,none⟩=some (.int .i64 x.ow))/\(∀ z:Aft w,z.u.cell? ⟨g,i*8+2,none⟩=some (.int .i64 x.pw))/\(∀ z:Aft w,z.u.cell? ⟨g,i*8+3,none⟩=some (.int .i64 x.ax))/\(∀ z:Aft w,z.u.cell? ⟨g,i*8+4,none⟩=some (.int .i64 x.ay))/\(∀ z:Aft w,z.u.cell? ⟨g,i*8+5,none⟩=some (.int .i64 x.sx))/\(∀ z:Aft w,z.u.cell? ⟨g,i*8+6,none⟩=some (.int .i64 x.sy))/\(∀ z:Aft w,z.u.cell? ⟨g,i*8+7,none⟩=some (.int .i64 x.lf)):=by
 subst hx
 obtain ⟨c0,c1,c2,c3,c4,c5,c6,c7,_⟩:=owS h hi
 exact ⟨Cl.cell c0,Cl.cell c1,Cl.cell c2,Cl.cell c3,Cl.cell c4,Cl.cell c5,Cl.cell c6,Cl.cell c7⟩
theorem owQ_cl {e:TypeId} {w:World} {B g n cap:Nat} {L:List Pk} (h:OwG KQ e w B (.slice (some ⟨g,0,none⟩) n cap) L) {i:Nat} (hi:i<L.length) {x:Pk} (hx:pk L i=x):(∀ z:Aft w,z.u.cell? ⟨g,i*3,none⟩=some (.int .i64 x.no))/\(∀ z:Aft w,z.u.cell? ⟨g,i*3+1,none⟩=some (.int .i64 x.sp))/\(∀ z:Aft w,z.u.cell? ⟨g,i*3+2,none⟩=some (.int .i64 x.kd)):=by
 subst hx
 obtain ⟨c0,c1,c2,_⟩:=owQ h hi
 exact ⟨Cl.cell c0,Cl.cell c1,Cl.cell c2⟩
theorem owT_cl {e:TypeId} {w:World} {B g n cap:Nat} {L:List (Int × Int)} (h:OwG KT e w B (.slice (some ⟨g,0,none⟩) n cap) L) {i:Nat} (hi:i<L.length) {x:(Int × Int)} (hx:pp L i=x):(∀ z:Aft w,z.u.cell? ⟨g,i*2,none⟩=some (.int .i64 x.1))/\(∀ z:Aft w,z.u.cell? ⟨g,i*2+1,none⟩=some (.int .i64 x.2)):=by
 subst hx
 obtain ⟨c0,c1,_⟩:=owT h hi
 exact ⟨Cl.cell c0,Cl.cell c1⟩
end Go.Proofs.YtlibdheihodniaaGreatDoor
set_option maxRecDepth 100000
namespace Go.Proofs.YtlibdheihodniaaGreatDoor
def IsB (e:Ending) (Q:Prop):Prop:=∃ b,e=.returned (.bool b)/\(b=true ↔ Q)
theorem IsB.yes {Q:Prop} (h:Q):IsB (.returned (.bool true)) Q:=⟨true,rfl,⟨fun _=>h,fun _=>rfl⟩⟩
theorem IsB.no {Q:Prop} (h:¬ Q):IsB (.returned (.bool false)) Q:=⟨false,rfl,⟨fun e=>(by cases e),fun q=>absurd q h⟩⟩
end Go.Proofs.YtlibdheihodniaaGreatDoor
set_option maxRecDepth 100000
namespace Go.Proofs.YtlibdheihodniaaGreatDoor.Hg
open Pu Gp Ap Vp Np Za Ka Ja Ea Ha
section
variable {σ:Type} (step:σ->Int × Int->σ)
end
theorem rowS_rise (P:Nat->Nat->Bool) (n:Nat):∀ m,(rowS P n m).Pairwise (fun a b=>a.1<b.1)/\∀ t∈rowS P n m,0<=t.1/\t.1<(m:Int)
 | 0=>by simp [rowS]
 | m+1=>by
  obtain ⟨h1,h2⟩:=rowS_rise P n m
  rw [rowS]
  refine ⟨List.pairwise_append.2 ⟨h1, ?_,fun a ha b hb=>?_⟩,fun t ht=>?_⟩
  ·split <;> simp
  ·have:=h2 a ha
   split at hb
   ·simp at hb; subst hb; exact this.2
   ·simp at hb
  ·rcases List.mem_append.1 ht with h | h
   ·have:=h2 t h; omega
   ·split at h
    ·simp at h; subst h; simp; omega
    ·simp at h
theorem sho_rise {L:List Mv} {S:List Sh}:(sho L S).Pairwise (fun a b=>a.1<b.1)/\∀ t∈sho L S,0<=t.1/\t.1<(S.length:Int):=by
 unfold sho
 split
 ·exact rowS_rise _ _ _
 ·simp
theorem pic_rise {L:List Mv} {Q:List Pk} {T:List (Int × Int)}:(pic L Q T).Pairwise (fun a b=>a.1<b.1)/\∀ t∈pic L Q T,0<=t.1/\t.1<(Q.length:Int):=by
 unfold pic
 split
 ·exact rowS_rise _ _ _
 ·simp
theorem met_step (l:List (Int × Int)) (i k:Nat) (h:k<l.length):metB (l.take (k+1)) i=(metB (l.take k) i || (pp l k).1 == (i:Int)):=by
 have e:pp l k=l[k]:=by simp [pp,List.getD,h]
 unfold metB
 rw [List.take_succ_eq_append_getElem h,List.any_append,e]
 simp
theorem lefts_step {α:Type} (F:List α) (l:List (Int × Int)) (i:Nat) (h:i<F.length):lefts (F.take (i+1)) l=lefts (F.take i) l ++ (if metB l i then [] else [F[i]]):=by
 unfold lefts
 rw [List.take_succ_eq_append_getElem h,List.zipIdx_append,List.filter_append,List.map_append]
 simp only [List.length_take,Nat.min_eq_left (Nat.le_of_lt h),List.zipIdx_singleton,List.filter_cons,List.filter_nil,Nat.zero_add]
 cases metB l i <;> simp
theorem lefts_len {α:Type} (F:List α) (l:List (Int × Int)):(lefts F l).length<=F.length:=(lefts_sub F l).length_le
end Go.Proofs.YtlibdheihodniaaGreatDoor.Hg
namespace Go.Proofs.YtlibdheihodniaaGreatDoor
open Go.RowKit
open Pu Gp Ap Vp Np Za Ka Ja Ea Ha Hg
set_option maxRecDepth 100000
theorem len_one {n N:Nat} (h:(n+8)*24<=N):(n+1)*24<=N:=by omega
theorem len_two {α:Type} {L:List α} (x:α) {N:Nat} (h:(L.length+8)*24<=N):((L ++ [x]).length+1)*24<=N:=by
 have e:(L ++ [x]).length=L.length+1:=by simp
 omega
def glN (E:Env) (L:List Mv):Nat->List Mv
 | 0=>L
 | i+1=>(glN E L i).set i (gliM E.sol (mm L i))
theorem glN_len (E:Env) (L:List Mv):∀ i,(glN E L i).length=L.length
 | 0=>rfl
 | i+1=>by rw [glN,List.length_set,glN_len E L i]
theorem glN_at (E:Env) {L:List Mv}:∀ {i:Nat},i<=L.length->∀ k,k<L.length->mm (glN E L i) k=if k<i then gliM E.sol (mm L k) else mm L k
 | 0,_,k,_=>by simp [glN]
 | i+1,h,k,hk=>by
  rw [glN,mm_set (by rw [glN_len]; omega),glN_at E (by omega) k hk]
  by_cases e:k=i
  ·subst e; simp
  ·rw [if_neg e]
   by_cases hki:k<i
   ·rw [if_pos hki,if_pos (by omega)]
   ·rw [if_neg hki,if_neg (by omega)]
theorem glN_all (E:Env) (L:List Mv):glN E L L.length=L.map (gliM E.sol):=by
 apply List.ext_getElem
 ·rw [glN_len,List.length_map]
 ·intro i h1 h2
  rw [glN_len] at h1
  have:=glN_at E (L:=L) (Nat.le_refl _) i h1
  rw [if_pos h1,mm_at (by rw [glN_len]; exact h1),mm_at h1] at this
  rw [this,List.getElem_map]
theorem bod_pp {L:List Mv} {k:Nat} (h:k<(Ja.bod L).length):∃ i j:Nat,pp (Ja.bod L) k=((i:Int),(j:Int))/\i<L.length/\j<L.length:=by
 have hm:pp (Ja.bod L) k∈Ja.bod L:=by
  rw [show pp (Ja.bod L) k=(Ja.bod L)[k] by simp [pp,List.getD,h]]
  exact List.getElem_mem h
 unfold Ja.bod at hm
 split at hm
 ·obtain ⟨i,j,h1,h2,_,h4,_⟩:=allB_mem hm
  exact ⟨i,j,by unfold Ja.bod; rw [if_pos ‹_›]; exact h4,h1,h2⟩
 ·simp at hm
theorem bnc_take (l:List (Int × Int)) (g:Gm) {k:Nat} (h:k<l.length):bncs (l.take (k+1)) g=bnc1 (bncs (l.take k) g) (pp l k):=by
 unfold bncs
 rw [List.take_succ_eq_append_getElem h,List.foldl_append,show pp l k=l[k] by simp [pp,List.getD,h]]
 rfl
theorem bnc_keeps (l:List (Int × Int)):∀ g:Gm,(bncs l g).w.ms.length=g.w.ms.length/\(bncs l g).ns.length=g.ns.length+l.length:=by
 induction l with
 | nil=>intro g; exact ⟨rfl,rfl⟩
 | cons t l ih =>
  intro g
  have:=ih (bnc1 g t)
  unfold bncs at this ⊢
  rw [List.foldl_cons]
  refine ⟨this.1.trans (by simp [bnc1]),this.2.trans ?_⟩
  simp [bnc1]
  omega
def flyP (E:Env) (g:Gm):Gm:=⟨{ g.w with hs:=flsF E g.w.hs },g.ns⟩
def harmP (g:Gm):Gm:=⟨{ (harmR g.w.hs (sho g.w.ms g.w.hs) g).w with hs:=lefts g.w.hs (sho g.w.ms g.w.hs) },(harmR g.w.hs (sho g.w.ms g.w.hs) g).ns⟩
def takeP (E:Env) (g:Gm):Gm:=⟨{ (takR g.w.ks (pic g.w.ms g.w.ks E.sp) g).w with ks:=lefts g.w.ks (pic g.w.ms g.w.ks E.sp) },(takR g.w.ks (pic g.w.ms g.w.ks E.sp) g).ns⟩
def spwnP (E:Env) (f:Int) (g:Gm):Gm :=
 if g.w.nx<=1099511627776/\comes g.w.ks f (E.sp.length:Int) g.w.nx=true then
  ⟨{ g.w with ks:=g.w.ks ++ [spwn E.q f g.w.ks (E.sp.length:Int) g.w.nx],nx:=g.w.nx+1 },g.ns ++ [⟨6,(spwn E.q f g.w.ks (E.sp.length:Int) g.w.nx).sp,(spwn E.q f g.w.ks (E.sp.length:Int) g.w.nx).kd⟩]⟩
 else g
theorem harm_hs (H:List Sh) (g:Gm) (s:Sh) (t:Int):harm ⟨{ g.w with hs:=H },g.ns⟩ s t=⟨{ (harm g s t).w with hs:=H },(harm g s t).ns⟩:=by
 unfold harm
 dsimp only
 split <;> rfl
theorem harmR_hs (H F:List Sh):∀ (l:List (Int × Int)) (g:Gm),harmR F l ⟨{ g.w with hs:=H },g.ns⟩=⟨{ (harmR F l g).w with hs:=H },(harmR F l g).ns⟩
 | [],_=>rfl
 | t :: l,g=>by
  show harmR F l (harm ⟨{ g.w with hs:=H },g.ns⟩ (ss F t.1.toNat) t.2)=_
  rw [harm_hs,harmR_hs H F l]
  rfl
theorem shts_eq (E:Env) (g:Gm):shts E g=harmP (flyP E g):=by
 exact (congrArg (fun z:Gm=>(⟨{ z.w with hs:=lefts (flsF E g.w.hs) (sho g.w.ms (flsF E g.w.hs)) },z.ns⟩:Gm)) (harmR_hs (flsF E g.w.hs) (flsF E g.w.hs) (sho g.w.ms (flsF E g.w.hs)) g)).symm
theorem takR_ks (Q:List Pk):∀ (l:List (Int × Int)) (g:Gm),(takR Q l g).w.ks=g.w.ks/\(takR Q l g).w.nx=g.w.nx/\(takR Q l g).w.fr=g.w.fr/\(takR Q l g).w.hs=g.w.hs
 | [],_=>⟨rfl,rfl,rfl,rfl⟩
 | t :: l,g=>by
  have:=takR_ks Q l (take1 Q g t)
  exact ⟨this.1,this.2.1,this.2.2.1,this.2.2.2⟩
theorem pcks_eq (E:Env) (f:Int) (g:Gm):pcks E f g=spwnP E f (takeP E g):=by
 unfold pcks spwnP takeP
 dsimp only
theorem frame_eq (E:Env) (w:Wd) (l:List Cm):frame E w l=(let g1:=glid E (acts l ⟨w,[]⟩); let g3:=rsts E (spwnP E (w.fr+1) (takeP E (harmP (flyP E (bncs (bod g1.w.ms) g1))))); ⟨{ g3.w with fr:=w.fr+1 },g3.ns⟩):=by
 unfold frame
 dsimp only
 rw [shts_eq,pcks_eq]
theorem harmR_keeps (F:List Sh):∀ (l:List (Int × Int)) (g:Gm),(harmR F l g).w.fr=g.w.fr/\(harmR F l g).w.hs=g.w.hs/\(harmR F l g).w.ks=g.w.ks/\(harmR F l g).w.nx=g.w.nx
 | [],_=>⟨rfl,rfl,rfl,rfl⟩
 | t :: l,g=>by
  have h1:=harm_keeps g (ss F t.1.toNat) t.2
  have h2:=harmR_keeps F l (harm g (ss F t.1.toNat) t.2)
  exact ⟨h2.1.trans h1.1,h2.2.1.trans h1.2.1,h2.2.2.1.trans h1.2.2.1,h2.2.2.2.trans h1.2.2.2⟩
theorem fold_take {α β:Type} (f:β->α->β) (l:List α) (g:β) {k:Nat} (h:k<l.length):(l.take (k+1)).foldl f g=f ((l.take k).foldl f g) l[k]:=by
 rw [List.take_succ_eq_append_getElem h,List.foldl_append]
 rfl
theorem pp_get {l:List (Int × Int)} {k:Nat} (h:k<l.length):pp l k=l[k]:=by simp [pp,List.getD,h]
end Go.Proofs.YtlibdheihodniaaGreatDoor
namespace Go.Proofs.YtlibdheihodniaaGreatDoor
open Go.RowKit
open Pu Gp Ap Vp Np Za Ka Ja Ea Ha Hi
set_option maxRecDepth 100000
theorem wwithin_any (n a b:Int) (w:World):Calls Tryz.prog 27 #[.int .i64 n,.int .i64 a,.int .i64 b] w fun e w'=>e=.returned (.bool (decide (a<=n/\n<=b)))/\w'=w:=by
 by_cases h1:a<=n
 ·by_cases h2:n<=b
  ·rw [show decide (a<=n/\n<=b)=true by simp; omega]
   go_enter Tryz.func27,Tryz.ntmps27
   go_wp2_with fail
   go_ret
   exact ⟨rfl,rfl⟩
  ·rw [show decide (a<=n/\n<=b)=false by simp; omega]
   go_enter Tryz.func27,Tryz.ntmps27
   go_wp2_with fail
   go_ret
   exact ⟨rfl,rfl⟩
 ·rw [show decide (a<=n/\n<=b)=false by simp; omega]
  go_enter Tryz.func27,Tryz.ntmps27
  go_wp2_with fail
  go_ret
  exact ⟨rfl,rfl⟩
theorem wwithin64_any (n a b:Int) (w:World):Calls Tryz.prog 20 #[.int .i64 n,.int .i64 a,.int .i64 b] w fun e w'=>e=.returned (.bool (decide (a<=n/\n<=b)))/\w'=w:=by
 by_cases h1:a<=n
 ·by_cases h2:n<=b
  ·rw [show decide (a<=n/\n<=b)=true by simp; omega]
   go_enter Tryz.func20,Tryz.ntmps20
   go_wp2_with fail
   go_ret
   exact ⟨rfl,rfl⟩
  ·rw [show decide (a<=n/\n<=b)=false by simp; omega]
   go_enter Tryz.func20,Tryz.ntmps20
   go_wp2_with fail
   go_ret
   exact ⟨rfl,rfl⟩
 ·rw [show decide (a<=n/\n<=b)=false by simp; omega]
  go_enter Tryz.func20,Tryz.ntmps20
  go_wp2_with fail
  go_ret
  exact ⟨rfl,rfl⟩
def LagR (l:List Int) (i:Nat):Prop:=lgs l (i - 1)<lgs l i
theorem lgs_get {l:List Int} {i:Nat} (h:i<l.length):l[i]=lgs l i:=by simp [lgs,List.getD,h]
theorem lag_up {l:List Int} (h:∀ i,1<=i->i<l.length->LagR l i):∀ i j,i<=j->j<l.length->lgs l i<=lgs l j:=by
 intro i j
 induction j with
 | zero =>
  intro h1 _
  obtain rfl:i=0:=by omega
  exact Int.le_refl _
 | succ j ih =>
  intro h1 h2
  by_cases e:i=j+1
  ·subst e; exact Int.le_refl _
  ·have h3:=ih (by omega) (by omega)
   have h4:=h (j+1) (by omega) h2
   unfold LagR at h4
   rw [show j+1 - 1=j by omega] at h4
   omega
theorem lags_iff {l:List Int} (h2:2<=l.length) (h5:l.length<=5) (h0:lgs l 0=0) (hr:∀ i,1<=i->i<l.length->LagR l i):Lags l ↔ lgs l (l.length - 1)<48:=by
 constructor
 ·rintro ⟨_,_,_,h⟩
  exact (h (l.length - 1) (by omega) (by omega)).2
 ·intro h
  refine ⟨h2,h5,h0,fun i h1 hl=>⟨hr i h1 hl, ?_⟩⟩
  have:=lag_up hr i (l.length - 1) (by omega) (by omega)
  omega
theorem maylag_any (l:List Int) (lo:Option Addr) (n cap:Nat) (w:World) (hr:RdI w lo n cap l) :
  Calls Tryz.prog 28 #[.slice lo n cap] w fun e w'=>IsB e (Lags l)/\Still w w':=by
 have hln:=hr.len
 have hn:=hr.small
 have HR:=hid hr
 have HL:=hid hln
 clear hr hln
 by_cases t0:2<=(n:Int)/\(n:Int)<=5
 rotate_left
 ·have HW:Hid (∀ u,Calls Tryz.prog 27 #[.int .i64 (n:Int),.int .i64 2,.int .i64 5] u fun e w'=>e=.returned (.bool false)/\w'=u):=hid (fun u=>by have:=wwithin_any (n:Int) 2 5 u; rwa [decide_eq_false t0] at this)
  have HN:Hid (¬ Lags l):=hid (fun h=>by have:=h.1; have:=h.2.1; have:=HL.out; omega)
  clear t0
  go_enter Tryz.func28,Tryz.ntmps28
  go_wp2_with fail
  refine (HW.out _).mono ?_
  rintro e w1 ⟨he,hw⟩
  rw [he,hw]
  clear he hw w1
  go_wp2_with fail
  go_ret
  exact ⟨IsB.no HN.out,Fr.refl _ _⟩
 have HW:Hid (∀ u,Calls Tryz.prog 27 #[.int .i64 (n:Int),.int .i64 2,.int .i64 5] u fun e w'=>e=.returned (.bool true)/\w'=u):=hid (fun u=>by have:=wwithin_any (n:Int) 2 5 u; rwa [decide_eq_true t0] at this)
 have hn2:2<=n:=by omega
 have hn5:n<=5:=by omega
 clear t0
 obtain ⟨B,o,rfl⟩:=HR.out.addr (by omega)
 have l0:=HR.out.byte (k:=0) (by have:=HL.out; omega)
 rw [Nat.add_zero,lgs_get (by have:=HL.out; omega)] at l0
 have hpos:(0:Int)<(n:Int):=by omega
 go_enter Tryz.func28,Tryz.ntmps28
 go_wp2_with fail
 refine (HW.out _).mono ?_
 rintro e w1 ⟨he,hw⟩
 rw [he,hw]
 clear he hw w1
 obtain ⟨x0,ex0⟩:∃ x,lgs l 0=x:=⟨_,rfl⟩
 rw [ex0] at l0
 have EX:=hid ex0
 clear ex0
 by_cases t6:x0=0
 rotate_left
 ·have b6:(x0 != 0)=true:=by simpa using t6
  have HN:Hid (¬ Lags l):=hid (fun h=>t6 (by rw [<- EX.out]; exact h.2.2.1))
  clear t6
  go_wp2_with fail
  go_ret
  exact ⟨IsB.no HN.out,Fr.refl _ _⟩
 subst t6
 go_wp2_with fail
 clear l0
 have HI:Hid (∀ i,1<=i->i<l.length->¬ LagR l i->¬ Lags l):=hid (fun i h1 h2 h h3=>h (h3.2.2.2 i h1 h2).1)
 go_loopw [3] (fun u wr=>∃ i:Nat,1<=i/\i<=n/\u=.int .i64 (i:Int)/\Hid (∀ j,1<=j->j<i->LagR l j)/\Still w wr) (fun u _=>n - (intOf u).toNat)
 case atStart=>exact ⟨1,by omega,by omega,rfl,hid (fun j h1 h2=>by omega),Fr.refl _ _⟩
 case round =>
  obtain ⟨i,hi1,hi2,rfl,HJ,hs⟩:=hrel
  by_cases hin:i<n
  ·have hlt:(i:Int)<(n:Int):=by omega
   obtain ⟨m,rfl⟩:∃ m,i=m+1:=⟨i - 1,by omega⟩
   have la:=(HR.out.still hs).byte (k:=m+1) (by have:=HL.out; omega)
   have lb:=(HR.out.still hs).byte (k:=m) (by have:=HL.out; omega)
   rw [lgs_get (by have:=HL.out; omega)] at la lb
   have HD:Hid (LagR l (m+1) ↔ lgs l m<lgs l (m+1)):=hid Iff.rfl
   obtain ⟨x,ex⟩:∃ x,lgs l (m+1)=x:=⟨_,rfl⟩
   obtain ⟨y,ey⟩:∃ x,lgs l m=x:=⟨_,rfl⟩
   rw [ex] at la HD
   rw [ey] at lb HD
   clear ex ey
   have qa:=Cl.cell la
   have qb:=Cl.cell lb
   have hne:=Aft.here wr
   have z1:((m:Int)+1).toNat=m+1:=by omega
   have z3:(m:Int)+1<(n:Int):=by omega
   have z4:(m:Int)<(n:Int):=by omega
   have z5:(0:Int)<=(m:Int)+1:=by omega
   have HS:=hid hs
   have HY:Hid (LagR l (m+1)->∀ j,1<=j->j<m+1+1->LagR l j):=hid (fun h j h1 h2=>by
    by_cases e:j=m+1
    ·subst e; exact h
    ·exact HJ.out j h1 (by omega))
   clear HJ hs
   by_cases g1:x<=y
   ·have e1:decide (x<=y)=true:=decide_eq_true g1
    have HX:=hid (HI.out (m+1) hi1 (by have:=HL.out; omega) (fun h=>by have:=HD.out.1 h; omega))
    clear g1
    go_upto_region 6 with fail
    refine region_all (by kernel_rfl) (by kernel_rfl) ?_
    repeat (go_big_quiet_step (fail))
    refine wpQuiet_nil ?_
    intro w3 h3
    have HS3:=hid (HS.out.trans h3)
    clear h3 qa qb hne la lb
    go_wp2_with fail
    (first | rw [Exit.noGoto_ret] | skip)
    go_ret
    exact ⟨IsB.no HX.out,HS3.out⟩
   ·have e1:decide (x<=y)=false:=decide_eq_false g1
    have HX:=hid (HY.out (HD.out.2 (by omega)))
    clear g1
    go_upto_region 6 with fail
    refine region_all (by kernel_rfl) (by kernel_rfl) ?_
    repeat (go_big_quiet_step (fail))
    refine wpQuiet_nil ?_
    intro w3 h3
    have HS3:=hid (HS.out.trans h3)
    clear h3 qa qb hne la lb
    go_wp2_with fail
    go_roundw
    case rel=>exact ⟨m+1+1,by omega,by omega,by go_num,HX,HS3.out⟩
    case measure=>first | (simp [intOf]; done) | (simp [intOf]; omega)
  ·have hge:¬ (i:Int)<(n:Int):=by omega
   obtain rfl:i=n:=by omega
   have HF:=hid (lags_iff (l:=l) (by have:=HL.out; omega) (by have:=HL.out; omega) EX.out (fun j h1 h2=>HJ.out j h1 (by have:=HL.out; omega)))
   obtain ⟨m,rfl⟩:∃ m,i=m+1:=⟨i - 1,by omega⟩
   have la:=(HR.out.still hs).byte (k:=m) (by have:=HL.out; omega)
   rw [lgs_get (by have:=HL.out; omega)] at la
   have hm1:l.length - 1=m:=by have:=HL.out; omega
   rw [hm1] at HF
   obtain ⟨x,ex⟩:∃ x,lgs l m=x:=⟨_,rfl⟩
   rw [ex] at la HF
   have HS:=hid hs
   have z4:(m:Int)<(m:Int)+1:=by omega
   clear ex hs HJ hin hm1
   by_cases g1:x<48
   ·have e1:decide (x<48)=true:=decide_eq_true g1
    have HX:=hid (HF.out.2 g1)
    clear g1 HF
    go_wp2_with fail
    go_ret
    exact ⟨IsB.yes HX.out,HS.out⟩
   ·have e1:decide (x<48)=false:=decide_eq_false g1
    have HX:=hid (fun h=>g1 (HF.out.1 h))
    clear g1 HF
    go_wp2_with fail
    go_ret
    exact ⟨IsB.no HX.out,HS.out⟩
abbrev cfc (F:Cf):Array Value:=#[.int .i64 F.p,.int .u64 F.q,.int .i64 F.C,.int .i64 F.R,.string F.s,F.lg]
abbrev cfv (F:Cf):Value:=.agg (cfc F)
def Cfb (w:World) (g:Nat) (F:Cf):Prop:=w.heap[g]?=some (.cells (cfc F) 27 (0,0))
theorem Cfb.still {w w':World} {g:Nat} {F:Cf} (h:Cfb w g F) (hs:Still w w'):Cfb w' g F:=hs.kept_still h
theorem Cfb.cells {w:World} {g:Nat} {F:Cf} (h:Cfb w g F):w.cell? ⟨g,0,none⟩=some (.int .i64 F.p)/\w.cell? ⟨g,1,none⟩=some (.int .u64 F.q)/\w.cell? ⟨g,2,none⟩=some (.int .i64 F.C)/\w.cell? ⟨g,3,none⟩=some (.int .i64 F.R)/\w.cell? ⟨g,4,none⟩=some (.string F.s)/\w.cell? ⟨g,5,none⟩=some F.lg/\∀ o,w.frozen? ⟨g,o,none⟩=false:=by
 refine ⟨?_, ?_, ?_, ?_, ?_, ?_,fun o=>frozen_of_row w g o _ _ h⟩ <;> (rw [cell_of_row _ _ _ _ _ _ h]; rfl)
abbrev newCf (w:World) (F:Cf):World:=w.alloc (.cells (cfc F) 27)
theorem newCf_cb (w:World) (F:Cf):Cfb (newCf w F) w.heap.size F:=heap_alloc_new w _
end Go.Proofs.YtlibdheihodniaaGreatDoor
namespace Go.Proofs.YtlibdheihodniaaGreatDoor
open Go.RowKit
open Pu Gp Ap Vp Np Za Ka Ja Ea Ha
set_option maxRecDepth 100000
theorem st_mv {o:Oper} {ρ:Operand->Value} {x y:Operand} {u:World} {g:Nat} {m:Mv} (ho:o.op=.store 48 x y) (hx:ρ x=.pointer (some ⟨g,0,none⟩)) (hy:ρ y=mv m) (hh:u.heap[g]?=some (.cells (mcs zM) 48 (0,0))) :
  ∃ u',(execOp ρ o).run Tryz.prog u=.ok .skip u'/\u'.heap[g]?=some (.cells (mcs m) 48 (0,0))/\Fr (fun i=>i=g) u u':=by
 have hb:Mb u g zM:=hh
 obtain ⟨d0,d1,d2,d3,d4,d5,d6,d7,d8,d9,d10,d11,d12,df⟩:=hb.cells
 have hput:=hb.put m.ax m.ay m.sx m.sy m.px m.py m.fc m.hl m.en m.sh m.co m.ou m.sd
 refine ⟨(((((((((((((u.setCell ⟨g,0,none⟩ (.int .i64 m.ax)).setCell ⟨g,1,none⟩ (.int .i64 m.ay)).setCell ⟨g,2,none⟩ (.int .i64 m.sx)).setCell ⟨g,3,none⟩ (.int .i64 m.sy)).setCell ⟨g,4,none⟩ (.int .i64 m.px)).setCell ⟨g,5,none⟩ (.int .i64 m.py)).setCell ⟨g,6,none⟩ (.int .i64 m.fc)).setCell ⟨g,7,none⟩ (.int .i64 m.hl)).setCell ⟨g,8,none⟩ (.int .i64 m.en)).setCell ⟨g,9,none⟩ (.bool m.sh)).setCell ⟨g,10,none⟩ (.int .i64 m.co)).setCell ⟨g,11,none⟩ (.int .i64 m.ou)).setCell ⟨g,12,none⟩ (.int .i64 m.sd)), ?_,hput,((((((((((((((Fr.refl (fun i=>i=g) u).setCell ⟨g,0,none⟩ (.int .i64 m.ax) (.inl rfl)).setCell ⟨g,1,none⟩ (.int .i64 m.ay) (.inl rfl)).setCell ⟨g,2,none⟩ (.int .i64 m.sx) (.inl rfl)).setCell ⟨g,3,none⟩ (.int .i64 m.sy) (.inl rfl)).setCell ⟨g,4,none⟩ (.int .i64 m.px) (.inl rfl)).setCell ⟨g,5,none⟩ (.int .i64 m.py) (.inl rfl)).setCell ⟨g,6,none⟩ (.int .i64 m.fc) (.inl rfl)).setCell ⟨g,7,none⟩ (.int .i64 m.hl) (.inl rfl)).setCell ⟨g,8,none⟩ (.int .i64 m.en) (.inl rfl)).setCell ⟨g,9,none⟩ (.bool m.sh) (.inl rfl)).setCell ⟨g,10,none⟩ (.int .i64 m.co) (.inl rfl)).setCell ⟨g,11,none⟩ (.int .i64 m.ou) (.inl rfl)).setCell ⟨g,12,none⟩ (.int .i64 m.sd) (.inl rfl))⟩
 clear hput hb hh
 unfold execOp
 rw [ho]
 simp only [hx,hy]
 go_simp
theorem nw_mv {o:Oper} {ρ:Operand->Value} (ho:o.op=.alloc 48) (u:World):(execOp ρ o).run Tryz.prog u=.ok (.value (.pointer (some ⟨u.heap.size,0,none⟩))) (u.alloc (.cells (mcs zM) 48 (0,0))):=by
 unfold execOp
 rw [ho]
 go_simp
 try rfl
theorem st_sv {o:Oper} {ρ:Operand->Value} {x y:Operand} {u:World} {g:Nat} {m:Sh} (ho:o.op=.store 52 x y) (hx:ρ x=.pointer (some ⟨g,0,none⟩)) (hy:ρ y=sv m) (hh:u.heap[g]?=some (.cells (scs zS) 52 (0,0))) :
  ∃ u',(execOp ρ o).run Tryz.prog u=.ok .skip u'/\u'.heap[g]?=some (.cells (scs m) 52 (0,0))/\Fr (fun i=>i=g) u u':=by
 have hb:Sb u g zS:=hh
 obtain ⟨d0,d1,d2,d3,d4,d5,d6,d7,df⟩:=hb.cells
 have hput:=hb.put m.no m.ow m.pw m.ax m.ay m.sx m.sy m.lf
 refine ⟨((((((((u.setCell ⟨g,0,none⟩ (.int .i64 m.no)).setCell ⟨g,1,none⟩ (.int .i64 m.ow)).setCell ⟨g,2,none⟩ (.int .i64 m.pw)).setCell ⟨g,3,none⟩ (.int .i64 m.ax)).setCell ⟨g,4,none⟩ (.int .i64 m.ay)).setCell ⟨g,5,none⟩ (.int .i64 m.sx)).setCell ⟨g,6,none⟩ (.int .i64 m.sy)).setCell ⟨g,7,none⟩ (.int .i64 m.lf)), ?_,hput,(((((((((Fr.refl (fun i=>i=g) u).setCell ⟨g,0,none⟩ (.int .i64 m.no) (.inl rfl)).setCell ⟨g,1,none⟩ (.int .i64 m.ow) (.inl rfl)).setCell ⟨g,2,none⟩ (.int .i64 m.pw) (.inl rfl)).setCell ⟨g,3,none⟩ (.int .i64 m.ax) (.inl rfl)).setCell ⟨g,4,none⟩ (.int .i64 m.ay) (.inl rfl)).setCell ⟨g,5,none⟩ (.int .i64 m.sx) (.inl rfl)).setCell ⟨g,6,none⟩ (.int .i64 m.sy) (.inl rfl)).setCell ⟨g,7,none⟩ (.int .i64 m.lf) (.inl rfl))⟩
 clear hput hb hh
 unfold execOp
 rw [ho]
 simp only [hx,hy]
 go_simp
theorem nw_sv {o:Oper} {ρ:Operand->Value} (ho:o.op=.alloc 52) (u:World):(execOp ρ o).run Tryz.prog u=.ok (.value (.pointer (some ⟨u.heap.size,0,none⟩))) (u.alloc (.cells (scs zS) 52 (0,0))):=by
 unfold execOp
 rw [ho]
 go_simp
 try rfl
theorem st_kv {o:Oper} {ρ:Operand->Value} {x y:Operand} {u:World} {g:Nat} {m:Pk} (ho:o.op=.store 54 x y) (hx:ρ x=.pointer (some ⟨g,0,none⟩)) (hy:ρ y=kv m) (hh:u.heap[g]?=some (.cells (kcs zK) 54 (0,0))) :
  ∃ u',(execOp ρ o).run Tryz.prog u=.ok .skip u'/\u'.heap[g]?=some (.cells (kcs m) 54 (0,0))/\Fr (fun i=>i=g) u u':=by
 have hb:Kb u g zK:=hh
 obtain ⟨d0,d1,d2,df⟩:=hb.cells
 have hput:=hb.put m.no m.sp m.kd
 refine ⟨(((u.setCell ⟨g,0,none⟩ (.int .i64 m.no)).setCell ⟨g,1,none⟩ (.int .i64 m.sp)).setCell ⟨g,2,none⟩ (.int .i64 m.kd)), ?_,hput,((((Fr.refl (fun i=>i=g) u).setCell ⟨g,0,none⟩ (.int .i64 m.no) (.inl rfl)).setCell ⟨g,1,none⟩ (.int .i64 m.sp) (.inl rfl)).setCell ⟨g,2,none⟩ (.int .i64 m.kd) (.inl rfl))⟩
 clear hput hb hh
 unfold execOp
 rw [ho]
 simp only [hx,hy]
 go_simp
theorem nw_kv {o:Oper} {ρ:Operand->Value} (ho:o.op=.alloc 54) (u:World):(execOp ρ o).run Tryz.prog u=.ok (.value (.pointer (some ⟨u.heap.size,0,none⟩))) (u.alloc (.cells (kcs zK) 54 (0,0))):=by
 unfold execOp
 rw [ho]
 go_simp
 try rfl
structure P13 (x:World) (F:Cf) (E:Env):Prop where
 act:∀ (m:Mv) (v a b c:Int) (u:World),Still x u->Calls Tryz.prog 100 #[mv m,od v a b c] u fun e w'=>e=.returned (.tuple #[mv (actM m v a b c),.bool (actD m v a b c),.int .i64 (errA m v a b c)])/\Still u w'
 fire:∀ (m:Mv) (ow pw no:Int) (u:World),Still x u->Calls Tryz.prog 142 #[mv m,.int .i64 ow,.int .i64 pw,.int .i64 no] u fun e w'=>e=.returned (.tuple #[sv (firS m ow pw no),.int .i64 (errF m ow pw no)])/\Still u w'
 gli:∀ (m:Mv) (u:World),Calls Tryz.prog 103 #[mv m,ar F.C F.R F.s] u fun e w'=>e=.returned (.tuple #[mv (gliM E.sol m),.int .i64 (chkM m)])/\Still u w'
 bod:∀ (L:List Mv) (ao:Option Addr) (n cap:Nat) (u:World),RdG KM u ao n L->Calls Tryz.prog 104 #[.slice ao n cap] u fun e w'=>∃ v,e=.returned (.tuple #[v,.int .i64 (err11 (togB L))])/\OwG KT 168 w' u.heap.size v (Ja.bod L)/\Still u w'
 apt:∀ (a b:Mv) (u:World),Calls Tryz.prog 105 #[mv a,mv b] u fun e w'=>e=.returned (.tuple #[mv (aptA a b),mv (aptA b a),.int .i64 (err11 (aptE a b))])/\Still u w'
 fly:∀ (s:Sh) (u:World),Calls Tryz.prog 106 #[sv s,ar F.C F.R F.s] u fun e w'=>e=.returned (.tuple #[sv (flyS E.sol s),.bool (goes E.sol s),.int .i64 (chkS s)])/\Still u w'
 sho:∀ (L:List Mv) (S:List Sh) (ao:Option Addr) (n cap:Nat) (so:Option Addr) (r scap:Nat) (u:World),RdG KM u ao n L->RdG KS u so r S->Calls Tryz.prog 107 #[.slice ao n cap,.slice so r scap] u fun e w'=>∃ v,e=.returned (.tuple #[v,.int .i64 (err11 (shoE L S))])/\OwG KT 168 w' u.heap.size v (Ja.sho L S)/\Still u w'
 hur:∀ (m:Mv) (h:Int) (u:World),Calls Tryz.prog 157 #[mv m,.int .i64 h] u fun e w'=>e=.returned (.tuple #[mv (hurM m h),.bool (hurD m h),.int .i64 (errH m h)])/\Still u w'
 dmg:∀ (p:Int) (u:World),Calls Tryz.prog 158 #[.int .i64 p] u fun e w'=>e=.returned (.int .i64 (Za.dmg p))/\w'=u
 hit:∀ (a b:Scr) (n:Int) (out:Bool) (u:World),Calls Tryz.prog 159 #[cv a,cv b,.int .i64 n,.bool out] u fun e w'=>e=.returned (.tuple #[cv (hit1 a b n out),cv (hit2 a b n out),.int .i64 (errC a b n)])/\Still u w'
 pic:∀ (L:List Mv) (Q:List Pk) (T:List (Int × Int)) (ao:Option Addr) (n cap:Nat) (po:Option Addr) (r pcap:Nat) (xo:Option Addr) (t tcap:Nat) (u:World),RdG KM u ao n L->RdK u po r Q->RdG KT u xo t T->r<=pcap->Calls Tryz.prog 110 #[.slice ao n cap,.slice po r pcap,.slice xo t tcap] u fun e w'=>∃ v,e=.returned (.tuple #[v,.int .i64 (err11 (picE L Q T))])/\OwG KT 168 w' u.heap.size v (Ja.pic L Q T)/\Still u w'
 tak:∀ (m:Mv) (k:Int) (u:World),Calls Tryz.prog 111 #[mv m,.int .i64 k] u fun e w'=>e=.returned (.tuple #[mv (takM m k),.int .i64 (takP m k),.int .i64 (errT m k)])/\Still u w'
 gai:∀ (s:Scr) (n:Int) (u:World),Calls Tryz.prog 112 #[cv s,.int .i64 n] u fun e w'=>e=.returned (.tuple #[cv (gain s n),.int .i64 (errG s n)])/\Still u w'
 spw:∀ (f s no:Int) (L:List Pk) (ao:Option Addr) (n cap:Nat) (u:World),Still x u->RdK u ao n L->n<=cap->Calls Tryz.prog 114 #[.int .u64 F.q,.int .i64 f,.slice ao n cap,.int .i64 s,.int .i64 no] u fun e w'=>e=.returned (.tuple #[kv (spwn E.q f L s no),.bool (comes L f s no),.int .i64 (errK L f s no)])/\Still u w'
 res:∀ (m:Mv) (x y:Int) (u:World),Calls Tryz.prog 115 #[mv m,pt x y] u fun e w'=>e=.returned (.tuple #[mv (resM m x y),.bool (resD m),.int .i64 (chkM m)])/\Still u w'
end Go.Proofs.YtlibdheihodniaaGreatDoor
namespace Go.Proofs.YtlibdheihodniaaGreatDoor
open Go.RowKit
open Pu Gp Ap Vp Np Za Ka Ja Ea Ha Hg
set_option maxRecDepth 100000
theorem fhurt_any (x:World) (S:Se) (E:Env) (D:P13 x S.F E) (B g:Nat) (G:Gm) (s:Sh) (T O N:Nat) (w:World) (hB:B<=w.heap.size) (h:FmM B w g S G) (hM:G.w.ms.length=N) (hC:G.w.cs.length=N) (hT:T<N) (hO:O<N) (hso:s.ow=(O:Int)) (h47:(G.ns.length+8)*24<=140737488355328) :
  Calls Tryz.prog 108 #[.pointer (some ⟨g,0,none⟩),.int .i64 (T:Int),sv s] w fun e w'=>(∃ v,e=.returned v)/\FmM B w' g S (harm G s (T:Int))/\FrT B [95,48,50,44] w w':=by
 have HD:=hid D
 have H:=hid h
 have hTl:(T:Int)<(N:Int):=by omega
 have hOl:(O:Int)<(N:Int):=by omega
 have A0:=Still.alloc w (.cells (scs s) 52)
 have p0:=newS_sb w s
 obtain ⟨va,vb,vc,vd,ve,hx⟩:=h.still A0
 obtain ⟨gm,cpm,rfl,hgm,hgm2⟩:=hx.o1.head (by omega)
 rw [hM] at hx
 have HX:=hid hx
 have HA0:=hid A0
 have HP0:=hid p0
 have HMl:=hid hM
 have HCl:=hid hC
 have HLn1:=hid (len_one h47)
 have HLn2:=hid (len_two (⟨2,(T:Int),(O:Int)⟩:Nn) h47)
 have HHu:=hid (fun u=>HD.out.hur (mm G.w.ms T) (Za.dmg s.pw) u)
 have HDm:=hid (fun u=>(HD.out.dmg s.pw u).mono fun e w' (he:_/\_)=>And.intro he.1 (show Still u w' from he.2 ▸ Fr.refl _ _))
 obtain ⟨c0,c1,c2,c3,c4,c5,c6,c7,c8,c9,c10,c11,c12,c13,c14,c15,cf⟩:=hx.k.cells
 obtain ⟨d0,d1,d2,d3,d4,d5,d6,d7,d8,d9,d10,d11,d12,df⟩:=owM hx.o1 (i:=T) (by omega)
 have HHm:Hid (harm G s (T:Int)=if (mm G.w.ms T).ou > 0 then G else ⟨{ G.w with ms:=G.w.ms.set T (hurM (mm G.w.ms T) (Za.dmg s.pw)),cs:=(G.w.cs.set O (hit1 (sc G.w.cs O) (sc G.w.cs T) s.pw (hurD (mm G.w.ms T) (Za.dmg s.pw)))).set T (hit2 (sc G.w.cs O) (sc G.w.cs T) s.pw (hurD (mm G.w.ms T) (Za.dmg s.pw))) },G.ns ++ [⟨2,(T:Int),(O:Int)⟩] ++ (if hurD (mm G.w.ms T) (Za.dmg s.pw) then [⟨3,(T:Int),(O:Int)⟩] else [])⟩):=hid (by
  unfold harm
  rw [hso]
  simp only [Int.toNat_natCast])
 obtain ⟨m0,em0⟩:∃ m,mm G.w.ms T=m:=⟨_,rfl⟩
 have EM:=hid em0
 rw [em0] at d0 d1 d2 d3 d4 d5 d6 d7 d8 d9 d10 d11 d12 HHu HHm
 obtain ⟨dg,edg⟩:∃ m,Za.dmg s.pw=m:=⟨_,rfl⟩
 rw [edg] at HHu HDm HHm
 clear em0 edg hx A0 p0 hM hC h47 D h hgm hgm2
 by_cases hou:m0.ou > 0
 ·rw [if_pos hou] at HHm
  go_enter Tryz.func108,Tryz.ntmps108
  go_wp2_with fail
  refine bodyPost_ret (results_none rfl _ _ _) rfl ?_
  refine ⟨⟨_,rfl⟩, ?_,FrT.of_still HA0.out⟩
  rw [HHm.out]
  exact H.out.still HA0.out
 rw [if_neg hou] at HHm
 obtain ⟨m1,em1⟩:∃ m,hurM m0 dg=m:=⟨_,rfl⟩
 obtain ⟨dn,edn⟩:∃ m,hurD m0 dg=m:=⟨_,rfl⟩
 obtain ⟨e1,ee1⟩:∃ m,errH m0 dg=m:=⟨_,rfl⟩
 rw [em1,edn,ee1] at HHu
 rw [em1,edn] at HHm
 obtain ⟨a0,a1,a2,a3,a4,a5,a6,a7,af⟩:=HP0.out.cells
 rw [hso] at a1
 clear em1 edn ee1
 go_enter Tryz.func108,Tryz.ntmps108
 go_upto_region 2 with fail
 refine region_mk1 16 6 (.cells (mcs zM) 48 (0,0)) (.cells (mcs m1) 48 (0,0)) (by kernel_rfl) (by kernel_rfl) (by kernel_rfl) (by kernel_rfl) rfl rfl (fun u b=>nw_mv rfl u) (fun u=>heap_alloc_new u _) ?_
 apply Exists.intro
 refine And.intro ?_ (And.intro ?_ ?_)
 ·intro u hu
  obtain ⟨k0,k1,k2,k3,k4,k5,k6,k7,k8,k9,k10,k11,k12,k13,k14,k15⟩:=(HX.out.still hu).k.cl
  obtain ⟨l0,l1,l2,l3,l4,l5,l6,l7,l8,l9,l10,l11,l12⟩:=owM_cl (HX.out.still hu).o1 (i:=T) (by rw [HMl.out]; exact hT) EM.out
  obtain ⟨n0,n1,n2,n3,n4,n5,n6,n7⟩:=(HP0.out.still hu).cl
  have hne:=Aft.here u
  simp only [qlist,List.take_succ_cons,List.take_zero,List.drop_succ_cons,List.drop_zero,List.cons_append,List.nil_append,Nat.mul_one,Nat.reduceAdd]
  repeat (go_big_quiet_step ((first | (go_at_call 158; with_reducible exact Calls.cl (HDm.out _)) | (go_at_call 157; with_reducible exact Calls.cl (HHu.out _)))))
  exact wpQuiet_nil rfl
 ·exact fun u h hh=>st_mv rfl rfl rfl hh
 intro w2 g1 h2 hg1 hm1
 have p2:Mb w2 g1 m1:=hm1
 have HS2:=hid h2
 have HX2:=hid (HX.out.still h2)
 have HP2:=hid (HP0.out.still h2)
 clear c0 c1 c2 c3 c4 c5 c6 c7 c8 c9 c10 c11 c12 c13 c14 c15 cf d0 d1 d2 d3 d4 d5 d6 d7 d8 d9 d10 d11 d12 df a0 a1 a2 a3 a4 a5 a6 a7 af h2 hm1 HHu HDm HX HP0
 obtain ⟨k0,k1,k2,k3,k4,k5,k6,k7,k8,k9,k10,k11,k12,k13,k14,k15⟩:=HX2.out.k.cl
 obtain ⟨l0,l1,l2,l3,l4,l5,l6,l7,l8,l9,l10,l11,l12⟩:=p2.cl
 have hne:=Aft.here w2
 simp only [Act.put,List.setIfInBounds_toArray,List.set_cons_succ,List.set_cons_zero]
 go_upto_region 3 with fail
 refine region_rest 8 (by kernel_rfl) (by kernel_rfl) ?_
 simp only [List.take_succ_cons,List.take_zero,List.drop_succ_cons,List.drop_zero]
 repeat (go_big_quiet_step (fail))
 refine wpQuiet_nil ?_
 intro w3 h3
 have HS3:=hid (HS2.out.trans h3)
 have hX3:=HX2.out.still h3
 have HP3:=hid (HP2.out.still h3)
 obtain ⟨d0,d1,d2,d3,d4,d5,d6,d7,d8,d9,d10,d11,d12,df⟩:=owM hX3.o1 (i:=T) (by rw [HMl.out]; exact hT)
 rw [EM.out] at d0 d1 d2 d3 d4 d5 d6 d7 d8 d9 d10 d11 d12
 obtain ⟨hX4,hT4⟩:=hX3.putM (i:=T) (by rw [HMl.out]; exact hT) m1
 obtain ⟨W4,eW4⟩:∃ W,(((((((((((((w3.setCell ⟨gm,T*13,none⟩ (.int .i64 m1.ax)).setCell ⟨gm,T*13+1,none⟩ (.int .i64 m1.ay)).setCell ⟨gm,T*13+2,none⟩ (.int .i64 m1.sx)).setCell ⟨gm,T*13+3,none⟩ (.int .i64 m1.sy)).setCell ⟨gm,T*13+4,none⟩ (.int .i64 m1.px)).setCell ⟨gm,T*13+5,none⟩ (.int .i64 m1.py)).setCell ⟨gm,T*13+6,none⟩ (.int .i64 m1.fc)).setCell ⟨gm,T*13+7,none⟩ (.int .i64 m1.hl)).setCell ⟨gm,T*13+8,none⟩ (.int .i64 m1.en)).setCell ⟨gm,T*13+9,none⟩ (.bool m1.sh)).setCell ⟨gm,T*13+10,none⟩ (.int .i64 m1.co)).setCell ⟨gm,T*13+11,none⟩ (.int .i64 m1.ou)).setCell ⟨gm,T*13+12,none⟩ (.int .i64 m1.sd))=W:=⟨_,rfl⟩
 have HX4:Hid (Fx B W4 g S ⟨{ G.w with ms:=G.w.ms.set T m1 },G.ns⟩ (.slice (some ⟨gm,0,none⟩) N cpm) vb vc vd ve):=hid (by rw [<- eW4]; exact hX4)
 have HT4:Hid (FrT B [48] w3 W4):=hid (by rw [<- eW4]; exact hT4)
 have HSb4:Hid (Sb W4 w.heap.size s):=hid (HT4.out.kept HP3.out (by decide))
 have HFW:Hid (FrT B [95,48,50,44] w W4):=hid ((FrT.of_still (HA0.out.trans HS3.out)).trans (HT4.out.mono (by simp)))
 clear h3 hne k0 k1 k2 k3 k4 k5 k6 k7 k8 k9 k10 k11 k12 k13 k14 k15 l0 l1 l2 l3 l4 l5 l6 l7 l8 l9 l10 l11 l12 hX3 hX4 hT4 HX2 HS2 HS3 HP2 HP3 p2 HA0 HT4
 obtain ⟨gc,cpc,rfl,hgc,hgc2⟩:=HX4.out.o2.head (by rw [HCl.out]; omega)
 have hx4:=HX4.out
 simp only [HCl.out] at hx4
 have HX:=hid hx4
 have HHi:=hid (fun u=>HD.out.hit (sc G.w.cs O) (sc G.w.cs T) s.pw dn u)
 obtain ⟨x0,ex0⟩:∃ m,sc G.w.cs O=m:=⟨_,rfl⟩
 obtain ⟨y0,ey0⟩:∃ m,sc G.w.cs T=m:=⟨_,rfl⟩
 have EX:=hid ex0
 have EY:=hid ey0
 rw [ex0] at HHi HHm
 rw [ey0] at HHi HHm
 obtain ⟨X1,eX1⟩:∃ m,hit1 x0 y0 s.pw dn=m:=⟨_,rfl⟩
 obtain ⟨Y1,eY1⟩:∃ m,hit2 x0 y0 s.pw dn=m:=⟨_,rfl⟩
 obtain ⟨e2,ee2⟩:∃ m,errC x0 y0 s.pw=m:=⟨_,rfl⟩
 rw [eX1,eY1,ee2] at HHi
 rw [eX1,eY1] at HHm
 clear ex0 ey0 eX1 eY1 ee2 hx4 HX4
 go_upto_region 4 with fail
 refine region_late 38 (by kernel_rfl) (by kernel_rfl) (by kernel_rfl) ?_
 apply Exists.intro
 refine And.intro ?_ ?_
 ·intro u hu
  obtain ⟨k0,k1,k2,k3,k4,k5,k6,k7,k8,k9,k10,k11,k12,k13,k14,k15⟩:=(HX.out.still hu).k.cl
  obtain ⟨l0,l1,l2,l3⟩:=owC_cl (HX.out.still hu).o2 (i:=O) (by simp only [HCl.out]; exact hO) EX.out
  obtain ⟨j0,j1,j2,j3⟩:=owC_cl (HX.out.still hu).o2 (i:=T) (by simp only [HCl.out]; exact hT) EY.out
  obtain ⟨n0,n1,n2,n3,n4,n5,n6,n7⟩:=(HSb4.out.still hu).cl
  rw [hso] at n1
  have hne:=Aft.here u
  simp only [List.take_succ_cons,List.take_zero]
  repeat (go_big_quiet_step ((first | (go_at_call 159; with_reducible exact Calls.cl (HHi.out _)))))
  exact wpQuiet_nil rfl
 intro w5 h5
 simp only [List.drop_succ_cons,List.drop_zero]
 have hX5:=HX.out.still h5
 have HSb5:=hid (HSb4.out.still h5)
 have HS5:=hid h5
 obtain ⟨d0,d1,d2,d3,df⟩:=owC hX5.o2 (i:=O) (by simp only [HCl.out]; exact hO)
 obtain ⟨hX6,hT6⟩:=hX5.putC (i:=O) (by simp only [HCl.out]; exact hO) X1
 obtain ⟨W6,eW6⟩:∃ W,((((w5.setCell ⟨gc,O*4,none⟩ (.int .i64 X1.p)).setCell ⟨gc,O*4+1,none⟩ (.int .i64 X1.h)).setCell ⟨gc,O*4+2,none⟩ (.int .i64 X1.o)).setCell ⟨gc,O*4+3,none⟩ (.int .i64 X1.k))=W:=⟨_,rfl⟩
 have hx6:Fx B W6 g S ⟨{ G.w with ms:=G.w.ms.set T m1,cs:=G.w.cs.set O X1 },G.ns⟩ (.slice (some ⟨gm,0,none⟩) N cpm) (.slice (some ⟨gc,0,none⟩) N cpc) vc vd ve:=by rw [<- eW6]; exact hX6
 have ht6:FrT B [50] w5 W6:=by rw [<- eW6]; exact hT6
 obtain ⟨b0,b1,b2,b3,bf⟩:=owC hx6.o2 (i:=T) (by simp only [List.length_set,HCl.out]; exact hT)
 obtain ⟨hX7,hT7⟩:=hx6.putC (i:=T) (by simp only [List.length_set,HCl.out]; exact hT) Y1
 obtain ⟨W7,eW7⟩:∃ W,((((W6.setCell ⟨gc,T*4,none⟩ (.int .i64 Y1.p)).setCell ⟨gc,T*4+1,none⟩ (.int .i64 Y1.h)).setCell ⟨gc,T*4+2,none⟩ (.int .i64 Y1.o)).setCell ⟨gc,T*4+3,none⟩ (.int .i64 Y1.k))=W:=⟨_,rfl⟩
 have HX7:Hid (Fx B W7 g S ⟨{ G.w with ms:=G.w.ms.set T m1,cs:=(G.w.cs.set O X1).set T Y1 },G.ns⟩ (.slice (some ⟨gm,0,none⟩) N cpm) (.slice (some ⟨gc,0,none⟩) N cpc) vc vd ve):=hid (by rw [<- eW7]; exact hX7)
 have HT7:Hid (FrT B [50] w5 W7):=hid (by rw [<- eW7]; exact ht6.trans hT7)
 have HSb7:Hid (Sb W7 w.heap.size s):=hid (HT7.out.kept HSb5.out (by decide))
 have HFW7:Hid (FrT B [95,48,50,44] w W7):=hid ((HFW.out.then HS5.out).trans (HT7.out.mono (by simp)))
 clear h5 hX5 hX6 hT6 hx6 ht6 hX7 hT7 HX HSb4 HSb5 HS5 HFW HHi HT7
 go_wp2_with fail
 refine ⟨rfl, ?_⟩
 have HNt:=hid (wnote_any B g S _ 2 (T:Int) (O:Int) W7 (by have:=HFW7.out.size; omega) ⟨_,_,_,_,_,HX7.out⟩ HLn1.out)
 obtain ⟨b0,b1,b2,b3,b4,b5,b6,b7,bf⟩:=HSb7.out.cells
 rw [hso] at b1
 clear HX7
 go_wp2_with fail
 refine HNt.out.mono ?_
 rintro e w8 ⟨⟨v8,rfl⟩,hg8,hf8⟩
 have HF8:=hid (HFW7.out.trans (hf8.mono (by simp)))
 have HSb8:Hid (Sb w8 w.heap.size s):=hid (hf8.kept HSb7.out (by decide))
 have HG8:=hid hg8
 clear hf8 hg8 HNt HFW7 HSb7 b0 b1 b2 b3 b4 b5 b6 b7 bf
 cases dn with
 | false =>
  go_wp2_with fail
  go_end0
  refine ⟨⟨_,rfl⟩, ?_,HF8.out⟩
  rw [HHm.out]
  simpa using HG8.out
 | true =>
  have HNt:=hid (wnote_any B g S _ 3 (T:Int) (O:Int) w8 (by have:=HF8.out.size; omega) HG8.out HLn2.out)
  obtain ⟨b0,b1,b2,b3,b4,b5,b6,b7,bf⟩:=HSb8.out.cells
  rw [hso] at b1
  clear HG8
  go_wp2_with fail
  refine HNt.out.mono ?_
  rintro e w9 ⟨⟨v9,rfl⟩,hg9,hf9⟩
  have HF9:=hid (HF8.out.trans (hf9.mono (by simp)))
  have HG9:=hid hg9
  clear hf9 hg9 HNt HF8 HSb8 b0 b1 b2 b3 b4 b5 b6 b7 bf
  go_wp2_with fail
  go_end0
  refine ⟨⟨_,rfl⟩, ?_,HF9.out⟩
  rw [HHm.out]
  simpa using HG9.out
theorem wglide_any (x:World) (S:Se) (E:Env) (D:P13 x S.F E) (B g:Nat) (G:Gm) (w:World) (h:FmM B w g S G) (h6:G.w.ms.length<=6) :
  Calls Tryz.prog 62 #[.pointer (some ⟨g,0,none⟩)] w fun e w'=>(∃ v,e=.returned v)/\FmM B w' g S (glid E G)/\FrT B [48] w w':=by
 have HD:=hid D
 obtain ⟨va,vb,vc,vd,ve,hx⟩:=h
 obtain ⟨ao,cpm,rfl,_⟩:=hx.o1.slice
 obtain ⟨N,eN⟩:∃ n,G.w.ms.length=n:=⟨_,rfl⟩
 have HN:=hid eN
 rw [eN] at hx h6
 have HX:=hid hx
 obtain ⟨c0,c1,c2,c3,c4,c5,c6,c7,c8,c9,c10,c11,c12,c13,c14,c15,cf⟩:=hx.k.cells
 clear hx D eN
 go_enter Tryz.func62,Tryz.ntmps62
 go_wp2_with fail
 clear c0 c1 c2 c3 c4 c5 c6 c7 c8 c9 c10 c11 c12 c13 c14 c15 cf
 go_loopw [10] (fun u wr=>∃ i:Nat,i<=N/\u=.int .i64 (i:Int)/\Fx B wr g S ⟨{ G.w with ms:=glN E G.w.ms i },G.ns⟩ (.slice ao N cpm) vb vc vd ve/\FrT B [48] w wr) (fun u _=>N - (intOf u).toNat)
 case atStart=>exact ⟨0,by omega,rfl,by simpa [glN] using HX.out,FrT.refl _ _ _⟩
 case round =>
  obtain ⟨i,hi,rfl,hx,hf⟩:=hrel
  have hml:(glN E G.w.ms i).length=N:=by rw [glN_len,HN.out]
  have HML:=hid hml
  by_cases hin:i<N
  ·have hlt:(i:Int)<(N:Int):=by omega
   obtain ⟨gm,cpm',hv,_,_⟩:=hx.o1.head (by simp only [hml]; omega)
   simp only [Value.slice.injEq] at hv
   obtain ⟨rfl,hv1,hv2⟩:=hv
   clear hv1 hv2
   have HF:=hid hf
   have HE1:Hid (mm (glN E G.w.ms i) i=mm G.w.ms i):=hid (by rw [glN_at E (by rw [HN.out]; omega) i (by rw [HN.out]; omega)]; simp)
   have HGl:=hid (fun u=>HD.out.gli (mm (glN E G.w.ms i) i) u)
   obtain ⟨d0,d1,d2,d3,d4,d5,d6,d7,d8,d9,d10,d11,d12,df⟩:=owM hx.o1 (i:=i) (by simp only [hml]; omega)
   obtain ⟨m0,em0⟩:∃ m,mm (glN E G.w.ms i) i=m:=⟨_,rfl⟩
   have EM:=hid em0
   simp only [em0] at d0 d1 d2 d3 d4 d5 d6 d7 d8 d9 d10 d11 d12
   rw [em0] at HGl
   obtain ⟨m1,em1⟩:∃ m,gliM E.sol m0=m:=⟨_,rfl⟩
   obtain ⟨e1,ee1⟩:∃ m,chkM m0=m:=⟨_,rfl⟩
   rw [em1,ee1] at HGl
   have HNx:Hid (glN E G.w.ms (i+1)=(glN E G.w.ms i).set i m1):=hid (by rw [glN,<- HE1.out,em0,em1])
   have A1:=Still.alloc wr (.cells (mcs m0) 48)
   have HX1:=hid (hx.still A1)
   have HP1:=hid (newM_mb wr m0)
   have HA1:=hid A1
   clear em0 em1 ee1 hx hf A1 HE1 hml
   go_upto_region 3 with fail
   refine region_late 17 (by kernel_rfl) (by kernel_rfl) (by kernel_rfl) ?_
   apply Exists.intro
   refine And.intro ?_ ?_
   ·intro u hu
    obtain ⟨k0,k1,k2,k3,k4,k5,k6,k7,k8,k9,k10,k11,k12,k13,k14,k15⟩:=(HX1.out.still hu).k.cl
    obtain ⟨l0,l1,l2,l3,l4,l5,l6,l7,l8,l9,l10,l11,l12⟩:=(HP1.out.still hu).cl
    have hne:=Aft.here u
    simp only [List.take_succ_cons,List.take_zero]
    repeat (go_big_quiet_step ((first | (go_at_call 103; with_reducible exact Calls.cl (HGl.out _)))))
    exact wpQuiet_nil rfl
   intro w2 h2
   simp only [List.drop_succ_cons,List.drop_zero]
   have hX2:=HX1.out.still h2
   have HS2:=hid (HA1.out.trans h2)
   clear d0 d1 d2 d3 d4 d5 d6 d7 d8 d9 d10 d11 d12 df
   obtain ⟨d0,d1,d2,d3,d4,d5,d6,d7,d8,d9,d10,d11,d12,df⟩:=owM hX2.o1 (i:=i) (by simp only [HML.out]; omega)
   obtain ⟨hX3,hT3⟩:=hX2.putM (i:=i) (by simp only [HML.out]; omega) m1
   obtain ⟨W3,eW3⟩:∃ W,(((((((((((((w2.setCell ⟨gm,i*13,none⟩ (.int .i64 m1.ax)).setCell ⟨gm,i*13+1,none⟩ (.int .i64 m1.ay)).setCell ⟨gm,i*13+2,none⟩ (.int .i64 m1.sx)).setCell ⟨gm,i*13+3,none⟩ (.int .i64 m1.sy)).setCell ⟨gm,i*13+4,none⟩ (.int .i64 m1.px)).setCell ⟨gm,i*13+5,none⟩ (.int .i64 m1.py)).setCell ⟨gm,i*13+6,none⟩ (.int .i64 m1.fc)).setCell ⟨gm,i*13+7,none⟩ (.int .i64 m1.hl)).setCell ⟨gm,i*13+8,none⟩ (.int .i64 m1.en)).setCell ⟨gm,i*13+9,none⟩ (.bool m1.sh)).setCell ⟨gm,i*13+10,none⟩ (.int .i64 m1.co)).setCell ⟨gm,i*13+11,none⟩ (.int .i64 m1.ou)).setCell ⟨gm,i*13+12,none⟩ (.int .i64 m1.sd))=W:=⟨_,rfl⟩
   have HX3:Hid (Fx B W3 g S ⟨{ G.w with ms:=(glN E G.w.ms i).set i m1 },G.ns⟩ (.slice (some ⟨gm,0,none⟩) N cpm) vb vc vd ve):=hid (by rw [<- eW3]; exact hX3)
   have HF3:Hid (FrT B [48] w W3):=hid ((HF.out.then HS2.out).trans (by rw [<- eW3]; exact hT3))
   clear h2 hX2 hX3 hT3 HX1 HP1 HA1 HS2 HF HGl
   go_wp2_with fail
   refine ⟨rfl, ?_⟩
   clear d0 d1 d2 d3 d4 d5 d6 d7 d8 d9 d10 d11 d12 df eW3
   go_wp2_with fail
   go_roundw
   case rel=>exact ⟨i+1,by omega,by go_num,by rw [HNx.out]; exact HX3.out,HF3.out⟩
   case measure=>first | (simp [intOf]; done) | (simp [intOf]; omega)
  ·have hge:¬ (i:Int)<(N:Int):=by omega
   obtain rfl:i=N:=by omega
   have HX1:=hid hx
   have HF:=hid hf
   clear hx hf hin hml
   go_wp2_with fail
   go_end0
   refine ⟨⟨_,rfl⟩, ?_,HF.out⟩
   have e:glid E G=⟨{ G.w with ms:=glN E G.w.ms i },G.ns⟩:=by
    unfold glid
    rw [<- glN_all,HN.out]
   rw [e]
   exact ⟨_,_,_,_,_,HX1.out⟩
theorem back_len (L:List Mv):∀ k,(backN L k).length<=k
 | 0=>by simp [backN]
 | k+1=>by have:=back_len L k; rw [backN,List.length_append]; split <;> simp <;> omega
theorem frest_any (x:World) (S:Se) (E:Env) (D:P13 x S.F E) (B B0 g:Nat) (G:Gm) (w:World) (hB:B<=w.heap.size) (h:FmM B w g S G) (h6:G.w.ms.length<=6) (hst:OwG KT 46 w B0 S.st E.st) (hsl:G.w.ms.length<=E.st.length) (h47:(G.ns.length+8)*24<=140737488355328) :
  Calls Tryz.prog 68 #[.pointer (some ⟨g,0,none⟩)] w fun e w'=>(∃ v,e=.returned v)/\FmM B w' g S (rsts E G)/\FrT B [95,48,44] w w':=by
 have HD:=hid D
 obtain ⟨va,vb,vc,vd,ve,hx⟩:=h
 obtain ⟨ao,cpm,rfl,_⟩:=hx.o1.slice
 obtain ⟨N,eN⟩:∃ n,G.w.ms.length=n:=⟨_,rfl⟩
 have HN:=hid eN
 rw [eN] at hx h6 hsl
 have HX:=hid hx
 have HSt:=hid hst
 have HSl:=hid hsl
 have HL:=hid h47
 obtain ⟨c0,c1,c2,c3,c4,c5,c6,c7,c8,c9,c10,c11,c12,c13,c14,c15,cf⟩:=hx.k.cells
 clear hx D eN hst hsl h47
 go_enter Tryz.func68,Tryz.ntmps68
 go_wp2_with fail
 clear c0 c1 c2 c3 c4 c5 c6 c7 c8 c9 c10 c11 c12 c13 c14 c15 cf
 go_loopw [13] (fun u wr=>∃ i:Nat,i<=N/\u=.int .i64 (i:Int)/\(∃ vn,Fx B wr g S ⟨{ G.w with ms:=restN E G.w.ms i },G.ns ++ backN G.w.ms i⟩ (.slice ao N cpm) vb vc vd vn)/\FrT B [95,48,44] w wr) (fun u _=>N - (intOf u).toNat)
 case atStart=>exact ⟨0,by omega,rfl,⟨_,by simpa [restN,backN] using HX.out⟩,FrT.refl _ _ _⟩
 case round =>
  obtain ⟨i,hi,rfl,⟨vn,hx⟩,hf⟩:=hrel
  have hml:(restN E G.w.ms i).length=N:=by rw [restN_len,HN.out]
  have HML:=hid hml
  by_cases hin:i<N
  ·have hlt:(i:Int)<(N:Int):=by omega
   obtain ⟨gm,cpm',hv,_,_⟩:=hx.o1.head (by simp only [hml]; omega)
   simp only [Value.slice.injEq] at hv
   obtain ⟨rfl,hv1,hv2⟩:=hv
   clear hv1 hv2
   have hP:=HSt.out.keepT hf (by decide)
   obtain ⟨T,eT⟩:∃ n,E.st.length=n:=⟨_,rfl⟩
   obtain ⟨gp,cpp,hv,hv1,hv2⟩:=hP.head (by have:=HSl.out; omega)
   rw [eT] at hv
   have HV:=hid hv
   have HTl:=hid eT
   have hlt2:(i:Int)<(T:Int):=by have:=HSl.out; omega
   rw [hv] at hP
   have HP:=hid hP
   have HF:=hid hf
   have HE1:Hid (mm (restN E G.w.ms i) i=mm G.w.ms i):=hid (by rw [restN_at E (by rw [HN.out]; omega) i (by rw [HN.out]; omega)]; simp)
   have HRs:=hid (fun u=>HD.out.res (mm (restN E G.w.ms i) i) (pp E.st i).1 (pp E.st i).2 u)
   obtain ⟨d0,d1,d2,d3,d4,d5,d6,d7,d8,d9,d10,d11,d12,df⟩:=owM hx.o1 (i:=i) (by simp only [hml]; omega)
   obtain ⟨m0,em0⟩:∃ m,mm (restN E G.w.ms i) i=m:=⟨_,rfl⟩
   have EM:=hid em0
   simp only [em0] at d0 d1 d2 d3 d4 d5 d6 d7 d8 d9 d10 d11 d12
   rw [em0] at HRs
   obtain ⟨y0,ey0⟩:∃ m,pp E.st i=m:=⟨_,rfl⟩
   have EY:=hid ey0
   rw [ey0] at HRs
   obtain ⟨m1,em1⟩:∃ m,resM m0 y0.1 y0.2=m:=⟨_,rfl⟩
   obtain ⟨dn,ed1⟩:∃ m,resD m0=m:=⟨_,rfl⟩
   obtain ⟨e1,ee1⟩:∃ m,chkM m0=m:=⟨_,rfl⟩
   rw [em1,ed1,ee1] at HRs
   have HNx:Hid (restN E G.w.ms (i+1)=(restN E G.w.ms i).set i m1):=hid (by rw [restN,ey0,<- HE1.out,em0,em1])
   have HBk:Hid (backN G.w.ms (i+1)=backN G.w.ms i ++ (if dn then [⟨4,(i:Int),0⟩] else [])):=hid (by rw [backN,<- HE1.out,em0,ed1])
   have HLn:Hid (((G.ns ++ backN G.w.ms i).length+1)*24<=140737488355328):=hid (Nat.le_trans (Nat.mul_le_mul_right 24 (by rw [List.length_append]; have:=back_len G.w.ms i; omega)) HL.out)
   have A1:=Still.alloc wr (.cells (mcs m0) 48)
   have HX1:=hid (hx.still A1)
   have HP1:=hid (newM_mb wr m0)
   have HA1:=hid A1
   clear em0 em1 ee1 ed1 ey0 hx hf A1 HE1 hml hP hv hv1 hv2 eT
   go_upto_region 3 with fail
   refine region_mk1 14 4 (.cells (mcs zM) 48 (0,0)) (.cells (mcs m1) 48 (0,0)) (by kernel_rfl) (by kernel_rfl) (by kernel_rfl) (by kernel_rfl) rfl rfl (fun u b=>nw_mv rfl u) (fun u=>heap_alloc_new u _) ?_
   apply Exists.intro
   refine And.intro ?_ (And.intro ?_ ?_)
   ·intro u hu
    obtain ⟨k0,k1,k2,k3,k4,k5,k6,k7,k8,k9,k10,k11,k12,k13,k14,k15⟩:=(HX1.out.still hu).k.cl
    rw [HV.out] at k6
    obtain ⟨l0,l1,l2,l3,l4,l5,l6,l7,l8,l9,l10,l11,l12⟩:=(HP1.out.still hu).cl
    obtain ⟨n0,n1⟩:=owT_cl ((HP.out.still HA1.out).still hu) (i:=i) (by rw [HTl.out]; omega) EY.out
    have hne:=Aft.here u
    simp only [qlist,List.take_succ_cons,List.take_zero,List.drop_succ_cons,List.drop_zero,List.cons_append,List.nil_append,Nat.mul_one,Nat.reduceAdd]
    repeat (go_big_quiet_step ((first | (go_at_call 115; with_reducible exact Calls.cl (HRs.out _)))))
    exact wpQuiet_nil rfl
   ·exact fun u h hh=>st_mv rfl rfl rfl hh
   intro w2 g1 h2 hg1 hm1
   have p2:Mb w2 g1 m1:=hm1
   have HS2:=hid (HA1.out.trans h2)
   have HX2:=hid (HX1.out.still h2)
   clear d0 d1 d2 d3 d4 d5 d6 d7 d8 d9 d10 d11 d12 df h2 hm1 HRs HX1 HP1 HA1
   obtain ⟨k0,k1,k2,k3,k4,k5,k6,k7,k8,k9,k10,k11,k12,k13,k14,k15⟩:=HX2.out.k.cl
   obtain ⟨l0,l1,l2,l3,l4,l5,l6,l7,l8,l9,l10,l11,l12⟩:=p2.cl
   have hne:=Aft.here w2
   simp only [Act.put,List.setIfInBounds_toArray,List.set_cons_succ,List.set_cons_zero]
   go_upto_region 4 with fail
   refine region_rest 8 (by kernel_rfl) (by kernel_rfl) ?_
   simp only [List.take_succ_cons,List.take_zero,List.drop_succ_cons,List.drop_zero]
   repeat (go_big_quiet_step (fail))
   refine wpQuiet_nil ?_
   intro w3 h3
   have HS3:=hid (HS2.out.trans h3)
   have hX3:=HX2.out.still h3
   obtain ⟨d0,d1,d2,d3,d4,d5,d6,d7,d8,d9,d10,d11,d12,df⟩:=owM hX3.o1 (i:=i) (by simp only [HML.out]; omega)
   obtain ⟨hX4,hT4⟩:=hX3.putM (i:=i) (by simp only [HML.out]; omega) m1
   obtain ⟨W4,eW4⟩:∃ W,(((((((((((((w3.setCell ⟨gm,i*13,none⟩ (.int .i64 m1.ax)).setCell ⟨gm,i*13+1,none⟩ (.int .i64 m1.ay)).setCell ⟨gm,i*13+2,none⟩ (.int .i64 m1.sx)).setCell ⟨gm,i*13+3,none⟩ (.int .i64 m1.sy)).setCell ⟨gm,i*13+4,none⟩ (.int .i64 m1.px)).setCell ⟨gm,i*13+5,none⟩ (.int .i64 m1.py)).setCell ⟨gm,i*13+6,none⟩ (.int .i64 m1.fc)).setCell ⟨gm,i*13+7,none⟩ (.int .i64 m1.hl)).setCell ⟨gm,i*13+8,none⟩ (.int .i64 m1.en)).setCell ⟨gm,i*13+9,none⟩ (.bool m1.sh)).setCell ⟨gm,i*13+10,none⟩ (.int .i64 m1.co)).setCell ⟨gm,i*13+11,none⟩ (.int .i64 m1.ou)).setCell ⟨gm,i*13+12,none⟩ (.int .i64 m1.sd))=W:=⟨_,rfl⟩
   have HX4:Hid (Fx B W4 g S ⟨{ G.w with ms:=(restN E G.w.ms i).set i m1 },G.ns ++ backN G.w.ms i⟩ (.slice (some ⟨gm,0,none⟩) N cpm) vb vc vd vn):=hid (by rw [<- eW4]; exact hX4)
   have HF4:Hid (FrT B [95,48,44] w W4):=hid ((HF.out.then HS3.out).trans ((show FrT B [48] w3 W4 by rw [<- eW4]; exact hT4).mono (by simp)))
   clear h3 hne k0 k1 k2 k3 k4 k5 k6 k7 k8 k9 k10 k11 k12 k13 k14 k15 l0 l1 l2 l3 l4 l5 l6 l7 l8 l9 l10 l11 l12 hX3 hX4 hT4 HX2 HS2 HS3 p2 HF
   cases dn with
   | false =>
    go_wp2_with fail
    go_roundw
    case rel=>exact ⟨i+1,by omega,by go_num,⟨_,by rw [HNx.out,HBk.out,if_neg (by decide),List.append_nil]; exact HX4.out⟩,HF4.out⟩
    case measure=>first | (simp [intOf]; done) | (simp [intOf]; omega)
   | true =>
    have HNt:=hid (wnote_at B g S _ _ _ _ _ _ 4 (i:Int) 0 W4 (by have:=HF4.out.size; omega) HX4.out HLn.out)
    clear HX4
    go_wp2_with fail
    refine HNt.out.mono ?_
    rintro e w5 ⟨⟨v5,rfl⟩,⟨vm,hg5⟩,hf5⟩
    have HG5:=hid hg5
    have HF5:=hid (HF4.out.trans (hf5.mono (by simp)))
    clear hg5 hf5 HNt HF4 d0 d1 d2 d3 d4 d5 d6 d7 d8 d9 d10 d11 d12 df eW4
    go_wp2_with fail
    go_roundw
    case rel=>exact ⟨i+1,by omega,by go_num,⟨_,by rw [HNx.out,HBk.out,<- List.append_assoc]; exact HG5.out⟩,HF5.out⟩
    case measure=>first | (simp [intOf]; done) | (simp [intOf]; omega)
  ·have hge:¬ (i:Int)<(N:Int):=by omega
   obtain rfl:i=N:=by omega
   have HX1:=hid hx
   have HF:=hid hf
   clear hx hf hin hml
   go_wp2_with fail
   go_end0
   refine ⟨⟨_,rfl⟩, ?_,HF.out⟩
   unfold rsts
   rw [HN.out]
   exact ⟨_,_,_,_,_,HX1.out⟩
end Go.Proofs.YtlibdheihodniaaGreatDoor
namespace Go.Proofs.YtlibdheihodniaaGreatDoor
open Go.RowKit
open Pu Gp Ap Vp Np Za Ka Ja Ea Ha Hi
set_option maxRecDepth 100000
theorem chkM0 {m:Mv}:chkM m=0 ↔ May m:=by
 unfold chkM
 rw [<- mayB_iff]
 cases mayB m <;> simp
theorem chkS0 {s:Sh}:chkS s=0 ↔ maySB s=true:=by
 unfold chkS
 cases maySB s <;> simp
theorem chkC0 {s:Scr}:chkC s=0 ↔ MayC s:=⟨fun h=>Classical.byContradiction fun hc=>(by rw [chkC_no hc] at h; cases h),chkC_yes⟩
theorem chkK0 {L:List Pk} {s:Int}:chkK L s=0 ↔ MayK L s:=⟨fun h=>Classical.byContradiction fun hc=>(by rw [chkK_no hc] at h; cases h),chkK_yes⟩
def PlayP (p:Int) (w:Wd):Prop:=(w.ms.length:Int)=p/\(∀ i,i<w.ms.length->chkM (mm w.ms i)=0)/\(w.cs.length:Int)=p/\∀ i,i<w.cs.length->chkC (sc w.cs i)=0
def FlyA (p nx:Int) (S:List Sh) (i:Nat):Prop:=(ss S i).ow<p/\(if i=0 then 0 else (ss S (i - 1)).no)<(ss S i).no/\(ss S i).no<nx
def FlyP (p nx:Int) (S:List Sh):Prop:=S.length<=48/\(∀ i,i<S.length->chkS (ss S i)=0)/\∀ i,i<S.length->FlyA p nx S i
def LieP (k:Nat) (nx:Int) (Q:List Pk):Prop:=(∀ i,i<Q.length->(pk Q i).no<nx)/\chkK Q (k:Int)=0
theorem play_iff {p:Int} {w:Wd} (hp:0<=p):PlayP p w ↔ Seats p.toNat w:=by
 constructor
 ·rintro ⟨h1,h2,h3,h4⟩
  exact ⟨by omega,fun i hi=>chkM0.1 (h2 i (by omega)),by omega,fun i hi=>chkC0.1 (h4 i (by omega))⟩
 ·rintro ⟨h1,h2,h3,h4⟩
  exact ⟨by omega,fun i hi=>chkM0.2 (h2 i (by omega)),by omega,fun i hi=>chkC0.2 (h4 i (by omega))⟩
theorem fly_iff {p nx:Int} {S:List Sh}:FlyP p nx S ↔ Flo S/\∀ s∈S,s.ow<p/\s.no<nx:=by
 constructor
 ·rintro ⟨h1,h2,h3⟩
  refine ⟨⟨h1,fun i hi=>⟨chkS0.1 (h2 i hi),fun h0=>?_⟩⟩,fun s hs=>?_⟩
  ·have:=(h3 i hi).2.1
   rwa [if_neg (by omega)] at this
  ·obtain ⟨i,hi,rfl⟩:=List.mem_iff_getElem.1 hs
   have:=h3 i hi
   unfold FlyA at this
   rw [ss_at hi] at this
   exact ⟨this.1,this.2.2⟩
 ·rintro ⟨⟨h1,h2⟩,h3⟩
  refine ⟨h1,fun i hi=>chkS0.2 (h2 i hi).1,fun i hi=>?_⟩
  have h4:=h3 _ (List.getElem_mem hi)
  rw [<- ss_at hi] at h4
  refine ⟨h4.1, ?_,h4.2⟩
  split
  ·have:=(maySB_iff.1 (h2 i hi).1).1
   omega
  ·exact (h2 i hi).2 (by omega)
theorem lie_iff {k:Nat} {nx:Int} {Q:List Pk}:LieP k nx Q ↔ MayK Q (k:Int)/\∀ x∈Q,x.no<nx:=by
 constructor
 ·rintro ⟨h1,h2⟩
  refine ⟨chkK0.1 h2,fun x hx=>?_⟩
  obtain ⟨i,hi,rfl⟩:=List.mem_iff_getElem.1 hx
  have:=h1 i hi
  rwa [pk_at hi] at this
 ·rintro ⟨h1,h2⟩
  refine ⟨fun i hi=>?_,chkK0.2 h1⟩
  rw [pk_at hi]
  exact h2 _ (List.getElem_mem hi)
theorem fits_iff {p:Int} {E:Env} {w:Wd} (hp:0<=p):Fits p E w ↔ (0<=w.fr/\w.fr<=1099511627776)/\(1<=w.nx/\w.nx<=1099511627777)/\PlayP p w/\FlyP p w.nx w.hs/\LieP E.sp.length w.nx w.ks:=by
 rw [play_iff hp,fly_iff,lie_iff]
 have e:((p.toNat:Nat):Int)=p:=by omega
 constructor
 ·rintro ⟨⟨h1,h2,h3,h4,h5,h6,h7⟩,h8,h9⟩
  rw [e] at h3
  exact ⟨⟨h8,h9⟩,⟨h6,h7⟩,h1,⟨h2,h3⟩,h4,h5⟩
 ·rintro ⟨⟨h8,h9⟩,⟨h6,h7⟩,h1,⟨h2,h3⟩,h4,h5⟩
  refine ⟨⟨h1,h2, ?_,h4,h5,h6,h7⟩,h8,h9⟩
  rw [e]
  exact h3
end Go.Proofs.YtlibdheihodniaaGreatDoor
namespace Go.Proofs.YtlibdheihodniaaGreatDoor
open Go.RowKit
open Pu Gp Np Ka
set_option maxRecDepth 100000
theorem pwithin_any (n l h:Int) (w:World):Calls Tryz.prog 94 #[.int .i64 n,.int .i64 l,.int .i64 h] w fun e w'=>e=.returned (.bool (amg n l h))/\w'=w:=by
 unfold amg
 by_cases h1:l<=n
 ·go_enter Tryz.func94,Tryz.ntmps94
  go_wp2_with fail
  go_ret
  exact ⟨by simp [h1],rfl⟩
 ·have e:decide (l<=n)=false:=by simpa using h1
  rw [e]
  go_enter Tryz.func94,Tryz.ntmps94
  go_wp2_with fail
  go_ret
  exact ⟨rfl,rfl⟩
theorem pkind_any (n:Int) (w:World):Calls Tryz.prog 138 #[.int .i64 n] w fun e w'=>e=.returned (.bool (amg n 1 3))/\w'=w:=by
 have H:=hid (fun w=>pwithin_any n 1 3 w)
 obtain ⟨b,eb⟩:∃ b,amg n 1 3=b:=⟨_,rfl⟩
 rw [eb] at H ⊢
 clear eb
 go_enter Tryz.func138,Tryz.ntmps138
 go_wp2_with fail
 refine (H.out _).mono ?_
 rintro e w2 ⟨he,hw⟩
 rw [he,hw]
 clear he hw w2
 go_wp2_with fail
 go_ret
 exact ⟨rfl,rfl⟩
theorem pisno_any (n:Int) (w:World):Calls Tryz.prog 137 #[.int .i64 n] w fun e w'=>e=.returned (.bool (amg n 1 1099511627776))/\w'=w:=by
 have H:=hid (fun w=>pwithin_any n 1 1099511627776 w)
 obtain ⟨b,eb⟩:∃ b,amg n 1 1099511627776=b:=⟨_,rfl⟩
 rw [eb] at H ⊢
 clear eb
 go_enter Tryz.func137,Tryz.ntmps137
 go_wp2_with fail
 refine (H.out _).mono ?_
 rintro e w2 ⟨he,hw⟩
 rw [he,hw]
 clear he hw w2
 go_wp2_with fail
 go_ret
 exact ⟨rfl,rfl⟩
def mayl (x:Pk) (s:Int):Bool:=amg x.no 1 1099511627776 && (amg x.sp 0 (s - 1) && amg x.kd 1 3)
theorem mayLie_any (x:Pk) (s:Int) (h0:0<=s) (h1:s<=16) (w:World):Calls Tryz.prog 95 #[kv x,.int .i64 s] w fun e w'=>e=.returned (.bool (mayl x s))/\Still w w':=by
 unfold mayl
 have p:=newK_kb w x
 have HS:=hid (Still.alloc w (.cells (kcs x) 54))
 obtain ⟨c0,c1,c2,cf⟩:=p.cells
 have H0:=hid (fun w=>pisno_any x.no w)
 have H1:=hid (fun w=>pwithin_any x.sp 0 (s - 1) w)
 have H2:=hid (fun w=>pkind_any x.kd w)
 obtain ⟨b0,e0⟩:∃ b,amg x.no 1 1099511627776=b:=⟨_,rfl⟩
 obtain ⟨b1,e1⟩:∃ b,amg x.sp 0 (s - 1)=b:=⟨_,rfl⟩
 obtain ⟨b2,e2⟩:∃ b,amg x.kd 1 3=b:=⟨_,rfl⟩
 rw [e0] at H0 ⊢
 rw [e1] at H1 ⊢
 rw [e2] at H2 ⊢
 clear e0 e1 e2 p
 go_enter Tryz.func95,Tryz.ntmps95
 go_wp2_with fail
 refine (H0.out _).mono ?_
 rintro e w2 ⟨he,hw⟩
 rw [he,hw]
 clear he hw w2
 cases b0 with
 | false =>
  go_wp2_with fail
  go_ret
  exact ⟨rfl,HS.out⟩
 | true =>
  go_wp2_with fail
  refine (H1.out _).mono ?_
  rintro e w2 ⟨he,hw⟩
  rw [he,hw]
  clear he hw w2
  cases b1 with
  | false =>
   go_wp2_with fail
   go_ret
   exact ⟨rfl,HS.out⟩
  | true =>
   go_wp2_with fail
   refine (H2.out _).mono ?_
   rintro e w2 ⟨he,hw⟩
   rw [he,hw]
   clear he hw w2
   go_wp2_with fail
   go_ret
   exact ⟨by simp,HS.out⟩
def lieI (L:List Pk) (y:Int):Bool:=L.any fun x=>x.sp == y
theorem lieI_step {L:List Pk} {k:Nat} {y:Int} (h:k<L.length):lieI (L.take (k+1)) y=(lieI (L.take k) y || (pk L k).sp == y):=by
 have:pk L k=L[k]:=by simp [pk,List.getD,h]
 rw [this]
 unfold lieI
 rw [List.take_succ_eq_append_getElem h,List.any_append]
 simp
theorem lieI_iff {L:List Pk} {y:Int}:lieI L y=true ↔ ∃ i,i<L.length/\(pk L i).sp=y:=by
 unfold lieI
 rw [List.any_eq_true]
 constructor
 ·rintro ⟨x,hx,h⟩
  obtain ⟨i,hi,rfl⟩:=List.mem_iff_getElem.1 hx
  refine ⟨i,hi, ?_⟩
  have:pk L i=L[i]:=by simp [pk,List.getD,hi]
  rw [this]; simpa using h
 ·rintro ⟨i,hi,h⟩
  have:pk L i=L[i]:=by simp [pk,List.getD,hi]
  rw [this] at h
  exact ⟨L[i],List.getElem_mem hi,by simpa using h⟩
def Fk (w:World) (v:Value) (ao:Option Addr) (n cap:Nat):Prop:=∃ b,v=.func (.func 175) #[] #[.pointer (some ⟨b,0,none⟩)]/\w.cell? ⟨b,0,none⟩=some (.slice ao n cap)
theorem freeAmong_any (ao:Option Addr) (n cap:Nat) (w:World):Calls Tryz.prog 139 #[.slice ao n cap] w fun e w'=>∃ v,e=.returned v/\Fk w' v ao n cap/\Still w w':=by
 have hmf:∀ (fn:Fn) (first cap:Array Value) (w:World),(Instr.makeFunc fn first cap).run Tryz.prog w=.ok (.func fn first cap) w:=fun _ _ _ _=>rfl
 go_enter Tryz.func139,Tryz.ntmps139
 go_wp2
 go_ret
 refine ⟨_,rfl,⟨_,rfl, ?_⟩,Still.alloc w _⟩
 rw [cell_of_row _ _ _ _ _ _ (heap_alloc_new w _)]
 rfl
theorem free_any (L:List Pk) (y:Int) (ao:Option Addr) (n cap b:Nat) (w:World) (hr:RdK w ao n L) (hc:w.cell? ⟨b,0,none⟩=some (.slice ao n cap)) :
  Calls Tryz.prog 175 #[.int .i64 y,.pointer (some ⟨b,0,none⟩)] w fun e w'=>e=.returned (.bool (!lieI L y))/\Still w w':=by
 have HR:=hid hr
 have HL:=hid hr.1
 have hn47:n<=281474976710656:=hr.2.1
 clear hr
 go_enter Tryz.func175,Tryz.ntmps175
 go_wp2_with fail
 clear hc
 go_loopw [8] (fun u wr=>∃ k:Nat,k<=n/\u=.int .i64 (k:Int)/\Hid (lieI (L.take k) y=false)/\Still w wr) (fun u _=>n - (intOf u).toNat)
 case atStart=>exact ⟨0,by omega,rfl,hid rfl,Fr.refl _ _⟩
 case round =>
  obtain ⟨k,hk,rfl,HK,hs⟩:=hrel
  by_cases hkn:k<n
  ·have hlt:(k:Int)<(n:Int):=by omega
   obtain ⟨B,o,rfl,hcc⟩:=(HR.out.still hs).at (by omega)
   obtain ⟨c0,c1,c2⟩:=hcc k hkn
   have HB:=hid (lieI_step (L:=L) (k:=k) (y:=y) (by have:=HL.out; omega))
   have HT:=hid (fun h=>lieI_iff.2 ⟨k,show k<L.length by have:=HL.out; omega,show (pk L k).sp=y from h⟩)
   obtain ⟨⟨xa,xb,xc⟩,ex⟩:∃ x,pk L k=x:=⟨_,rfl⟩
   rw [ex] at c0 c1 c2 HB HT
   have q0:=newK_kb wr ⟨xa,xb,xc⟩
   obtain ⟨d0,d1,d2,df⟩:=q0.cells
   have HS1:=hid (hs.trans (Still.alloc wr (.cells (kcs ⟨xa,xb,xc⟩) 54)))
   simp only at c0 c1 c2 d0 d1 d2
   clear hs hcc ex q0
   by_cases hy:xb=y
   ·have HE:=hid (HT.out hy)
    have hy':(xb == y)=true:=by simpa using hy
    clear hy HT HB
    go_wp2_with fail
    (first | rw [Exit.noGoto_ret] | skip)
    go_ret
    exact ⟨by rw [HE.out]; rfl,HS1.out⟩
   ·have hy':(xb == y)=false:=by simpa using hy
    have HE:Hid (lieI (L.take (k+1)) y=false):=hid (by rw [HB.out,HK.out]; simpa using hy)
    clear hy HT HB HK
    go_wp2_with fail
    go_roundw
    case rel=>exact ⟨k+1,by omega,by go_num,HE,HS1.out⟩
    case measure=>simp [intOf]; omega
  ·have hge:¬ (k:Int)<(n:Int):=by omega
   have HE:Hid (lieI L y=false):=hid (by
    have:=HK.out
    rw [List.take_of_length_le (by have:=HL.out; omega)] at this
    exact this)
   have HS1:=hid hs
   clear hs HK
   go_wp2_with fail
   go_ret
   exact ⟨by rw [HE.out]; rfl,HS1.out⟩
def suit (x:Pk) (L:List Pk):Bool:=!lieI L x.sp && (decide (L.length=0) || decide ((pk L (L.length - 1)).no<x.no))
theorem psuits_any (x:Pk) (L:List Pk) (ao:Option Addr) (n cap:Nat) (h8:n<=8) (w:World) (hr:RdK w ao n L):Calls Tryz.prog 96 #[kv x,.slice ao n cap] w fun e w'=>e=.returned (.bool (suit x L))/\Still w w':=by
 have p:=newK_kb w x
 have HS0:=hid (Still.alloc w (.cells (kcs x) 54))
 have HR:=hid hr
 have HU:Hid (suit x L=(!lieI L x.sp && (decide (n=0) || decide ((pk L (n - 1)).no<x.no)))):=hid (by unfold suit; rw [hr.1])
 clear hr
 go_enter Tryz.func96,Tryz.ntmps96
 go_wp2_with fail
 refine (freeAmong_any ao n cap _).mono ?_
 rintro e w1 ⟨v,rfl,hf,h1⟩
 have q:=p.still h1
 have HS1:=hid (HS0.out.trans h1)
 have HR1:=hid (HR.out.still HS1.out)
 obtain ⟨b,rfl,hb⟩:=hf
 have HF:=hid (fun (u:World) (hu:Still w1 u)=>free_any L x.sp ao n cap b u (HR1.out.still hu) ((hu.cell (World.block_lt_of_cell? w1 _ hb) (fun e=>e)).trans hb))
 clear h1 hb HS0 p
 obtain ⟨c0,c1,c2,cf⟩:=q.cells
 have k0:=Cl.cell c0
 have k1:=Cl.cell c1
 have hne:=Aft.here w1
 obtain ⟨f,ef⟩:∃ f,(!lieI L x.sp)=f:=⟨_,rfl⟩
 rw [ef] at HF HU
 clear ef
 go_wp2_with fail
 clear c0 c1 c2 cf q
 cases f with
 | false =>
  refine region_all (by kernel_rfl) (by kernel_rfl) ?_
  repeat (go_big_quiet_step ((go_at_call 175; exact Calls.cl (HF.out _ (Aft.s _)))))
  refine wpQuiet_nil ?_
  intro w2 h2
  have HS2:=hid (HS1.out.trans h2)
  clear h2 HS1 HR1 HF k0 k1 hne
  go_wp2_with fail
  go_ret
  exact ⟨by rw [HU.out]; rfl,HS2.out⟩
 | true =>
  by_cases hn:n=0
  ·subst hn
   refine region_all (by kernel_rfl) (by kernel_rfl) ?_
   repeat (go_big_quiet_step ((go_at_call 175; exact Calls.cl (HF.out _ (Aft.s _)))))
   refine wpQuiet_nil ?_
   intro w2 h2
   have HS2:=hid (HS1.out.trans h2)
   clear h2 HS1 HR1 HF k0 k1 hne
   go_wp2_with fail
   go_ret
   exact ⟨by rw [HU.out]; rfl,HS2.out⟩
  ·obtain ⟨m,em⟩:∃ m:Nat,(n:Int) - 1=(m:Int):=⟨n - 1,by omega⟩
   rw [em]
   have emn:n - 1=m:=by omega
   rw [emn] at HU
   obtain ⟨B,o,rfl,hcc⟩:=HR1.out.at (by omega)
   obtain ⟨z0,_,_⟩:=hcc m (by omega)
   have k3:=Cl.cell z0
   have hmn:(m:Int)<(n:Int):=by omega
   have hmd:decide ((m:Int)<0)=false:=by simp
   have HN:=hid (show decide (n=0)=false by simp [hn])
   rw [HN.out] at HU
   obtain ⟨z,ez⟩:∃ z,(pk L m).no=z:=⟨_,rfl⟩
   rw [ez] at k3 HU
   clear ez z0 hcc em emn hn
   refine region_all (by kernel_rfl) (by kernel_rfl) ?_
   repeat (go_big_quiet_step ((go_at_call 175; exact Calls.cl (HF.out _ (Aft.s _)))))
   refine wpQuiet_nil ?_
   intro w2 h2
   have HS2:=hid (HS1.out.trans h2)
   clear h2 HS1 HR1 HF k0 k1 k3 hne
   go_wp2_with fail
   go_ret
   exact ⟨by rw [HU.out]; simp,HS2.out⟩
theorem pk_take {L:List Pk} {k i:Nat} (h:i<k):pk (L.take k) i=pk L i:=by simp [pk,List.getD,h]
theorem fit_iff {L:List Pk} {s:Int} {k:Nat} (hk:k<L.length):Fit L s k ↔ mayl (pk L k) s=true/\suit (pk L k) (L.take k)=true:=by
 have hl:(L.take k).length=k:=by simp; omega
 unfold mayl suit Fit amg
 rw [hl]
 simp only [Bool.and_eq_true,Bool.or_eq_true,decide_eq_true_eq,Bool.not_eq_true']
 have e1:lieI (L.take k) (pk L k).sp=false ↔ ∀ i,i<k->(pk L i).sp≠(pk L k).sp:=by
  rw [<- Bool.not_eq_true,lieI_iff,hl]
  constructor
  ·intro h i hi he; exact h ⟨i,hi,by rw [pk_take hi]; exact he⟩
  ·rintro h ⟨i,hi,he⟩; rw [pk_take hi] at he; exact h i hi he
 rw [e1]
 constructor
 ·rintro ⟨h1,h2,h3,h4,h5⟩
  refine ⟨⟨h1,⟨h3.1,by omega⟩,h4⟩,h5, ?_⟩
  by_cases h0:k=0
  ·exact .inl h0
  ·exact .inr (by rw [pk_take (by omega)]; exact h2 (by omega))
 ·rintro ⟨⟨h1,h3,h4⟩,h5,h2⟩
  refine ⟨h1,fun h0=>?_,⟨h3.1,by omega⟩,h4,h5⟩
  rcases h2 with h2 | h2
  ·omega
  ·rw [pk_take (by omega)] at h2; exact h2
theorem RdK.take {w:World} {ao:Option Addr} {n k:Nat} {L:List Pk} (h:RdK w ao n L) (hk:k<=n):RdK w ao k (L.take k):=by
 obtain ⟨h1,h2,h3⟩:=h
 refine ⟨by simp; omega,by omega, ?_⟩
 by_cases h0:k=0
 ·exact .inl h0
 ·rcases h3 with h3 | ⟨B,o,e,hc⟩
  ·omega
  ·exact .inr ⟨B,o,e,fun i hi=>by rw [pk_take hi]; exact hc i (by omega)⟩
theorem pchk_in (L:List Pk) (s:Int) (ao:Option Addr) (n cap:Nat) (w:World) (hr:RdK w ao n L) (hcap:n<=cap) (h0:0<=s) (h1:s<=16) (h8:n<=8):Calls Tryz.prog 55 #[.slice ao n cap,.int .i64 s] w fun e w'=>e=.returned (.int .i64 (chkK L s))/\Still w w':=by
 have HH:=hid (And.intro h0 h1)
 have HR:=hid hr
 have HL:=hid hr.1
 have HCp:=hid hcap
 have HW:=hid (fun w=>pwithin_any s 0 16 w)
 rw [show amg s 0 16=true by unfold amg; simp; omega] at HW
 have h8':decide ((8:Int)<(n:Int))=false:=by simp; omega
 clear hr hcap h0 h1
 go_enter Tryz.func55,Tryz.ntmps55
 go_wp2_with fail
 refine (HW.out _).mono ?_
 rintro e w2 ⟨he,hw⟩
 rw [he,hw]
 clear he hw w2 HW
 go_wp2_with fail
 go_loopw [17] (fun u wr=>∃ k:Nat,k<=n/\u=.int .i64 (k:Int)/\Hid (∀ i,i<k->Fit L s i)/\Still w wr) (fun u _=>n - (intOf u).toNat)
 case atStart=>exact ⟨0,by omega,rfl,hid (fun i hi=>by omega),Fr.refl _ _⟩
 case round =>
  obtain ⟨k,hk,rfl,HF,hs⟩:=hrel
  by_cases hkn:k<n
  ·have hlt:(k:Int)<(n:Int):=by omega
   obtain ⟨B,o,rfl,hc⟩:=(HR.out.still hs).at (by omega)
   obtain ⟨c0,c1,c2⟩:=hc k hkn
   have HS1:=hid (hs.trans (Still.alloc wr (.cells (kcs (pk L k)) 54)))
   have q0:=newK_kb wr (pk L k)
   have HFit:=hid (fit_iff (L:=L) (s:=s) (k:=k) (by have:=HL.out; omega))
   have HNo:=hid (show ¬ Fit L s k->chkK L s=100 from fun h=>chkK_no (fun hm=>h (hm.2.2 k (by have:=HL.out; omega))))
   obtain ⟨W,eW⟩:∃ W,wr.alloc (.cells (kcs (pk L k)) 54)=W:=⟨_,rfl⟩
   obtain ⟨g,eg⟩:∃ g,wr.heap.size=g:=⟨_,rfl⟩
   have q1:Kb W g (pk L k):=by rw [<- eW,<- eg]; exact q0
   rw [eW] at HS1
   obtain ⟨x,ex⟩:∃ x,pk L k=x:=⟨_,rfl⟩
   rw [ex] at c0 c1 c2 q1 eW HFit
   have HM:=hid (fun u=>mayLie_any x s HH.out.1 HH.out.2 u)
   have HU:=hid (fun (u:World) (hu:Still W u)=>psuits_any x (L.take k) (some ⟨B,o,none⟩) k cap (by omega) u ((((HR.out.still HS1.out).take (k:=k) (by omega))).still hu))
   have hsl:∀ u,(Instr.slice 33 (.slice (some ⟨B,o,none⟩) n cap) none (some (.int .i64 (k:Int))) none).run Tryz.prog u=.ok (.slice (some ⟨B,o,none⟩) k cap) u:=fun u=>run_uptoK u _ n cap (k:Int) (by omega) (by have:=HCp.out; omega)
   obtain ⟨b,eb⟩:∃ b,mayl x s=b:=⟨_,rfl⟩
   obtain ⟨c,ec⟩:∃ b,suit x (L.take k)=b:=⟨_,rfl⟩
   rw [eb,ec] at HFit
   rw [eb] at HM
   rw [ec] at HU
   clear q0 hs hc ex eb ec
   go_upto_region 6 with fail
   clear eW eg c0 c1 c2
   obtain ⟨e0,e1,e2,ef⟩:=q1.cells
   have k0:=Cl.cell e0
   have k1:=Cl.cell e1
   have k2:=Cl.cell e2
   have hne:=Aft.here W
   clear e0 e1 e2 ef q1
   cases b with
   | false =>
    have HE:=hid (HNo.out (fun h=>by have:=(HFit.out.1 h).1; cases this))
    refine region_all (by kernel_rfl) (by kernel_rfl) ?_
    repeat (go_big_quiet_step ((go_at_call 95; exact Calls.cl (HM.out _))))
    refine wpQuiet_nil ?_
    intro w2 h2
    have HS2:=hid (HS1.out.trans h2)
    clear h2 HS1 hne k0 k1 k2 HFit HNo HM HU hsl
    go_wp2_with fail
    (first | rw [Exit.noGoto_ret] | skip)
    go_ret
    exact ⟨by rw [HE.out]; rfl,HS2.out⟩
   | true =>
    cases c with
    | false =>
     have HE:=hid (HNo.out (fun h=>by have:=(HFit.out.1 h).2; cases this))
     refine region_all (by kernel_rfl) (by kernel_rfl) ?_
     repeat (go_big_quiet_step ((first | (go_at_call 95; exact Calls.cl (HM.out _)) | (go_at_call 96; exact Calls.cl (HU.out _ (Aft.s _))))))
     refine wpQuiet_nil ?_
     intro w2 h2
     have HS2:=hid (HS1.out.trans h2)
     clear h2 HS1 hne k0 k1 k2 HFit HNo HM HU hsl
     go_wp2_with fail
     (first | rw [Exit.noGoto_ret] | skip)
     go_ret
     exact ⟨by rw [HE.out]; rfl,HS2.out⟩
    | true =>
     have HE:=hid (show ∀ i,i<k+1->Fit L s i from fun i hi=>by
      by_cases e:i=k
      ·subst e; exact HFit.out.2 ⟨rfl,rfl⟩
      ·exact HF.out i (by omega))
     refine region_all (by kernel_rfl) (by kernel_rfl) ?_
     repeat (go_big_quiet_step ((first | (go_at_call 95; exact Calls.cl (HM.out _)) | (go_at_call 96; exact Calls.cl (HU.out _ (Aft.s _))))))
     refine wpQuiet_nil ?_
     intro w2 h2
     have HS2:=hid (HS1.out.trans h2)
     clear h2 HS1 hne k0 k1 k2 HFit HNo HM HU hsl
     go_wp2_with fail
     go_roundw
     case rel=>exact ⟨k+1,by omega,by go_num,HE,HS2.out⟩
     case measure=>simp [intOf]; omega
  ·have hge:¬ (k:Int)<(n:Int):=by omega
   have HE:Hid (chkK L s=0):=hid (chkK_yes ⟨HH.out,by rw [HL.out]; exact h8,fun i hi=>HF.out i (by have:=HL.out; omega)⟩)
   have HS1:=hid hs
   clear hs
   go_wp2_with fail
   go_ret
   exact ⟨by rw [HE.out]; rfl,HS1.out⟩
theorem pchk_any (L:List Pk) (s:Int) (ao:Option Addr) (n cap:Nat) (w:World) (hr:RdK w ao n L) (hcap:n<=cap):Calls Tryz.prog 55 #[.slice ao n cap,.int .i64 s] w fun e w'=>e=.returned (.int .i64 (chkK L s))/\Still w w':=by
 by_cases hs:0<=s/\s<=16
 ·by_cases h8:n<=8
  ·exact pchk_in L s ao n cap w hr hcap hs.1 hs.2 h8
  ·have HE:Hid (chkK L s=100):=hid (chkK_no (fun h=>by have:=h.2.1; have:=hr.1; omega))
   have h8':decide ((8:Int)<(n:Int))=true:=by simp; omega
   have HW:=hid (fun w=>pwithin_any s 0 16 w)
   rw [show amg s 0 16=true by unfold amg; simp; omega] at HW
   clear hr hs hcap h8
   go_enter Tryz.func55,Tryz.ntmps55
   go_wp2_with fail
   refine (HW.out _).mono ?_
   rintro e w2 ⟨he,hw⟩
   rw [he,hw]
   clear he hw w2 HW
   go_wp2_with fail
   go_ret
   exact ⟨by rw [HE.out]; rfl,Fr.refl _ _⟩
 ·have HE:Hid (chkK L s=100):=hid (chkK_no (fun h=>hs h.1))
  have HW:=hid (fun w=>pwithin_any s 0 16 w)
  rw [show amg s 0 16=false by unfold amg; rw [Bool.and_eq_false_iff]; simp only [decide_eq_false_iff_not]; omega] at HW
  clear hr hs hcap
  go_enter Tryz.func55,Tryz.ntmps55
  go_wp2_with fail
  refine (HW.out _).mono ?_
  rintro e w2 ⟨he,hw⟩
  rw [he,hw]
  clear he hw w2 HW
  go_wp2_with fail
  go_ret
  exact ⟨by rw [HE.out]; rfl,Fr.refl _ _⟩
theorem Mb.hl {w:World} {g:Nat} {m:Mv} (h:Mb w g m) (x:Int):Mb (w.setCell ⟨g,7,none⟩ (.int .i64 x)) g { m with hl:=x }:=(heap_setCell_same w g 7 _ _ (.int .i64 x) h).trans (by kernel_rfl)
theorem Mb.en {w:World} {g:Nat} {m:Mv} (h:Mb w g m) (x:Int):Mb (w.setCell ⟨g,8,none⟩ (.int .i64 x)) g { m with en:=x }:=(heap_setCell_same w g 8 _ _ (.int .i64 x) h).trans (by kernel_rfl)
theorem ptake_may (m:Mv) (k:Int) (hm:mayB m=false) (w:World):Calls Tryz.prog 111 #[mv m,.int .i64 k] w fun e w'=>e=.returned (.tuple #[mv zM,.int .i64 0,.int .i64 80])/\Still w w':=by
 have A0:=Still.alloc w (.cells (mcs m) 48)
 have A1:=Still.alloc (newM w m) (.cells (mcs zM) 48)
 have p0:=(newM_mb w m).still A1
 have q0:=newM_mb (newM w m) zM
 simp only [size_alloc] at q0
 have HS0:=hid (A0.trans A1)
 clear A0 A1
 obtain ⟨c0,c1,c2,c3,c4,c5,c6,c7,c8,c9,c10,c11,c12,cf⟩:=p0.cells
 have H:=hid (fun w=>check8_any m w)
 rw [show chkM m=80 by unfold chkM; rw [hm]; rfl] at H
 clear hm
 go_enter Tryz.func111,Tryz.ntmps111
 go_wp2_with fail
 refine (H.out _).mono ?_
 rintro e w1 ⟨rfl,h1⟩
 have p1:=p0.still h1
 have q1:=q0.still h1
 have HS1:=hid (HS0.out.trans h1)
 clear h1 HS0 p0 q0 c0 c1 c2 c3 c4 c5 c6 c7 c8 c9 c10 c11 c12 cf H
 obtain ⟨c0,c1,c2,c3,c4,c5,c6,c7,c8,c9,c10,c11,c12,cf⟩:=p1.cells
 obtain ⟨k0,k1,k2,k3,k4,k5,k6,k7,k8,k9,k10,k11,k12,kf⟩:=q1.cells
 go_wp2_with fail
 refine bodyPost_ret (Mb.rest3 (Mb.put q1 _ _ _ _ _ _ _ _ _ _ _ _ _) rfl _ _ _ rfl rfl rfl) rfl ⟨rfl, ?_⟩
 repeat (first | refine setC_fr ?_ _ _ _ (by omega) | with_reducible exact HS1.out)
theorem ptake_arg (m:Mv) (k:Int) (hm:mayB m=true) (hk:amg k 1 3=false) (w:World):Calls Tryz.prog 111 #[mv m,.int .i64 k] w fun e w'=>e=.returned (.tuple #[mv zM,.int .i64 0,.int .i64 1])/\Still w w':=by
 have A0:=Still.alloc w (.cells (mcs m) 48)
 have A1:=Still.alloc (newM w m) (.cells (mcs zM) 48)
 have p0:=(newM_mb w m).still A1
 have q0:=newM_mb (newM w m) zM
 simp only [size_alloc] at q0
 have HS0:=hid (A0.trans A1)
 clear A0 A1
 obtain ⟨c0,c1,c2,c3,c4,c5,c6,c7,c8,c9,c10,c11,c12,cf⟩:=p0.cells
 have H:=hid (fun w=>check8_any m w)
 rw [show chkM m=0 by unfold chkM; rw [hm]; rfl] at H
 have HK:=hid (fun w=>pkind_any k w)
 rw [hk] at HK
 clear hm hk
 go_enter Tryz.func111,Tryz.ntmps111
 go_wp2_with fail
 refine (H.out _).mono ?_
 rintro e w1 ⟨rfl,h1⟩
 have p1:=p0.still h1
 have q1:=q0.still h1
 have HS1:=hid (HS0.out.trans h1)
 clear h1 HS0 p0 q0 c0 c1 c2 c3 c4 c5 c6 c7 c8 c9 c10 c11 c12 cf H
 obtain ⟨c0,c1,c2,c3,c4,c5,c6,c7,c8,c9,c10,c11,c12,cf⟩:=p1.cells
 obtain ⟨k0,k1,k2,k3,k4,k5,k6,k7,k8,k9,k10,k11,k12,kf⟩:=q1.cells
 go_wp2_with fail
 refine (HK.out _).mono ?_
 rintro e w2 ⟨he,hw⟩
 rw [he,hw]
 clear he hw w2 HK
 go_wp2_with fail
 refine bodyPost_ret (Mb.rest3 (Mb.put q1 _ _ _ _ _ _ _ _ _ _ _ _ _) rfl _ _ _ rfl rfl rfl) rfl ⟨rfl, ?_⟩
 repeat (first | refine setC_fr ?_ _ _ _ (by omega) | with_reducible exact HS1.out)
theorem ptake_out (m:Mv) (k:Int) (hm:mayB m=true) (hk:amg k 1 3=true) (ho:m.ou > 0) (w:World):Calls Tryz.prog 111 #[mv m,.int .i64 k] w fun e w'=>e=.returned (.tuple #[mv m,.int .i64 0,.int .i64 0])/\Still w w':=by
 have A0:=Still.alloc w (.cells (mcs m) 48)
 have A1:=Still.alloc (newM w m) (.cells (mcs zM) 48)
 have p0:=(newM_mb w m).still A1
 have q0:=newM_mb (newM w m) zM
 simp only [size_alloc] at q0
 have HS0:=hid (A0.trans A1)
 clear A0 A1
 obtain ⟨c0,c1,c2,c3,c4,c5,c6,c7,c8,c9,c10,c11,c12,cf⟩:=p0.cells
 have H:=hid (fun w=>check8_any m w)
 rw [show chkM m=0 by unfold chkM; rw [hm]; rfl] at H
 have HK:=hid (fun w=>pkind_any k w)
 rw [hk] at HK
 clear hm hk
 go_enter Tryz.func111,Tryz.ntmps111
 go_wp2_with fail
 refine (H.out _).mono ?_
 rintro e w1 ⟨rfl,h1⟩
 have p1:=p0.still h1
 have q1:=q0.still h1
 have HS1:=hid (HS0.out.trans h1)
 clear h1 HS0 p0 q0 c0 c1 c2 c3 c4 c5 c6 c7 c8 c9 c10 c11 c12 cf H
 obtain ⟨c0,c1,c2,c3,c4,c5,c6,c7,c8,c9,c10,c11,c12,cf⟩:=p1.cells
 obtain ⟨k0,k1,k2,k3,k4,k5,k6,k7,k8,k9,k10,k11,k12,kf⟩:=q1.cells
 go_wp2_with fail
 refine (HK.out _).mono ?_
 rintro e w2 ⟨he,hw⟩
 rw [he,hw]
 clear he hw w2 HK
 go_wp2_with fail
 refine bodyPost_ret (Mb.rest3 (Mb.put q1 _ _ _ _ _ _ _ _ _ _ _ _ _) rfl _ _ _ rfl rfl rfl) rfl ⟨rfl, ?_⟩
 repeat (first | refine setC_fr ?_ _ _ _ (by omega) | with_reducible exact HS1.out)
theorem ptake_three (m:Mv)  (hm:mayB m=true) (ho:decide (0<m.ou)=false) (w:World):Calls Tryz.prog 111 #[mv m,.int .i64 3] w fun e w'=>e=.returned (.tuple #[mv m,.int .i64 5,.int .i64 0])/\Still w w':=by
 have A0:=Still.alloc w (.cells (mcs m) 48)
 have A1:=Still.alloc (newM w m) (.cells (mcs zM) 48)
 have p0:=(newM_mb w m).still A1
 have q0:=newM_mb (newM w m) zM
 simp only [size_alloc] at q0
 have HS0:=hid (A0.trans A1)
 clear A0 A1
 obtain ⟨c0,c1,c2,c3,c4,c5,c6,c7,c8,c9,c10,c11,c12,cf⟩:=p0.cells
 have H:=hid (fun w=>check8_any m w)
 rw [show chkM m=0 by unfold chkM; rw [hm]; rfl] at H
 have HK:=hid (fun w=>pkind_any 3 w)
 rw [show amg 3 1 3=true from rfl] at HK
 clear hm
 go_enter Tryz.func111,Tryz.ntmps111
 go_wp2_with fail
 refine (H.out _).mono ?_
 rintro e w1 ⟨rfl,h1⟩
 have p1:=p0.still h1
 have q1:=q0.still h1
 have HS1:=hid (HS0.out.trans h1)
 clear h1 HS0 p0 q0 c0 c1 c2 c3 c4 c5 c6 c7 c8 c9 c10 c11 c12 cf H
 obtain ⟨c0,c1,c2,c3,c4,c5,c6,c7,c8,c9,c10,c11,c12,cf⟩:=p1.cells
 obtain ⟨k0,k1,k2,k3,k4,k5,k6,k7,k8,k9,k10,k11,k12,kf⟩:=q1.cells
 go_wp2_with fail
 refine (HK.out _).mono ?_
 rintro e w2 ⟨he,hw⟩
 rw [he,hw]
 clear he hw w2 HK
 go_wp2_with fail
 refine bodyPost_ret (Mb.rest3 (Mb.put q1 _ _ _ _ _ _ _ _ _ _ _ _ _) rfl _ _ _ rfl rfl rfl) rfl ⟨rfl, ?_⟩
 repeat (first | refine setC_fr ?_ _ _ _ (by omega) | with_reducible exact HS1.out)
theorem ptake_one (m:Mv)  (hm:mayB m=true) (ho:decide (0<m.ou)=false) (h0:0<=m.hl) (h1:m.hl<=100) (w:World):Calls Tryz.prog 111 #[mv m,.int .i64 1] w fun e w'=>e=.returned (.tuple #[mv { m with hl:=min (m.hl+30) 100 },.int .i64 0,.int .i64 0])/\Still w w':=by
 have A0:=Still.alloc w (.cells (mcs m) 48)
 have A1:=Still.alloc (newM w m) (.cells (mcs zM) 48)
 have p0:=(newM_mb w m).still A1
 have q0:=newM_mb (newM w m) zM
 simp only [size_alloc] at q0
 have HS0:=hid (A0.trans A1)
 clear A0 A1
 obtain ⟨c0,c1,c2,c3,c4,c5,c6,c7,c8,c9,c10,c11,c12,cf⟩:=p0.cells
 have H:=hid (fun w=>check8_any m w)
 rw [show chkM m=0 by unfold chkM; rw [hm]; rfl] at H
 have HK:=hid (fun w=>pkind_any 1 w)
 rw [show amg 1 1 3=true from rfl] at HK
 clear hm
 go_enter Tryz.func111,Tryz.ntmps111
 go_wp2_with fail
 refine (H.out _).mono ?_
 rintro e w1 ⟨rfl,h1'⟩
 have p1:=p0.still h1'
 have q1:=q0.still h1'
 have HS1:=hid (HS0.out.trans h1')
 clear h1' HS0 p0 q0 c0 c1 c2 c3 c4 c5 c6 c7 c8 c9 c10 c11 c12 cf H
 obtain ⟨c0,c1,c2,c3,c4,c5,c6,c7,c8,c9,c10,c11,c12,cf⟩:=p1.cells
 obtain ⟨k0,k1,k2,k3,k4,k5,k6,k7,k8,k9,k10,k11,k12,kf⟩:=q1.cells
 go_wp2_with fail
 refine (HK.out _).mono ?_
 rintro e w2 ⟨he,hw⟩
 rw [he,hw]
 clear he hw w2 HK
 have p3:=p1.hl (min (m.hl+30) 100)
 have q3:=q1.other w.heap.size 7 (.int .i64 (min (m.hl+30) 100)) (by omega)
 have HS3:=hid (setC_fr HS1.out w.heap.size 7 (.int .i64 (min (m.hl+30) 100)) (Nat.le_refl _))
 obtain ⟨W3,eW3⟩:∃ W3,w1.setCell ⟨w.heap.size,7,none⟩ (.int .i64 (min (m.hl+30) 100))=W3:=⟨_,rfl⟩
 rw [eW3] at p3 q3 HS3
 go_upto_region 16 with fail
 clear eW3 p1 q1 HS1 c0 c1 c2 c3 c4 c5 c6 c7 c8 c9 c10 c11 c12 cf k0 k1 k2 k3 k4 k5 k6 k7 k8 k9 k10 k11 k12 kf
 obtain ⟨c0,c1,c2,c3,c4,c5,c6,c7,c8,c9,c10,c11,c12,cf⟩:=p3.cells
 obtain ⟨k0,k1,k2,k3,k4,k5,k6,k7,k8,k9,k10,k11,k12,kf⟩:=q3.cells
 go_wp2_with fail
 refine bodyPost_ret (Mb.rest3 (Mb.put q3 _ _ _ _ _ _ _ _ _ _ _ _ _) rfl _ _ _ rfl rfl rfl) rfl ⟨rfl, ?_⟩
 repeat (first | refine setC_fr ?_ _ _ _ (by omega) | with_reducible exact HS3.out)
theorem ptake_two (m:Mv)  (hm:mayB m=true) (ho:decide (0<m.ou)=false) (h0:0<=m.en) (h1:m.en<=100) (w:World):Calls Tryz.prog 111 #[mv m,.int .i64 2] w fun e w'=>e=.returned (.tuple #[mv { m with en:=min (m.en+40) 100 },.int .i64 0,.int .i64 0])/\Still w w':=by
 have A0:=Still.alloc w (.cells (mcs m) 48)
 have A1:=Still.alloc (newM w m) (.cells (mcs zM) 48)
 have p0:=(newM_mb w m).still A1
 have q0:=newM_mb (newM w m) zM
 simp only [size_alloc] at q0
 have HS0:=hid (A0.trans A1)
 clear A0 A1
 obtain ⟨c0,c1,c2,c3,c4,c5,c6,c7,c8,c9,c10,c11,c12,cf⟩:=p0.cells
 have H:=hid (fun w=>check8_any m w)
 rw [show chkM m=0 by unfold chkM; rw [hm]; rfl] at H
 have HK:=hid (fun w=>pkind_any 2 w)
 rw [show amg 2 1 3=true from rfl] at HK
 clear hm
 go_enter Tryz.func111,Tryz.ntmps111
 go_wp2_with fail
 refine (H.out _).mono ?_
 rintro e w1 ⟨rfl,h1'⟩
 have p1:=p0.still h1'
 have q1:=q0.still h1'
 have HS1:=hid (HS0.out.trans h1')
 clear h1' HS0 p0 q0 c0 c1 c2 c3 c4 c5 c6 c7 c8 c9 c10 c11 c12 cf H
 obtain ⟨c0,c1,c2,c3,c4,c5,c6,c7,c8,c9,c10,c11,c12,cf⟩:=p1.cells
 obtain ⟨k0,k1,k2,k3,k4,k5,k6,k7,k8,k9,k10,k11,k12,kf⟩:=q1.cells
 go_wp2_with fail
 refine (HK.out _).mono ?_
 rintro e w2 ⟨he,hw⟩
 rw [he,hw]
 clear he hw w2 HK
 have p3:=p1.en (min (m.en+40) 100)
 have q3:=q1.other w.heap.size 8 (.int .i64 (min (m.en+40) 100)) (by omega)
 have HS3:=hid (setC_fr HS1.out w.heap.size 8 (.int .i64 (min (m.en+40) 100)) (Nat.le_refl _))
 obtain ⟨W3,eW3⟩:∃ W3,w1.setCell ⟨w.heap.size,8,none⟩ (.int .i64 (min (m.en+40) 100))=W3:=⟨_,rfl⟩
 rw [eW3] at p3 q3 HS3
 go_upto_region 16 with fail
 clear eW3 p1 q1 HS1 c0 c1 c2 c3 c4 c5 c6 c7 c8 c9 c10 c11 c12 cf k0 k1 k2 k3 k4 k5 k6 k7 k8 k9 k10 k11 k12 kf
 obtain ⟨c0,c1,c2,c3,c4,c5,c6,c7,c8,c9,c10,c11,c12,cf⟩:=p3.cells
 obtain ⟨k0,k1,k2,k3,k4,k5,k6,k7,k8,k9,k10,k11,k12,kf⟩:=q3.cells
 go_wp2_with fail
 refine bodyPost_ret (Mb.rest3 (Mb.put q3 _ _ _ _ _ _ _ _ _ _ _ _ _) rfl _ _ _ rfl rfl rfl) rfl ⟨rfl, ?_⟩
 repeat (first | refine setC_fr ?_ _ _ _ (by omega) | with_reducible exact HS3.out)
theorem ptake_any (m:Mv) (k:Int) (w:World):Calls Tryz.prog 111 #[mv m,.int .i64 k] w fun e w'=>e=.returned (.tuple #[mv (takM m k),.int .i64 (takP m k),.int .i64 (errT m k)])/\Still w w':=by
 cases hm:mayB m with
 | false =>
  have e:errT m k=80:=by unfold errT; rw [hm]; rfl
  have e1:takM m k=zM:=by unfold takM; rw [e]; rfl
  have e2:takP m k=0:=by unfold takP; rw [e]; rfl
  rw [e,e1,e2]
  exact ptake_may m k hm w
 | true =>
  by_cases hk:1<=k/\k<=3
  ·have e:errT m k=0:=by unfold errT; rw [hm,if_pos hk]; rfl
   have e1:takM m k=taken m k:=by unfold takM; rw [e]; rfl
   obtain ⟨_,_,_,_,h5,h6,_,h8,_⟩:=mayB_iff.1 hm
   by_cases ho:m.ou=0
   ·have ho':decide (0<m.ou)=false:=by simp; omega
    rcases (show k=1\/k=2\/k=3 by omega) with rfl | rfl | rfl
    ·have e2:takP m 1=0:=by unfold takP; rw [if_neg (by omega)]
     have e3:taken m 1={ m with hl:=min (m.hl+30) 100 }:=by unfold taken; rw [if_pos ho]; rfl
     rw [e,e1,e2,e3]
     exact ptake_one m hm ho' h5.1 h5.2 w
    ·have e2:takP m 2=0:=by unfold takP; rw [if_neg (by omega)]
     have e3:taken m 2={ m with en:=min (m.en+40) 100 }:=by unfold taken; rw [if_pos ho]; rfl
     rw [e,e1,e2,e3]
     exact ptake_two m hm ho' h6.1 h6.2 w
    ·have e2:takP m 3=5:=by unfold takP; rw [if_pos ⟨e,ho,rfl⟩]
     have e3:taken m 3=m:=by unfold taken; rw [if_pos ho]; rfl
     rw [e,e1,e2,e3]
     exact ptake_three m hm ho' w
   ·have e2:takP m k=0:=by unfold takP; rw [if_neg (fun h=>ho h.2.1)]
    have e3:taken m k=m:=by unfold taken; rw [if_neg ho]
    rw [e,e1,e2,e3]
    exact ptake_out m k hm (by unfold amg; simp; omega) (by omega) w
  ·have e:errT m k=1:=by unfold errT; rw [hm,if_neg hk]; rfl
   have e1:takM m k=zM:=by unfold takM; rw [e]; rfl
   have e2:takP m k=0:=by unfold takP; rw [e]; rfl
   rw [e,e1,e2]
   exact ptake_arg m k hm (by unfold amg; rw [Bool.and_eq_false_iff]; simp only [decide_eq_false_iff_not]; omega) w
theorem pfree_step (L:List Pk) (j:Nat):fre L (j+1)=fre L j ++ (if lieI L (j:Int) then [] else [(j:Int)]):=rfl
theorem freeSpots_any (L:List Pk) (S:Nat) (hS:S<=16) (v:Value) (ao:Option Addr) (n cap:Nat) (w:World) (hr:RdK w ao n L) (hv:Fk w v ao n cap) :
  Calls Tryz.prog 166 #[v,.int .i64 (S:Int)] w fun e w'=>∃ bo m cp,e=.returned (.slice bo m cp)/\OwI 3 w' bo m cp (fre L S)/\Still w w'/\∀ a,bo=some a->w.heap.size<=a.block:=by
 obtain ⟨i0,hi,hz,hz1,hz2⟩:=info_parts info_int
 obtain ⟨b,rfl,hb⟩:=hv
 have HF:=hid (fun (j:Nat) (u:World) (hu:Still w u)=>free_any L (j:Int) ao n cap b u (hr.still hu) ((hu.cell (World.block_lt_of_cell? w _ hb) (fun e=>e)).trans hb))
 clear hr hb
 go_enter Tryz.func166,Tryz.ntmps166
 go_wp2_with fail
 go_loopw [5,8] (fun v u wr=>∃ (j:Nat) (bo:Option Addr) (m cp:Nat),j<=S/\v=.slice bo m cp/\u=.int .i64 (j:Int)/\OwI 3 wr bo m cp (fre L j)/\Still w wr/\∀ a,bo=some a->w.heap.size<=a.block) (fun _ u _=>S - (intOf u).toNat)
 case atStart=>exact ⟨0,none,0,0,Nat.zero_le _,rfl,rfl,OwI.empty _ _,Fr.refl _ _,fun _ h=>by cases h⟩
 case round =>
  obtain ⟨j,bo,m,cp,hj,rfl,rfl,ho,hst,hbo⟩:=hrel
  by_cases hjS:j<S
  ·have hlt:(j:Int)<(S:Int):=by omega
   have HO:=hid (And.intro ho hbo)
   have HS1:=hid hst
   have HC:=hid (HF.out j wr hst)
   have HFr:=hid (pfree_step L j)
   have hml:m<=16:=by have:=ho.rd.len; have:=fre_len_le L j; omega
   obtain ⟨f,ef⟩:∃ f,lieI L (j:Int)=f:=⟨_,rfl⟩
   rw [ef] at HC HFr
   clear ho hst hbo ef
   go_wp2_with fail
   refine HC.out.mono ?_
   rintro e w2 ⟨rfl,h2⟩
   have HS2:=hid (HS1.out.trans h2)
   have HO2:=hid (And.intro (HO.out.1.still h2) HO.out.2)
   clear h2 HS1 HO HC
   cases f with
   | true =>
    rw [show (!true)=false from rfl]
    go_wp2_with fail
    go_roundw
    case rel=>exact ⟨j+1,bo,m,cp,by omega,rfl,by go_num,by rw [HFr.out]; simpa using HO2.out.1,HS2.out,HO2.out.2⟩
    case measure=>simp [intOf]; omega
   | false =>
    rw [show (!false)=true from rfl]
    go_wp2_with (at_builtin; refine wpList_appI _ rfl _ _ 25 rfl 3 i0 Tryz.underlying25 hi hz hz1 hz2 bo (some ⟨w2.heap.size,0,none⟩) m cp 1 1 (fre L j) [(j:Int)] rfl rfl (HO2.out.1.alloc _) (OwI.one _ w2 _).rd (by omega) ?_; intro bo' cp' w3 ho' hf' hn' _)
    obtain ⟨hst',hbo'⟩:=still_appI HS2.out HO2.out.2 hf' hn'
    go_roundw
    case rel=>exact ⟨j+1,bo',m+1,cp',by omega,rfl,by go_num,by rw [HFr.out]; exact ho',hst',hbo'⟩
    case measure=>simp [intOf]; omega
  ·have hge:¬ (j:Int)<(S:Int):=by omega
   obtain rfl:j=S:=by omega
   have HO:=hid (And.intro ho (And.intro hst hbo))
   clear hi hz hz1 hz2 ho hst hbo hj hjS
   go_wp2_with fail
   go_ret
   exact ⟨bo,m,cp,rfl,HO.out.1,HO.out.2.1,HO.out.2.2⟩
theorem weights_any (w:World):Calls Tryz.prog 169 #[] w fun e w'=>∃ g,e=.returned (.slice (some ⟨g,0,none⟩) 3 3)/\RdI w' (some ⟨g,0,none⟩) 3 3 [5,3,2]/\Still w w':=by
 go_enter Tryz.func169,Tryz.ntmps169
 go_wp2_with fail
 go_ret
 refine ⟨_,rfl, ?_,Still.alloc w _⟩
 exact (OwI.fresh (e:=3) w _ 3 3 [5,3,2] rfl (Nat.le_refl _) (by unfold maxLen; omega) rfl (fun t ht=>by
  simp at ht
  rcases (show t=0\/t=1\/t=2 by omega) with rfl | rfl | rfl <;> rfl)).rd
theorem pspawn_may (q f s no:Int) (L:List Pk) (ao:Option Addr) (n cap:Nat) (w:World) (hr:RdK w ao n L) (hcap:n<=cap) (hm:mayK L s=false):Calls Tryz.prog 114 #[.int .u64 q,.int .i64 f,.slice ao n cap,.int .i64 s,.int .i64 no] w fun e w'=>e=.returned (.tuple #[kv zK,.bool false,.int .i64 100])/\Still w w':=by
 have A0:=Still.alloc w (.cells (kcs zK) 54)
 have p0:=newK_kb w zK
 have H:=hid (pchk_any L s ao n cap _ (hr.still A0) hcap)
 rw [show chkK L s=100 by unfold chkK; rw [hm]; rfl] at H
 have HS0:=hid A0
 clear hm hr A0 hcap
 go_enter Tryz.func114,Tryz.ntmps114
 go_wp2_with fail
 refine H.out.mono ?_
 rintro e w1 ⟨rfl,h1⟩
 have p1:=p0.still h1
 have HS1:=hid (HS0.out.trans h1)
 clear h1 HS0 p0 H
 obtain ⟨c0,c1,c2,cf⟩:=p1.cells
 go_wp2_with fail
 refine bodyPost_ret (Kb.rest3 (Kb.put p1 _ _ _) rfl _ _ _ rfl rfl rfl) rfl ⟨rfl, ?_⟩
 repeat (first | refine setC_fr ?_ _ _ _ (by omega) | with_reducible exact HS1.out)
theorem pspawn_arg (q f s no:Int) (L:List Pk) (ao:Option Addr) (n cap:Nat) (w:World) (hr:RdK w ao n L) (hcap:n<=cap) (hm:mayK L s=true) (ha:argK f no=false):Calls Tryz.prog 114 #[.int .u64 q,.int .i64 f,.slice ao n cap,.int .i64 s,.int .i64 no] w fun e w'=>e=.returned (.tuple #[kv zK,.bool false,.int .i64 1])/\Still w w':=by
 have HA:Hid (¬ f<0->¬ f > 1099511627776->amg no 1 1099511627776=false):=hid (fun h1 h2=>by
  cases h:amg no 1 1099511627776 with
  | false=>rfl
  | true =>
   have h6:1<=no/\no<=1099511627776:=by unfold amg at h; simpa using h
   have:=argK_iff.2 (show (0<=f/\f<=1099511627776)/\1<=no/\no<=1099511627776 by omega)
   rw [this] at ha
   cases ha)
 have HI:=hid (fun w=>pisno_any no w)
 have A0:=Still.alloc w (.cells (kcs zK) 54)
 have p0:=newK_kb w zK
 have H:=hid (pchk_any L s ao n cap _ (hr.still A0) hcap)
 rw [show chkK L s=0 by unfold chkK; rw [hm]; rfl] at H
 have HS0:=hid A0
 clear hm hr A0 ha hcap
 go_enter Tryz.func114,Tryz.ntmps114
 go_wp2_with fail
 refine H.out.mono ?_
 rintro e w1 ⟨rfl,h1⟩
 have p1:=p0.still h1
 have HS1:=hid (HS0.out.trans h1)
 clear h1 HS0 p0 H
 obtain ⟨c0,c1,c2,cf⟩:=p1.cells
 by_cases g0:f<0
 ·go_wp2_with fail
  refine bodyPost_ret (Kb.rest3 (Kb.put p1 _ _ _) rfl _ _ _ rfl rfl rfl) rfl ⟨rfl, ?_⟩
  repeat (first | refine setC_fr ?_ _ _ _ (by omega) | with_reducible exact HS1.out)
 ·by_cases g1:f > 1099511627776
  ·go_wp2_with fail
   refine bodyPost_ret (Kb.rest3 (Kb.put p1 _ _ _) rfl _ _ _ rfl rfl rfl) rfl ⟨rfl, ?_⟩
   repeat (first | refine setC_fr ?_ _ _ _ (by omega) | with_reducible exact HS1.out)
  ·rw [HA.out (by omega) (by omega)] at HI
   have g1':decide (1099511627776<f)=false:=by simpa using g1
   clear g1
   go_wp2_with fail
   refine (HI.out _).mono ?_
   rintro e w2 ⟨he,hw⟩
   rw [he,hw]
   clear he hw w2
   go_wp2_with fail
   refine bodyPost_ret (Kb.rest3 (Kb.put p1 _ _ _) rfl _ _ _ rfl rfl rfl) rfl ⟨rfl, ?_⟩
   repeat (first | refine setC_fr ?_ _ _ _ (by omega) | with_reducible exact HS1.out)
theorem pspawn_ok (q f no:Int) (S:Nat) (L:List Pk) (ao:Option Addr) (n cap:Nat) (w:World) (ht:DTab w) (hr:RdK w ao n L) (hcap:n<=cap) (hm:MayK L (S:Int)) (a0:¬ f<0) (a1:decide (1099511627776<f)=false) (a2:amg no 1 1099511627776=true) (D:Bool) (X Y Z:Int)
  (hD:(f % 16≠0\/n=8\/(fre L S).length=0)->D=false/\X=0/\Y=0/\Z=0) (hD2:f % 16=0->n≠8->(fre L S).length≠0->D=true/\X=no/\Y=(fre L S).getD (bel (atI q f 1) ((fre L S).length:Int)).toNat 0/\Z=wgt (atI q f 2) [5,3,2]+1) :
  Calls Tryz.prog 114 #[.int .u64 q,.int .i64 f,.slice ao n cap,.int .i64 (S:Int),.int .i64 no] w fun e w'=>e=.returned (.tuple #[kv ⟨X,Y,Z⟩,.bool D,.int .i64 0])/\Still w w':=by
 have A0:=Still.alloc w (.cells (kcs zK) 54)
 have p0:=newK_kb w zK
 have H:=hid (pchk_any L (S:Int) ao n cap _ (hr.still A0) hcap)
 rw [chkK_yes hm] at H
 have HI:=hid (fun w=>pisno_any no w)
 rw [a2] at HI
 have HS0:=hid A0
 have HR:=hid hr
 have HT:=hid ht
 have HM:=hid (show S<=16/\n<=8/\L.length=n by have:=hm.1; have:=hm.2.1; have:=hr.1; omega)
 have HD:=hid (And.intro hD hD2)
 have hn8:n<=8:=HM.out.2.1
 have hf0:0<=f/\f<=1099511627776:=by simp at a1; omega
 clear hm hr A0 hD hD2 a2 hcap ht
 go_enter Tryz.func114,Tryz.ntmps114
 go_wp2_with fail
 refine H.out.mono ?_
 rintro e w1 ⟨rfl,h1⟩
 have p1:=p0.still h1
 have HS1:=hid (HS0.out.trans h1)
 clear h1 HS0 p0 H
 go_wp2_with fail
 refine (HI.out _).mono ?_
 rintro e w2 ⟨he,hw⟩
 rw [he,hw]
 clear he hw w2 HI a0 a1
 obtain ⟨c0,c1,c2,cf⟩:=p1.cells
 by_cases z0:f % 16=0
 ·have z0':f.tmod 16=0:=by rw [Int.tmod_eq_emod_of_nonneg (by omega)]; exact z0
  have HZ:=hid z0
  clear z0
  by_cases z1:n=8
  ·have z1':((n:Int) == 8)=true:=by simp; omega
   have HE:=hid (HD.out.1 (.inr (.inl z1)))
   clear z1
   go_wp2_with fail
   obtain ⟨rfl,rfl,rfl,rfl⟩:=HE.out
   refine bodyPost_ret (Kb.rest3 (Kb.put p1 _ _ _) rfl _ _ _ rfl rfl rfl) rfl ⟨rfl, ?_⟩
   repeat (first | refine setC_fr ?_ _ _ _ (by omega) | with_reducible exact HS1.out)
  ·have z1':((n:Int) == 8)=false:=by simp; omega
   have HZ1:=hid z1
   clear z1 c0 c1 c2 cf
   go_wp2_with fail
   refine (freeAmong_any ao n cap _).mono ?_
   rintro e w2 ⟨v,rfl,hv,h2⟩
   have p2:=p1.still h2
   have HS2:=hid (HS1.out.trans h2)
   have HC:=hid (freeSpots_any L S HM.out.1 v ao n cap w2 (HR.out.still HS2.out) hv)
   obtain ⟨bv,rfl,_⟩:=hv
   clear h2 HS1 p1
   go_wp2_with fail
   refine HC.out.mono ?_
   rintro e w3 ⟨bo,m,cp,rfl,ho,h3,_⟩
   have p3:=p2.still h3
   have HS3:=hid (HS2.out.trans h3)
   have HO:=hid ho
   have HL:=hid ho.rd.len
   have hm16:m<=16:=by have:=HL.out; have:=fre_len_le L S; have:=HM.out; omega
   clear h3 ho HS2 p2 HC
   obtain ⟨c0,c1,c2,cf⟩:=p3.cells
   by_cases z2:m=0
   ·have z2':((m:Int) == 0)=true:=by simp; omega
    have HE:=hid (HD.out.1 (.inr (.inr (by have:=HL.out; omega))))
    clear z2
    go_wp2_with fail
    obtain ⟨rfl,rfl,rfl,rfl⟩:=HE.out
    refine bodyPost_ret (Kb.rest3 (Kb.put p3 _ _ _) rfl _ _ _ rfl rfl rfl) rfl ⟨rfl, ?_⟩
    repeat (first | refine setC_fr ?_ _ _ _ (by omega) | with_reducible exact HS3.out)
   ·have z2':((m:Int) == 0)=false:=by simp; omega
    have HE:=hid (HD.out.2 HZ.out HZ1.out (by have:=HL.out; omega))
    rw [show (fre L S).length=m from HL.out] at HE
    have HZ2:=hid (show 0<m by omega)
    clear z2 c0 c1 c2 cf
    go_wp2_with fail
    refine (below_any q f 1 (m:Int) (by omega) _ (HT.out.still HS3.out)).mono ?_
    rintro e w4 ⟨rfl,h4⟩
    have p4:=p3.still h4
    have HS4:=hid (HS3.out.trans h4)
    have HO4:=hid (HO.out.still h4)
    clear h4 HS3 HO p3
    have hb:=bel_in (n:=atI q f 1) (k:=m) HZ2.out
    obtain ⟨A,eA⟩:∃ A:Nat,bel (atI q f 1) (m:Int)=(A:Int):=⟨(bel (atI q f 1) (m:Int)).toNat,by omega⟩
    rw [eA] at hb HE ⊢
    have hA:A<m:=by omega
    clear eA hb
    obtain ⟨E4,eE4⟩:∃ E,belE (m:Int)=E:=⟨_,rfl⟩
    rw [eE4]
    clear eE4
    go_wp2_with fail
    refine (weights_any _).mono ?_
    rintro e w5 ⟨gw,rfl,hw,h5⟩
    have p5:=p4.still h5
    have HS5:=hid (HS4.out.trans h5)
    have HO5:=hid (HO4.out.still h5)
    have HW:=hid hw
    clear h5 HS4 HO4 p4 hw
    go_wp2_with fail
    refine (weighted_any q f 2 _ 3 3 [5,3,2] _ HW.out (HT.out.still HS5.out)).mono ?_
    rintro e w6 ⟨rfl,h6⟩
    have p6:=p5.still h6
    have HS6:=hid (HS5.out.trans h6)
    have HO6:=hid (HO5.out.still h6)
    clear h6 HS5 HO5 p5 HW
    have hk3:=kind_in q f
    unfold kindK at hk3
    obtain ⟨K,eK⟩:∃ K,wgt (atI q f 2) [5,3,2]=K:=⟨_,rfl⟩
    rw [eK] at HE hk3 ⊢
    rw [w532]
    clear eK
    obtain ⟨c0,c1,c2,cf⟩:=p6.cells
    obtain ⟨g,rfl⟩:=HO6.out.head (by omega)
    have d0:=HO6.out.rd.byte (k:=A) (by rw [HL.out]; exact hA)
    rw [Nat.zero_add] at d0
    rw [show (fre L S).getD (A:Int).toNat 0=(fre L S)[A]'(by rw [HL.out]; exact hA) by simp [List.getD,show A<(fre L S).length by rw [HL.out]; exact hA]] at HE
    obtain ⟨V,eV⟩:∃ V,(fre L S)[A]'(by rw [HL.out]; exact hA)=V:=⟨_,rfl⟩
    rw [eV] at d0 HE
    clear eV
    have hAi:(A:Int)<(m:Int):=by omega
    go_wp2_with fail
    obtain ⟨rfl,rfl,rfl,rfl⟩:=HE.out
    rw [show K+1=1+K by omega]
    refine bodyPost_ret (Kb.rest3 (Kb.put p6 _ _ _) rfl _ _ _ rfl rfl rfl) rfl ⟨rfl, ?_⟩
    repeat (first | refine setC_fr ?_ _ _ _ (by omega) | with_reducible exact HS6.out)
 ·have HE:=hid (HD.out.1 (.inl z0))
  have z0':¬ f.tmod 16=0:=by rw [Int.tmod_eq_emod_of_nonneg (by omega)]; exact z0
  go_wp2_with fail
  obtain ⟨rfl,rfl,rfl,rfl⟩:=HE.out
  refine bodyPost_ret (Kb.rest3 (Kb.put p1 _ _ _) rfl _ _ _ rfl rfl rfl) rfl ⟨rfl, ?_⟩
  repeat (first | refine setC_fr ?_ _ _ _ (by omega) | with_reducible exact HS1.out)
theorem pspawn_any (q f s no:Int) (L:List Pk) (ao:Option Addr) (n cap:Nat) (w:World) (ht:DTab w) (hr:RdK w ao n L) (hcap:n<=cap):Calls Tryz.prog 114 #[.int .u64 q,.int .i64 f,.slice ao n cap,.int .i64 s,.int .i64 no] w fun e w'=>e=.returned (.tuple #[kv (spwn q f L s no),.bool (comes L f s no),.int .i64 (errK L f s no)])/\Still w w':=by
 cases hm:mayK L s with
 | false =>
  have e:errK L f s no=100:=by unfold errK; rw [hm]; rfl
  have e1:comes L f s no=false:=by unfold comes; rw [e]; rfl
  have e2:spwn q f L s no=zK:=by unfold spwn; rw [e1]; rfl
  rw [e,e1,e2]
  exact pspawn_may q f s no L ao n cap w hr hcap hm
 | true =>
  cases ha:argK f no with
  | false =>
   have e:errK L f s no=1:=by unfold errK; rw [hm,ha]; rfl
   have e1:comes L f s no=false:=by unfold comes; rw [e]; rfl
   have e2:spwn q f L s no=zK:=by unfold spwn; rw [e1]; rfl
   rw [e,e1,e2]
   exact pspawn_arg q f s no L ao n cap w hr hcap hm ha
  | true =>
   have e:errK L f s no=0:=by unfold errK; rw [hm,ha]; rfl
   have hM:=mayK_iff.1 hm
   have hA:=argK_iff.1 ha
   rw [e]
   obtain ⟨S,rfl⟩:∃ S:Nat,s=(S:Int):=⟨s.toNat,by have:=hM.1; omega⟩
   refine pspawn_ok q f no S L ao n cap w ht hr hcap hM (by omega) (by simp; omega) (by unfold amg; simp; omega) (comes L f S no) (spwn q f L S no).no (spwn q f L S no).sp (spwn q f L S no).kd (fun h=>?_) (fun h1 h2 h3=>?_)
   ·have e1:comes L f S no=false:=by
     unfold comes
     rw [e,Int.toNat_natCast]
     have hl:=hr.1
     rcases h with h | h | h
     ·simp [h]
     ·rw [hl,h]; simp
     ·rw [h]; simp
    have e2:spwn q f L S no=zK:=by unfold spwn; rw [e1]; rfl
    rw [e2]
    exact ⟨e1,rfl,rfl,rfl⟩
   ·have e1:comes L f S no=true:=by
     unfold comes
     rw [e,Int.toNat_natCast,hr.1]
     simp [h1,h2,h3]
    have e2:spwn q f L S no=⟨no,spotK q f L S,kindK q f⟩:=by unfold spwn; rw [e1]; rfl
    rw [e2]
    refine ⟨e1,rfl, ?_,rfl⟩
    show spotK q f L S=_
    unfold spotK
    rw [Int.toNat_natCast]
end Go.Proofs.YtlibdheihodniaaGreatDoor
set_option maxRecDepth 100000
namespace Go.Proofs.YtlibdheihodniaaGreatDoor.Ygp
open Pu Gp Ap Vp Np Za Ka Ja
def ipl (L:List Mv):Nat->List (Fin L.length)
 | 0=>[]
 | k+1=>ipl L k ++ (if h:k<L.length then (if (mm L k).ou == 0 then [⟨k,h⟩] else []) else [])
theorem ipl_in {L:List Mv} {k:Nat} (h:k<L.length) (ho:((mm L k).ou == 0)=true):ipl L (k+1)=ipl L k ++ [⟨k,h⟩]:=by
 rw [ipl,dif_pos h,if_pos ho]
theorem ipl_out {L:List Mv} {k:Nat} (h:k<L.length) (ho:((mm L k).ou == 0)=false):ipl L (k+1)=ipl L k:=by
 rw [ipl,dif_pos h,if_neg (by rw [ho]; simp),List.append_nil]
theorem ipl_up {L:List Mv} (k:Nat):∀ m,ipl L k <+: ipl L (k+m)
 | 0=>List.prefix_refl _
 | m+1=>(ipl_up k m).trans (by rw [show k+(m+1)=(k+m)+1 from rfl,ipl]; exact List.prefix_append _ _)
theorem ipl_le {L:List Mv} {k m:Nat} (h:k<=m):ipl L k <+: ipl L m:=by
 obtain ⟨d,rfl⟩:∃ d,m=k+d:=⟨m - k,by omega⟩
 exact ipl_up k d
theorem ipl_lt {L:List Mv} {k:Nat} (h:k<L.length) (ho:((mm L k).ou == 0)=true):(ipl L k).length<(ipl L L.length).length:=by
 have:=(ipl_le (L:=L) (show k+1<=L.length from h)).length_le
 rw [ipl_in h ho,List.length_append] at this
 simp at this
 omega
theorem ipl_mem {L:List Mv} {i:Fin L.length}:∀ {k:Nat},i∈ipl L k ↔ i.1<k/\((mm L i.1).ou == 0)=true
 | 0=>by simp [ipl]
 | k+1=>by
  rw [ipl,List.mem_append,ipl_mem (k:=k)]
  constructor
  ·rintro (⟨h1,h2⟩ | h)
   ·exact ⟨by omega,h2⟩
   ·by_cases hk:k<L.length
    ·rw [dif_pos hk] at h
     by_cases ho:((mm L k).ou == 0)=true
     ·rw [if_pos ho] at h
      simp at h
      subst h
      exact ⟨by simp,ho⟩
     ·rw [if_neg ho] at h; simp at h
    ·rw [dif_neg hk] at h; simp at h
  ·rintro ⟨h1,h2⟩
   by_cases hk:i.1<k
   ·exact .inl ⟨hk,h2⟩
   ·have e:i.1=k:=by omega
    right
    have hk:k<L.length:=by have:=i.2; omega
    rw [dif_pos hk,if_pos (by rw [<- e]; exact h2)]
    simp [Fin.ext_iff,e]
theorem ipl_sorted {L:List Mv}:∀ (k:Nat),(ipl L k).Pairwise (fun a b=>a.1<b.1)
 | 0=>by simp [ipl]
 | k+1=>by
  rw [ipl,List.pairwise_append]
  refine ⟨ipl_sorted k, ?_, ?_⟩
  ·split
   ·split <;> simp
   ·simp
  ·intro a ha b hb
   have h1:=(ipl_mem.1 ha).1
   split at hb
   ·split at hb
    ·simp at hb; subst hb; exact h1
    ·simp at hb
   ·simp at hb
theorem ipl_len {L:List Mv}:∀ (k:Nat),(ipl L k).length<=k
 | 0=>by simp [ipl]
 | k+1=>by
  have:=ipl_len (L:=L) k
  rw [ipl,List.length_append]
  have:(if h:k<L.length then (if (mm L k).ou == 0 then [(⟨k,h⟩:Fin L.length)] else []) else []).length<=1:=by
   split
   ·split <;> simp
   ·simp
  omega
theorem lo_up (P:Nat->Bool) {x:Nat} (hx:P x=true):∀ (m k:Nat),k<=x->x<k+m->(∀ j,k<=j->j<x->P j=false)->lo P k m=(x:Int)
 | 0,k,h1,h2,_=>by omega
 | m+1,k,h1,h2,h3=>by
  rw [Ja.lo]
  by_cases e:k=x
  ·subst e; rw [hx]; rfl
  ·rw [h3 k (Nat.le_refl _) (by omega)]
   exact lo_up P hx m (k+1) (by omega) (by omega) (fun j h4 h5=>h3 j (by omega) h5)
theorem lo_none (P:Nat->Bool):∀ (m k:Nat),(∀ j,k<=j->j<k+m->P j=false)->lo P k m=-1
 | 0,_,_=>rfl
 | m+1,k,h=>by
  rw [Ja.lo,h k (Nat.le_refl _) (by omega)]
  exact lo_none P m (k+1) (fun j h1 h2=>h j (by omega) (by omega))
def inSo (L:List Mv) (so:Nat->Bool) (k:Nat):Bool:=((mm L k).ou == 0) && so k
theorem lo_all {L:List Mv} {so:Nat->Bool} (h:∀ y∈ipl L L.length,so y.1=false):lo (inSo L so) 0 L.length=-1 :=
 lo_none _ _ _ (fun j _ hj=>by
  unfold inSo
  cases ho:(mm L j).ou == 0 with
  | false=>rfl
  | true=>rw [h ⟨j,by omega⟩ (ipl_mem.2 ⟨by simp; omega,ho⟩)]; rfl)
theorem lo_first {L:List Mv} {so:Nat->Bool} {pre:List (Fin L.length)} {x:Fin L.length} (hp:pre ++ [x] <+: ipl L L.length) (hn:∀ y∈pre,so y.1=false) (hx:so x.1=true):lo (inSo L so) 0 L.length=(x.1:Int):=by
 have hm:=ipl_mem.1 (hp.subset (show x∈pre ++ [x] by simp))
 refine lo_up _ (by unfold inSo; rw [hm.2,hx]; rfl) _ _ (Nat.zero_le _) (by omega) (fun j _ hj=>?_)
 unfold inSo
 cases ho:(mm L j).ou == 0 with
 | false=>rfl
 | true =>
  have hjm:(⟨j,by omega⟩:Fin L.length)∈ipl L L.length:=ipl_mem.2 ⟨by simp; omega,ho⟩
  obtain ⟨t,ht⟩:=hp
  have hs:=ipl_sorted (L:=L) L.length
  rw [<- ht] at hjm hs
  rw [List.append_assoc,List.pairwise_append] at hs
  rw [List.append_assoc,List.mem_append] at hjm
  rcases hjm with h | h
  ·rw [hn _ h]; rfl
  ·simp at h
   rcases h with h | h
   ·have:=Fin.ext_iff.1 h; simp at this; omega
   ·have:=(List.pairwise_append.1 hs.2.1).2.2 x (by simp) _ h; simp at this; omega
/-! pairs -/
def inr {n:Nat} (a:Fin n) (q:List (Fin n)):List (Fin n × Fin n):=q.flatMap fun b=>if a.1<b.1 then [(a,b)] else []
def prs {n:Nat} (q:List (Fin n)) (pre:List (Fin n)):List (Fin n × Fin n):=pre.flatMap fun a=>inr a q
theorem inr_snoc {n:Nat} (a:Fin n) (q:List (Fin n)) (b:Fin n):inr a (q ++ [b])=inr a q ++ (if a.1<b.1 then [(a,b)] else []):=by simp [inr]
theorem prs_snoc {n:Nat} (q pre:List (Fin n)) (a:Fin n):prs q (pre ++ [a])=prs q pre ++ inr a q:=by simp [prs]
theorem inr_len {n:Nat} (a:Fin n) (q:List (Fin n)):(inr a q).length<=q.length:=by
 induction q with
 | nil=>simp [inr]
 | cons b q ih =>
  have e:inr a (b :: q)=(if a.1<b.1 then [(a,b)] else []) ++ inr a q:=by simp [inr]
  rw [e,List.length_append,List.length_cons]
  split <;> simp <;> omega
theorem prs_len {n:Nat} (q pre:List (Fin n)):(prs q pre).length<=pre.length*q.length:=by
 induction pre with
 | nil=>simp [prs]
 | cons a pre ih =>
  have e:prs q (a :: pre)=inr a q ++ prs q pre:=by simp [prs]
  have:=inr_len a q
  rw [e,List.length_append,List.length_cons,Nat.succ_mul]
  omega
def met (L:List Mv) (l:List (Fin L.length × Fin L.length)):List (Int × Int):=l.flatMap fun p=>if ov (mm L p.1.1) (mm L p.2.1).ax (mm L p.2.1).ay 1280 then [((p.1.1:Int),(p.2.1:Int))] else []
theorem met_snoc (L:List Mv) (l:List (Fin L.length × Fin L.length)) (a b:Fin L.length):met L (l ++ [(a,b)])=met L l ++ (if ov (mm L a.1) (mm L b.1).ax (mm L b.1).ay 1280 then [((a.1:Int),(b.1:Int))] else []):=by simp [met]
theorem met_app (L:List Mv) (l k:List (Fin L.length × Fin L.length)):met L (l ++ k)=met L l ++ met L k:=by simp [met]
theorem met_len (L:List Mv) (l:List (Fin L.length × Fin L.length)):(met L l).length<=l.length:=by
 induction l with
 | nil=>simp [met]
 | cons p l ih =>
  have e:met L (p :: l)=(if ov (mm L p.1.1) (mm L p.2.1).ax (mm L p.2.1).ay 1280 then [((p.1.1:Int),(p.2.1:Int))] else []) ++ met L l:=by simp [met]
  rw [e,List.length_append,List.length_cons]
  split <;> simp <;> omega
theorem met_inr (L:List Mv) (a:Fin L.length) (ha:((mm L a.1).ou == 0)=true):∀ k,k<=L.length->met L (inr a (ipl L k))=Ja.rowB L a.1 k
 | 0,_=>by simp [ipl,inr,met,Ja.rowB]
 | k+1,h=>by
  have ih:=met_inr L a ha k (by omega)
  rw [Ja.rowB,<- ih]
  cases ho:(mm L k).ou == 0 with
  | false =>
   rw [ipl_out (by omega) ho]
   have e:two L a.1 k=false:=by unfold two; rw [ha,ho]; rfl
   rw [e]
   simp
  | true =>
   rw [ipl_in (by omega) ho,inr_snoc,met_app]
   have e:two L a.1 k=ov (mm L a.1) (mm L k).ax (mm L k).ay 1280:=by unfold two; rw [ha,ho]; rfl
   rw [e]
   by_cases hk:a.1<k
   ·rw [if_pos hk]
    simp [met,hk]
   ·rw [if_neg hk]
    simp [met,hk]
theorem row_out (L:List Mv) {i:Nat} (ho:((mm L i).ou == 0)=false):∀ k,Ja.rowB L i k=[]
 | 0=>rfl
 | k+1=>by
  rw [Ja.rowB,row_out L ho k]
  have e:two L i k=false:=by unfold two; rw [ho]; rfl
  rw [e]; simp
theorem met_all (L:List Mv):∀ i,i<=L.length->met L (prs (ipl L L.length) (ipl L i))=allB L i
 | 0,_=>by simp [ipl,prs,met,allB]
 | i+1,h=>by
  have ih:=met_all L i (by omega)
  rw [allB,<- ih]
  cases ho:(mm L i).ou == 0 with
  | false=>rw [ipl_out (by omega) ho,row_out L ho,List.append_nil]
  | true =>
   rw [ipl_in (by omega) ho,prs_snoc,met_app,met_inr L ⟨i,by omega⟩ ho L.length (Nat.le_refl _)]
end Go.Proofs.YtlibdheihodniaaGreatDoor.Ygp
set_option maxRecDepth 100000
namespace Go.Proofs.YtlibdheihodniaaGreatDoor.Ha
open Pu Gp Ap Vp Np Za Ka Ja Ea
end Go.Proofs.YtlibdheihodniaaGreatDoor.Ha
set_option maxRecDepth 100000
namespace Go.Proofs.YtlibdheihodniaaGreatDoor.Ha
open Pu Gp Ap Vp Np Za Ka Ja Ea
theorem acts_cs:∀ (l:List Cm) (g:Gm),(acts l g).w.cs=g.w.cs/\(acts l g).w.ks=g.w.ks
 | [],_=>⟨rfl,rfl⟩
 | x :: l,g=>by
  have ih:=acts_cs l (act1 g x)
  have e:(act1 g x).w.cs=g.w.cs/\(act1 g x).w.ks=g.w.ks:=by
   unfold act1
   dsimp only
   split
   ·exact ⟨rfl,rfl⟩
   ·split <;> exact ⟨rfl,rfl⟩
  exact ⟨ih.1.trans e.1,ih.2.trans e.2⟩
theorem bncs_cs:∀ (l:List (Int × Int)) (g:Gm),(bncs l g).w.cs=g.w.cs/\(bncs l g).w.ks=g.w.ks/\(bncs l g).w.hs=g.w.hs
 | [],_=>⟨rfl,rfl,rfl⟩
 | t :: l,g=>bncs_cs l (bnc1 g t)
theorem harm_o {n:Nat} {g:Gm} {s:Sh} {t:Int} (h:Seats n g.w) (hs:MayS s) (ho:s.ow.toNat<n) (ht:t.toNat<n) (p:Nat):(sc (harm g s t).w.cs p).o<=(sc g.w.cs p).o+1:=by
 unfold harm
 dsimp only
 split
 ·omega
 ·obtain ⟨o,eo⟩:∃ o,hurD (mm g.w.ms t.toNat) (dmg s.pw)=o:=⟨_,rfl⟩
  rw [eo]
  obtain ⟨q1,q2,_⟩:=hit_outs (o:=o) (h.2.2.2 _ ho) (h.2.2.2 _ ht) hs.2.2.1
  have hb:=seats_o h t.toNat
  show (sc ((g.w.cs.set s.ow.toNat _).set t.toNat _) p).o<=_
  rw [scs_set (by simp; rw [h.2.2.1]; exact ht)]
  split
  ·rename_i e
   subst e
   rw [q2]
   cases o
   ·simp only [Bool.false_eq_true,if_false]; omega
   ·simp only [if_true]
    unfold bdC
    split
    ·omega
    ·split <;> omega
  ·rw [scs_set (by rw [h.2.2.1]; exact ho)]
   split
   ·rename_i e
    subst e
    rw [q1]; omega
   ·omega
theorem harms_o {n:Nat} {F:List Sh} (hF:∀ i,i<F.length->MayS (ss F i)/\(ss F i).ow.toNat<n) (p:Nat):∀ (l:List (Int × Int)) (g:Gm),Seats n g.w->(∀ t∈l,t.1.toNat<F.length/\t.2.toNat<n)->(sc (harmR F l g).w.cs p).o<=(sc g.w.cs p).o+(l.length:Int)
 | [],g,_,_=>by simp [harmR]
 | t :: l,g,h,hl=>by
  obtain ⟨t1,t2⟩:=hl t (List.mem_cons_self ..)
  have h1:=harm_o h (hF _ t1).1 (hF _ t1).2 t2 p
  have h2:=harms_o hF p l (harm g (ss F t.1.toNat) t.2) (seats_harm h (hF _ t1).1 (hF _ t1).2 t2) (fun y hy=>hl y (List.mem_cons_of_mem _ hy))
  have e:(harmR F (t :: l) g)=harmR F l (harm g (ss F t.1.toNat) t.2):=rfl
  rw [e,List.length_cons]
  omega
theorem takes_o {n:Nat} {Q:List Pk} (hQ:∀ i,i<Q.length->1<=(pk Q i).kd/\(pk Q i).kd<=3) (p:Nat):∀ (l:List (Int × Int)) (g:Gm),Seats n g.w->(∀ t∈l,t.1.toNat<Q.length/\t.2.toNat<n)->(sc (takR Q l g).w.cs p).o=(sc g.w.cs p).o
 | [],g,_,_=>rfl
 | t :: l,g,h,hl=>by
  obtain ⟨t1,t2⟩:=hl t (List.mem_cons_self ..)
  have h2:=takes_o hQ p l (take1 Q g t) (seats_take h (hQ _ t1) t2) (fun y hy=>hl y (List.mem_cons_of_mem _ hy))
  have e:(takR Q (t :: l) g)=takR Q l (take1 Q g t):=rfl
  rw [e,h2]
  obtain ⟨_,m2,m3⟩:=may_take (h.2.1 _ t2) (hQ _ t1)
  have g1:=(gain_in (h.2.2.2 _ t2) (n:=takP (mm g.w.ms t.2.toNat) (pk Q t.1.toNat).kd) ⟨m2,by omega⟩).1
  show (sc (g.w.cs.set t.2.toNat _) p).o=_
  rw [scs_set (by rw [h.2.2.1]; exact t2)]
  split
  ·rename_i e
   subst e
   exact g1
  ·rfl
theorem shts_o {n:Nat} {E:Env} {g:Gm} (h:Good n E g.w) (p:Nat):(sc (shts E g).w.cs p).o<=(sc g.w.cs p).o+48:=by
 obtain ⟨hS,r1,r2,_⟩:=h
 obtain ⟨f1,f2⟩:=flo_fls (E:=E) r1
 have hF:∀ i,i<(flsF E g.w.hs).length->MayS (ss (flsF E g.w.hs) i)/\(ss (flsF E g.w.hs) i).ow.toNat<n:=fun i hi=>by
  have hm:ss (flsF E g.w.hs) i∈flsF E g.w.hs:=by rw [ss_at hi]; exact List.getElem_mem hi
  have h1:=(flo_pw.1 f1).2.1 _ hm
  obtain ⟨t,ht,_,h3⟩:=f2 _ hm
  have h4:=(r2 t ht).1
  have h5:0<=(ss (flsF E g.w.hs) i).ow:=h1.2.1.1
  exact ⟨h1,by omega⟩
 have h1:=harms_o hF p (sho g.w.ms (flsF E g.w.hs)) g hS (fun t ht=>by have:=sho_in t ht; exact ⟨this.1,by rw [<- hS.1]; exact this.2⟩)
 have h2:(sho g.w.ms (flsF E g.w.hs)).length<=48:=sho_len
 show (sc (harmR (flsF E g.w.hs) (sho g.w.ms (flsF E g.w.hs)) g).w.cs p).o<=_
 omega
theorem pcks_o {n:Nat} {E:Env} {f:Int} {g:Gm} (h:Good n E g.w) (p:Nat):(sc (pcks E f g).w.cs p).o=(sc g.w.cs p).o:=by
 obtain ⟨hS,_,_,r3,_⟩:=h
 have h1:=takes_o (n:=n) (Q:=g.w.ks) (fun i hi=>(r3.2.2 i hi).2.2.2.1) p (pic g.w.ms g.w.ks E.sp) g hS (fun t ht=>by have:=pic_in t ht; exact ⟨this.1,by rw [<- hS.1]; exact this.2⟩)
 unfold pcks
 dsimp only
 split <;> exact h1
def Apt (w:Wd):Prop:=∀ s∈w.hs,∀ x∈w.ks,s.no≠x.no
theorem apt_act1 {n:Nat} {E:Env} {g:Gm} {x:Cm} (hn:n<=6) (h:Good n E g.w) (hx:Rgt n x) (ha:Apt g.w):Apt (act1 g x).w:=by
 have hg:=good_act1 (E:=E) hn h hx
 obtain ⟨hS,r1,r2,r3,r4,r5,r6⟩:=h
 obtain ⟨p0,p1,p2,p3⟩:=hx
 have hp:x.pe.toNat<n:=by omega
 have he:errA (mm g.w.ms x.pe.toNat) x.v x.a x.b x.c=0:=by unfold errA; rw [mayB_iff.2 (hS.2.1 _ hp)]; exact p3
 have hm:=may_act he
 unfold act1
 dsimp only
 split
 ·rename_i hc
  obtain ⟨_,c2,c3,c4⟩:=hc
  have ha3:1<=x.a/\x.a<=3:=by have:=chk_rng p3; omega
  have harg:argB x.pe x.a g.w.nx=true:=argB_iff.2 ⟨⟨p0,by omega⟩,ha3,r5,c4⟩
  have hf:(firS (actM (mm g.w.ms x.pe.toNat) x.v x.a x.b x.c) x.pe x.a g.w.nx).no=g.w.nx:=by
   unfold firS errF
   rw [mayB_iff.2 hm,harg]
   rfl
  intro s hs y hy
  rcases List.mem_append.1 hs with hs | hs
  ·exact ha s hs y hy
  ·rw [List.mem_singleton.1 hs,hf]
   have:=r4 y hy
   omega
 ·split <;> exact ha
theorem apt_acts {n:Nat} {E:Env} (hn:n<=6):∀ (l:List Cm) (g:Gm),Good n E g.w->(∀ x∈l,Rgt n x)->Apt g.w->Apt (acts l g).w
 | [],_,_,_,h=>h
 | x :: l,g,hg,hl,h=>by
  have hx:=hl x (List.mem_cons_self ..)
  exact apt_acts hn l (act1 g x) (good_act1 hn hg hx) (fun y hy=>hl y (List.mem_cons_of_mem _ hy)) (apt_act1 hn hg hx h)
theorem apt_shts {n:Nat} {E:Env} {g:Gm} (h:Good n E g.w) (ha:Apt g.w):Apt (shts E g).w:=by
 obtain ⟨hS,r1,_⟩:=h
 obtain ⟨_,f2⟩:=flo_fls (E:=E) r1
 have hk:(shts E g).w.ks=g.w.ks:=(harmR_keeps _ _ g).2.2.1
 intro s hs y hy
 rw [hk] at hy
 obtain ⟨t,ht,e,_⟩:=f2 s ((lefts_sub _ _).subset hs)
 rw [e]
 exact ha t ht y hy
theorem apt_pcks {n:Nat} {E:Env} {f:Int} {g:Gm} (h:Good n E g.w) (ha:Apt g.w):Apt (pcks E f g).w:=by
 obtain ⟨_,_,r2,_⟩:=h
 obtain ⟨_,k2,_,k4⟩:=takR_ks g.w.ks (pic g.w.ms g.w.ks E.sp) g
 unfold pcks
 dsimp only
 split
 ·rename_i hc
  intro s hs y hy
  have hs':s∈g.w.hs:=by rw [<- k4]; exact hs
  rcases List.mem_append.1 hy with hy | hy
  ·exact ha s hs' y ((lefts_sub _ _).subset hy)
  ·rw [List.mem_singleton.1 hy]
   have e:(spwn E.q f (lefts g.w.ks (pic g.w.ms g.w.ks E.sp)) (E.sp.length:Int) (takR g.w.ks (pic g.w.ms g.w.ks E.sp) g).w.nx).no=g.w.nx:=by
    unfold spwn
    rw [if_pos hc.2]
    exact k2
   rw [e]
   have:=(r2 s hs').2
   omega
 ·intro s hs y hy
  have hs':s∈g.w.hs:=by rw [<- k4]; exact hs
  exact ha s hs' y ((lefts_sub _ _).subset hy)
theorem rsts_cs (E:Env) (g:Gm):(rsts E g).w.cs=g.w.cs:=rfl
theorem apt_rsts {E:Env} {g:Gm} (h:Apt g.w) (f:Int):Apt { (rsts E g).w with fr:=f }:=h
structure FairF (w:Wd) (g:Gm):Prop where
 told:Told ⟨w,[]⟩ g g.ns
 o:∀ p:Nat,(sc g.w.cs p).o<=(sc w.cs p).o+48
 apt:Apt w->Apt g.w
theorem fair_frame {n:Nat} {E:Env} {w:Wd} {l:List Cm} (hn:n<=6) (h:Good n E w) (hl:∀ x∈l,Rgt n x):FairF w (frame E w l):=by
 have a1:=good_acts hn l ⟨w,[]⟩ h hl
 have g1:=good_glid (E:=E) a1
 have hin:∀ t∈bod (glid E (acts l ⟨w,[]⟩)).w.ms,t.1.toNat<n/\t.2.toNat<n:=fun t ht=>by
  have:=bod_in t ht
  rw [g1.1.1] at this
  exact this
 have g2:=good_bncs (bod (glid E (acts l ⟨w,[]⟩)).w.ms) _ g1 hin
 have g3:=good_shts g2
 have b:=bncs_cs (bod (glid E (acts l ⟨w,[]⟩)).w.ms) (glid E (acts l ⟨w,[]⟩))
 have c:=acts_cs l ⟨w,[]⟩
 refine ⟨told_frame hn h hl,fun p=>?_,fun ha=>?_⟩
 ·have h1:=shts_o g2 p
  have h3:=pcks_o (f:=w.fr+1) g3 p
  rw [b.1] at h1
  have e2:(glid E (acts l ⟨w,[]⟩)).w.cs=w.cs:=c.1
  rw [e2] at h1
  unfold frame
  dsimp only
  rw [rsts_cs,h3]
  exact h1
 ·have h1:=apt_acts (E:=E) hn l ⟨w,[]⟩ h hl ha
  have h2:Apt (bncs (bod (glid E (acts l ⟨w,[]⟩)).w.ms) (glid E (acts l ⟨w,[]⟩))).w:=by
   intro s hs y hy
   rw [b.2.2] at hs
   rw [b.2.1] at hy
   exact h1 s hs y hy
  have h3:=apt_pcks (f:=w.fr+1) g3 (apt_shts g2 h2)
  unfold frame
  dsimp only
  exact apt_rsts h3 _
theorem FairF.outs {w:Wd} {g:Gm} (h:FairF w g) {p:Nat} (hb:(sc w.cs p).o<=1000000):(sc g.w.cs p).o=(sc w.cs p).o+(outsN g.ns p:Int):=by
 have h1:=h.told.ou p
 have h2:=h.o p
 have h3:=h.told.pos p
 dsimp only at h1 h3
 unfold bdC at h1
 split at h1
 ·omega
 ·split at h1 <;> omega
end Go.Proofs.YtlibdheihodniaaGreatDoor.Ha
