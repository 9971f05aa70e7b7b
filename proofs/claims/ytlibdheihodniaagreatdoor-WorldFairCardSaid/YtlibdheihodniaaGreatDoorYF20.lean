/- Parts of the proof, laid end to end. -/
import Derived.Test.YtlibdheihodniaaGreatDoorYF10
import Derived.Test.YtlibdheihodniaaGreatDoorYF11
import Derived.Test.YtlibdheihodniaaGreatDoorYF19
import Derived.Test.YtlibdheihodniaaGreatDoorYF13
import Derived.Test.YtlibdheihodniaaGreatDoorYF14
set_option maxHeartbeats 4000000
namespace Go.Proofs.YtlibdheihodniaaGreatDoor
open Go.RowKit
open Pu Gp Ap Vp Np Za Ka Ja Ea Ha Hg
set_option maxRecDepth 100000
theorem allKM_any (L:List Mv) (ao:Option Addr) (n cap:Nat) (w:World) (hr:RdG KM w ao n L):Calls Tryz.prog 49 #[.slice ao n cap,.func (.func 50) #[] #[]] w fun e w'=>IsB e (∀ i,i<L.length->chkM (mm L i)=0)/\Still w w':=by
 have HR:=hid hr
 have h47:n<=281474976710656:=hr.2.1
 have HL:Hid (n=L.length):=hid (by have:=hr.1; omega)
 clear hr
 go_enter Tryz.func49,Tryz.ntmps49
 go_wp2_with fail
 go_loopw [9] (fun u wr=>∃ k:Nat,k<=n/\u=.int .i64 (k:Int)/\Hid (∀ i,i<k->chkM (mm L i)=0)/\Still w wr) (fun u _=>n - (intOf u).toNat)
 case atStart=>exact ⟨0,by omega,rfl,hid (fun i hi=>by omega),Fr.refl _ _⟩
 case round =>
  obtain ⟨k,hk,rfl,HK,hs⟩:=hrel
  by_cases hkn:k<n
  ·have hlt:(k:Int)<(n:Int):=by omega
   have hr1:=HR.out.still hs
   obtain ⟨B,o,rfl⟩:=hr1.at (by omega)
   obtain ⟨c0,c1,c2,c3,c4,c5,c6,c7,c8,c9,c10,c11,c12⟩:=rdM hr1 hkn
   have HM:=hid (fun u=>check8_any (mm L k) u)
   have HE:=hid (show chkM (mm L k)=0->∀ i,i<k+1->chkM (mm L i)=0 from fun h i hi=>by
    by_cases e:i=k
    ·subst e; exact h
    ·exact HK.out i (by omega))
   have HN:=hid (show chkM (mm L k)≠0->¬ ∀ i,i<L.length->chkM (mm L i)=0 from fun h h2=>h (h2 k (by have:=HL.out; omega)))
   obtain ⟨x,ex⟩:∃ x,mm L k=x:=⟨_,rfl⟩
   rw [ex] at c0 c1 c2 c3 c4 c5 c6 c7 c8 c9 c10 c11 c12 HM HE HN
   obtain ⟨e0,e1,e2,e3,e4,e5,e6,e7,e8,e9,e10,e11,e12,ef⟩:=(newM_mb wr x).cells
   have HS1:=hid (hs.trans (Still.alloc wr (.cells (mcs x) 48)))
   obtain ⟨r,er⟩:∃ r,chkM x=r:=⟨_,rfl⟩
   rw [er] at HM HE HN
   clear hs hr1 HK ex er
   go_wp2_with fail
   refine (HM.out _).mono ?_
   rintro e w1 ⟨rfl,h1⟩
   have HS2:=hid (HS1.out.trans h1)
   clear h1 HS1 c0 c1 c2 c3 c4 c5 c6 c7 c8 c9 c10 c11 c12 e0 e1 e2 e3 e4 e5 e6 e7 e8 e9 e10 e11 e12 ef
   by_cases hz:r=0
   ·have hz':(r != 0)=false:=by simpa using hz
    have HE2:=hid (HE.out hz)
    clear hz HE HN
    go_wp2_with fail
    go_roundw
    case rel=>exact ⟨k+1,by omega,by go_num,HE2,HS2.out⟩
    case measure=>simp [intOf]; omega
   ·have hz':(r != 0)=true:=by simpa using hz
    have HE2:=hid (HN.out hz)
    clear hz HE HN
    go_wp2_with fail
    (first | rw [Exit.noGoto_ret] | skip)
    go_ret
    exact ⟨IsB.no HE2.out,HS2.out⟩
  ·have hge:¬ (k:Int)<(n:Int):=by omega
   have HE:=hid (show ∀ i,i<L.length->chkM (mm L i)=0 from fun i hi=>HK.out i (by have:=HL.out; omega))
   have HS1:=hid hs
   clear hs HK
   go_wp2_with fail
   go_ret
   exact ⟨IsB.yes HE.out,HS1.out⟩
theorem allKC_any (L:List Scr) (ao:Option Addr) (n cap:Nat) (w:World) (hr:RdG KC w ao n L):Calls Tryz.prog 51 #[.slice ao n cap,.func (.func 52) #[] #[]] w fun e w'=>IsB e (∀ i,i<L.length->chkC (sc L i)=0)/\Still w w':=by
 have HR:=hid hr
 have h47:n<=281474976710656:=hr.2.1
 have HL:Hid (n=L.length):=hid (by have:=hr.1; omega)
 clear hr
 go_enter Tryz.func51,Tryz.ntmps51
 go_wp2_with fail
 go_loopw [9] (fun u wr=>∃ k:Nat,k<=n/\u=.int .i64 (k:Int)/\Hid (∀ i,i<k->chkC (sc L i)=0)/\Still w wr) (fun u _=>n - (intOf u).toNat)
 case atStart=>exact ⟨0,by omega,rfl,hid (fun i hi=>by omega),Fr.refl _ _⟩
 case round =>
  obtain ⟨k,hk,rfl,HK,hs⟩:=hrel
  by_cases hkn:k<n
  ·have hlt:(k:Int)<(n:Int):=by omega
   have hr1:=HR.out.still hs
   obtain ⟨B,o,rfl⟩:=hr1.at (by omega)
   obtain ⟨c0,c1,c2,c3⟩:=rdC hr1 hkn
   have HM:=hid (fun u=>schk_any (sc L k) u)
   have HE:=hid (show chkC (sc L k)=0->∀ i,i<k+1->chkC (sc L i)=0 from fun h i hi=>by
    by_cases e:i=k
    ·subst e; exact h
    ·exact HK.out i (by omega))
   have HN:=hid (show chkC (sc L k)≠0->¬ ∀ i,i<L.length->chkC (sc L i)=0 from fun h h2=>h (h2 k (by have:=HL.out; omega)))
   obtain ⟨x,ex⟩:∃ x,sc L k=x:=⟨_,rfl⟩
   rw [ex] at c0 c1 c2 c3 HM HE HN
   obtain ⟨e0,e1,e2,e3,ef⟩:=(newC_cb wr x).cells
   have HS1:=hid (hs.trans (Still.alloc wr (.cells (ccs x) 50)))
   obtain ⟨r,er⟩:∃ r,chkC x=r:=⟨_,rfl⟩
   rw [er] at HM HE HN
   clear hs hr1 HK ex er
   go_wp2_with fail
   refine (HM.out _).mono ?_
   rintro e w1 ⟨rfl,h1⟩
   have HS2:=hid (HS1.out.trans h1)
   clear h1 HS1 c0 c1 c2 c3 e0 e1 e2 e3 ef
   by_cases hz:r=0
   ·have hz':(r != 0)=false:=by simpa using hz
    have HE2:=hid (HE.out hz)
    clear hz HE HN
    go_wp2_with fail
    go_roundw
    case rel=>exact ⟨k+1,by omega,by go_num,HE2,HS2.out⟩
    case measure=>simp [intOf]; omega
   ·have hz':(r != 0)=true:=by simpa using hz
    have HE2:=hid (HN.out hz)
    clear hz HE HN
    go_wp2_with fail
    (first | rw [Exit.noGoto_ret] | skip)
    go_ret
    exact ⟨IsB.no HE2.out,HS2.out⟩
  ·have hge:¬ (k:Int)<(n:Int):=by omega
   have HE:=hid (show ∀ i,i<L.length->chkC (sc L i)=0 from fun i hi=>HK.out i (by have:=HL.out; omega))
   have HS1:=hid hs
   clear hs HK
   go_wp2_with fail
   go_ret
   exact ⟨IsB.yes HE.out,HS1.out⟩
theorem allKS_any (L:List Sh) (ao:Option Addr) (n cap:Nat) (w:World) (hr:RdG KS w ao n L):Calls Tryz.prog 53 #[.slice ao n cap,.func (.func 54) #[] #[]] w fun e w'=>IsB e (∀ i,i<L.length->chkS (ss L i)=0)/\Still w w':=by
 have HR:=hid hr
 have h47:n<=281474976710656:=hr.2.1
 have HL:Hid (n=L.length):=hid (by have:=hr.1; omega)
 clear hr
 go_enter Tryz.func53,Tryz.ntmps53
 go_wp2_with fail
 go_loopw [9] (fun u wr=>∃ k:Nat,k<=n/\u=.int .i64 (k:Int)/\Hid (∀ i,i<k->chkS (ss L i)=0)/\Still w wr) (fun u _=>n - (intOf u).toNat)
 case atStart=>exact ⟨0,by omega,rfl,hid (fun i hi=>by omega),Fr.refl _ _⟩
 case round =>
  obtain ⟨k,hk,rfl,HK,hs⟩:=hrel
  by_cases hkn:k<n
  ·have hlt:(k:Int)<(n:Int):=by omega
   have hr1:=HR.out.still hs
   obtain ⟨B,o,rfl⟩:=hr1.at (by omega)
   obtain ⟨c0,c1,c2,c3,c4,c5,c6,c7⟩:=rdS hr1 hkn
   have HM:=hid (fun u=>chks_any (ss L k) u)
   have HE:=hid (show chkS (ss L k)=0->∀ i,i<k+1->chkS (ss L i)=0 from fun h i hi=>by
    by_cases e:i=k
    ·subst e; exact h
    ·exact HK.out i (by omega))
   have HN:=hid (show chkS (ss L k)≠0->¬ ∀ i,i<L.length->chkS (ss L i)=0 from fun h h2=>h (h2 k (by have:=HL.out; omega)))
   obtain ⟨x,ex⟩:∃ x,ss L k=x:=⟨_,rfl⟩
   rw [ex] at c0 c1 c2 c3 c4 c5 c6 c7 HM HE HN
   obtain ⟨e0,e1,e2,e3,e4,e5,e6,e7,ef⟩:=(newS_sb wr x).cells
   have HS1:=hid (hs.trans (Still.alloc wr (.cells (scs x) 52)))
   obtain ⟨r,er⟩:∃ r,chkS x=r:=⟨_,rfl⟩
   rw [er] at HM HE HN
   clear hs hr1 HK ex er
   go_wp2_with fail
   refine (HM.out _).mono ?_
   rintro e w1 ⟨rfl,h1⟩
   have HS2:=hid (HS1.out.trans h1)
   clear h1 HS1 c0 c1 c2 c3 c4 c5 c6 c7 e0 e1 e2 e3 e4 e5 e6 e7 ef
   by_cases hz:r=0
   ·have hz':(r != 0)=false:=by simpa using hz
    have HE2:=hid (HE.out hz)
    clear hz HE HN
    go_wp2_with fail
    go_roundw
    case rel=>exact ⟨k+1,by omega,by go_num,HE2,HS2.out⟩
    case measure=>simp [intOf]; omega
   ·have hz':(r != 0)=true:=by simpa using hz
    have HE2:=hid (HN.out hz)
    clear hz HE HN
    go_wp2_with fail
    (first | rw [Exit.noGoto_ret] | skip)
    go_ret
    exact ⟨IsB.no HE2.out,HS2.out⟩
  ·have hge:¬ (k:Int)<(n:Int):=by omega
   have HE:=hid (show ∀ i,i<L.length->chkS (ss L i)=0 from fun i hi=>HK.out i (by have:=HL.out; omega))
   have HS1:=hid hs
   clear hs HK
   go_wp2_with fail
   go_ret
   exact ⟨IsB.yes HE.out,HS1.out⟩
end Go.Proofs.YtlibdheihodniaaGreatDoor
namespace Go.Proofs.YtlibdheihodniaaGreatDoor
open Go.RowKit
open Pu Gp Ap Vp Np Za Ka Ja Ea Ha Hg Hi
set_option maxRecDepth 100000
def OrdY (N:Nat) (l:List Cm) (i:Nat):Prop:=Rgt N (cm l i)/\(0<i->¬ itn (cm l (i - 1)) (cm l i)=0)
def OrdAll (N:Nat) (l:List Cm):Prop:=∀ i,i<l.length->OrdY N l i
theorem mayall_any (S:Se) (N:Nat) (hp:S.F.p=(N:Int)) (hN:N<=6) (l:List Cm) (xo:Option Addr) (n xcp:Nat) (w:World) (hr:RdG KX w xo n l) :
  Calls Tryz.prog 24 #[.agg (sec S),.slice xo n xcp] w fun e w'=>IsB e (OrdAll N l)/\Still w w':=by
 have A0:=Still.alloc w (.cells (sec S) 68)
 have HP:=hid (newSe_sb w S)
 have HS:=hid A0
 have HR:=hid hr
 have HL:=hid hr.1
 have hn48:n<=281474976710656:=hr.2.1
 have HPp:=hid hp
 clear A0 hr hp
 have HO:Hid (OrdAll N l ↔ ∀ i,i<l.length->OrdY N l i):=hid Iff.rfl
 go_enter Tryz.func24,Tryz.ntmps24
 go_wp2_with fail
 go_loopw [9] (fun u wr=>∃ i:Nat,i<=n/\u=.int .i64 (i:Int)/\Hid (∀ j,j<i->OrdY N l j)/\Still (w.alloc (.cells (sec S) 68)) wr) (fun u _=>n - (intOf u).toNat)
 case atStart=>exact ⟨0,by omega,rfl,hid (fun j h=>by omega),Fr.refl _ _⟩
 case round =>
  obtain ⟨i,hi,rfl,HJ,hs⟩:=hrel
  by_cases hin:i<n
  ·have hlt:(i:Int)<(n:Int):=by omega
   have hrd:=HR.out.still (HS.out.trans hs)
   obtain ⟨C,o,rfl⟩:=hrd.at (by omega)
   obtain ⟨q0,q1,q2,q3,q4,q5,q6⟩:=rdX hrd hin
   have HNo:Hid (¬ OrdY N l i->¬ OrdAll N l):=hid (fun h h2=>h (HO.out.1 h2 i (by have:=HL.out; omega)))
   have HYs:Hid (OrdY N l i->∀ j,j<i+1->OrdY N l j):=hid (fun h j hj=>by
    by_cases e:j=i
    ·subst e; exact h
    ·exact HJ.out j (by omega))
   have HD:Hid (OrdY N l i ↔ Rgt N (cm l i)/\(0<i->¬ itn (cm l (i - 1)) (cm l i)=0)):=hid Iff.rfl
   obtain ⟨y,ey⟩:∃ z,cm l i=z:=⟨_,rfl⟩
   simp only [ey] at q0 q1 q2 q3 q4 q5 q6
   rw [ey] at HD
   have A1:=Still.alloc wr (.cells (xcs y) 60)
   have HSx:=hid ((HS.out.trans hs).trans A1)
   have HSy:=hid (hs.trans A1)
   have p1:=(HP.out.still hs).still A1
   have x1:=newX_xb wr y
   have HRx:=hid (HR.out.still HSx.out)
   obtain ⟨c0,c1,c2,c3,c4,c5,c6,c7,cf⟩:=p1.cells
   obtain ⟨d0,d1,d2,d3,d4,d5,d6,df⟩:=x1.cells
   have k0:=Cl.cell c0
   have k1:=Cl.cell c1
   have k2:=Cl.cell c2
   have k3:=Cl.cell c3
   have k4:=Cl.cell c4
   have k5:=Cl.cell c5
   have k6:=Cl.cell c6
   have k7:=Cl.cell c7
   obtain ⟨n0,n1,n2,n3,n4,n5,n6⟩:=x1.cl
   have hne:=Aft.here (newX wr y)
   clear ey A1 hs hrd p1 x1
   by_cases t1:Rgt N y
   rotate_left
   ·have HMo:=hid (fun u=>(mayorder_any S N HPp.out hN y u).mono fun e w' ⟨h1,h2⟩=>And.intro (h1.is_no t1) h2)
    have HIt:=hid (fun u=>inturn_any y y u)
    have HX:=hid (HNo.out (fun h=>t1 (HD.out.1 h).1))
    clear t1
    go_upto_region 4 with fail
    refine region_all (by kernel_rfl) (by kernel_rfl) ?_
    repeat (go_big_quiet_step ((first | (go_at_call 36; with_reducible exact Calls.cl (HMo.out _)) | (go_at_call 23; with_reducible exact Calls.cl (HIt.out _)))))
    refine wpQuiet_nil ?_
    intro w3 h3
    have HS3:=hid (HSx.out.trans h3)
    clear h3 k0 k1 k2 k3 k4 k5 k6 k7 n0 n1 n2 n3 n4 n5 n6 hne q0 q1 q2 q3 q4 q5 q6 c0 c1 c2 c3 c4 c5 c6 c7 cf d0 d1 d2 d3 d4 d5 d6 df
    go_wp2_with fail
    (first | rw [Exit.noGoto_ret] | skip)
    go_ret
    exact ⟨IsB.no HX.out,HS3.out⟩
   have HMo:=hid (fun u=>(mayorder_any S N HPp.out hN y u).mono fun e w' ⟨h1,h2⟩=>And.intro (h1.is_yes t1) h2)
   have T1:=hid t1
   clear t1
   by_cases hi0:i=0
   ·have b3:decide ((i:Int) > 0)=false:=by simp; omega
    have b3':decide ((0:Int)<(i:Int))=false:=b3
    have b5:decide (0<i)=false:=by simp; omega
    have b6:¬ 0<i:=by omega
    have HX:=hid (HYs.out (HD.out.2 ⟨T1.out,fun h=>absurd h (by omega)⟩))
    clear hi0
    have HIt:=hid (fun u=>inturn_any y y u)
    go_upto_region 4 with fail
    refine region_all (by kernel_rfl) (by kernel_rfl) ?_
    repeat (go_big_quiet_step ((first | (go_at_call 36; with_reducible exact Calls.cl (HMo.out _)) | (go_at_call 23; with_reducible exact Calls.cl (HIt.out _)))))
    refine wpQuiet_nil ?_
    intro w3 h3
    have HSR:=hid (HSy.out.trans h3)
    clear h3 k0 k1 k2 k3 k4 k5 k6 k7 n0 n1 n2 n3 n4 n5 n6 hne q0 q1 q2 q3 q4 q5 q6 c0 c1 c2 c3 c4 c5 c6 c7 cf d0 d1 d2 d3 d4 d5 d6 df
    go_wp2_with fail
    go_roundw
    case rel=>exact ⟨i+1,by omega,by go_num,HX,HSR.out⟩
    case measure=>first | (simp [intOf]; done) | (simp [intOf]; omega)
   ·obtain ⟨m,rfl⟩:∃ m,i=m+1:=⟨i - 1,by omega⟩
    obtain ⟨r0,r1,r2,r3,r4,r5,r6⟩:=rdX (HRx.out) (i:=m) (by omega)
    rw [show m+1 - 1=m by omega] at HD
    have HIt:=hid (fun u=>inturn_any (cm l m) y u)
    obtain ⟨z,ez⟩:∃ z,cm l m=z:=⟨_,rfl⟩
    simp only [ez] at r0 r1 r2 r3 r4 r5 r6
    rw [ez] at HD HIt
    have s0:=Cl.cell r0
    have s1:=Cl.cell r1
    have s2:=Cl.cell r2
    have s3:=Cl.cell r3
    have s4:=Cl.cell r4
    have s5:=Cl.cell r5
    have s6:=Cl.cell r6
    have z1:((m:Int)+1).toNat=m+1:=by omega
    have z3:(m:Int)+1<(n:Int):=by omega
    have z4:(m:Int)<(n:Int):=by omega
    have z5:(0:Int)<=(m:Int)+1:=by omega
    have z6:(0:Int)<(m:Int)+1:=by omega
    obtain ⟨v,ev⟩:∃ v,itn z y=v:=⟨_,rfl⟩
    rw [ev] at HIt HD
    clear ez ev
    by_cases t2:v=0
    ·have HX:=hid (HNo.out (fun h=>(HD.out.1 h).2 (by omega) t2))
     subst t2
     go_upto_region 4 with fail
     refine region_all (by kernel_rfl) (by kernel_rfl) ?_
     repeat (go_big_quiet_step ((first | (go_at_call 36; with_reducible exact Calls.cl (HMo.out _)) | (go_at_call 23; with_reducible exact Calls.cl (HIt.out _)))))
     refine wpQuiet_nil ?_
     intro w3 h3
     have HS3:=hid (HSx.out.trans h3)
     have HSR:=hid (HSy.out.trans h3)
     clear h3 k0 k1 k2 k3 k4 k5 k6 k7 n0 n1 n2 n3 n4 n5 n6 hne q0 q1 q2 q3 q4 q5 q6 c0 c1 c2 c3 c4 c5 c6 c7 cf d0 d1 d2 d3 d4 d5 d6 df s0 s1 s2 s3 s4 s5 s6 r0 r1 r2 r3 r4 r5 r6
     go_wp2_with fail
     (first | rw [Exit.noGoto_ret] | skip)
     go_ret
     exact ⟨IsB.no HX.out,HS3.out⟩
    ·have b2:(v == 0)=false:=by simpa using t2
     have HX:=hid (HYs.out (HD.out.2 ⟨T1.out,fun _=>t2⟩))
     clear t2
     go_upto_region 4 with fail
     refine region_all (by kernel_rfl) (by kernel_rfl) ?_
     repeat (go_big_quiet_step ((first | (go_at_call 36; with_reducible exact Calls.cl (HMo.out _)) | (go_at_call 23; with_reducible exact Calls.cl (HIt.out _)))))
     refine wpQuiet_nil ?_
     intro w3 h3
     have HS3:=hid (HSx.out.trans h3)
     have HSR:=hid (HSy.out.trans h3)
     clear h3 k0 k1 k2 k3 k4 k5 k6 k7 n0 n1 n2 n3 n4 n5 n6 hne q0 q1 q2 q3 q4 q5 q6 c0 c1 c2 c3 c4 c5 c6 c7 cf d0 d1 d2 d3 d4 d5 d6 df s0 s1 s2 s3 s4 s5 s6 r0 r1 r2 r3 r4 r5 r6
     go_wp2_with fail
     go_roundw
     case rel=>exact ⟨m+1+1,by omega,by go_num,HX,HSR.out⟩
     case measure=>first | (simp [intOf]; done) | (simp [intOf]; omega)
  ·have hge:¬ (i:Int)<(n:Int):=by omega
   have HY:=hid (HO.out.2 (fun j hj=>HJ.out j (by have:=HL.out; omega)))
   have HS1:=hid (HS.out.trans hs)
   clear hs HJ
   go_wp2_with fail
   go_ret
   exact ⟨IsB.yes HY.out,HS1.out⟩
end Go.Proofs.YtlibdheihodniaaGreatDoor
