/- Parts of the proof, laid end to end. -/
import Derived.Test.YtlibdheihodniaaGreatDoorYF14
import Derived.Test.YtlibdheihodniaaGreatDoorYF15
import Derived.Test.YtlibdheihodniaaGreatDoorYF20
import Derived.Test.YtlibdheihodniaaGreatDoorYF10
import Derived.Test.YtlibdheihodniaaGreatDoorYF16
import Derived.Test.YtlibdheihodniaaGreatDoorYF18
set_option maxHeartbeats 8000000
namespace Go.Proofs.YtlibdheihodniaaGreatDoor
open Go.RowKit
open Pu Gp Ap Vp Np Za Ka Ja Ea Ha Hg Hi
set_option maxRecDepth 100000
theorem mayplay_any (S:Se) (N:Nat) (hp:S.F.p=(N:Int)) (W:Wd) (v:Value) (w:World) (hv:RdW w v W) :
  Calls Tryz.prog 33 #[.agg (sec S),v] w fun e w'=>IsB e (PlayP (N:Int) W)/\Still w w':=by
 obtain ⟨a,b,c,d,rfl,⟨ao,ac,rfl,l1,ha,hra⟩,⟨bo,bc,rfl,l2,hb,hrb⟩,⟨co,cc,rfl,l3,hc,hrc⟩,⟨so,dc,rfl,l4,hd,hrd⟩⟩:=hv
 have HLd:=hid l4
 obtain ⟨n1,e1⟩:∃ n,W.ms.length=n:=⟨_,rfl⟩
 obtain ⟨n2,e2⟩:∃ n,W.cs.length=n:=⟨_,rfl⟩
 obtain ⟨n3,e3⟩:∃ n,W.hs.length=n:=⟨_,rfl⟩
 obtain ⟨n4,e4⟩:∃ n,W.ks.length=n:=⟨_,rfl⟩
 rw [e1] at hra ⊢
 rw [e2] at hrb ⊢
 rw [e3] at hrc ⊢
 rw [e4] at hrd HLd ⊢
 obtain ⟨fr,efr⟩:∃ n,W.fr=n:=⟨_,rfl⟩
 obtain ⟨nx,enx⟩:∃ n,W.nx=n:=⟨_,rfl⟩
 have EN:=hid (And.intro efr enx)
 have EL:=hid (And.intro e1 (And.intro e2 (And.intro e3 e4)))
 have hs1:n1<=281474976710656:=hra.2.1
 have hs2:n2<=281474976710656:=hrb.2.1
 have hs3:n3<=281474976710656:=hrc.2.1
 have hs4:n4<=281474976710656:=hrd.2.1
 rw [efr,enx]
 have A0:=Still.alloc w (.cells (sec S) 68)
 have A1:=Still.alloc (w.alloc (.cells (sec S) 68)) (.cells (wdcs fr nx (.slice ao n1 ac) (.slice bo n2 bc) (.slice co n3 cc) (.slice so n4 dc)) 35)
 have p0:=(newSe_sb w S).still A1
 have q0:=newWd_wb (w.alloc (.cells (sec S) 68)) fr nx (.slice ao n1 ac) (.slice bo n2 bc) (.slice co n3 cc) (.slice so n4 dc)
 rw [size_alloc] at q0
 have HS0:Hid (Still w ((w.alloc (.cells (sec S) 68)).alloc (.cells (wdcs fr nx (.slice ao n1 ac) (.slice bo n2 bc) (.slice co n3 cc) (.slice so n4 dc)) 35))):=hid (A0.trans A1)
 have HP0:Hid (Seb ((w.alloc (.cells (sec S) 68)).alloc (.cells (wdcs fr nx (.slice ao n1 ac) (.slice bo n2 bc) (.slice co n3 cc) (.slice so n4 dc)) 35)) w.heap.size S):=hid p0
 have HQ0:Hid (Wdb ((w.alloc (.cells (sec S) 68)).alloc (.cells (wdcs fr nx (.slice ao n1 ac) (.slice bo n2 bc) (.slice co n3 cc) (.slice so n4 dc)) 35)) (w.heap.size+1) fr nx (.slice ao n1 ac) (.slice bo n2 bc) (.slice co n3 cc) (.slice so n4 dc)):=hid q0
 obtain ⟨W0,eW0⟩:∃ X,((w.alloc (.cells (sec S) 68)).alloc (.cells (wdcs fr nx (.slice ao n1 ac) (.slice bo n2 bc) (.slice co n3 cc) (.slice so n4 dc)) 35))=X:=⟨_,rfl⟩
 rw [eW0] at HS0 HP0 HQ0
 have HRa:=hid hra
 have HRb:=hid hrb
 have HRc:=hid hrc
 have HRd:=hid hrd
 obtain ⟨c0,c1,c2,c3,c4,c5,c6,c7,cf⟩:=HP0.out.cells
 have HPp:=hid hp
 rw [hp] at c0
 obtain ⟨d0,d1,d2,d3,d4,d5,df⟩:=HQ0.out.cells
 clear A0 A1 p0 q0 hra hrb hrc hrd ha hb hc hd l1 l2 l3 l4 efr enx e1 e2 e3 e4 hp
 have HD:Hid (PlayP (N:Int) W ↔ ((n1:Int)=(N:Int))/\(∀ i,i<W.ms.length->chkM (mm W.ms i)=0)/\((n2:Int)=(N:Int))/\∀ i,i<W.cs.length->chkC (sc W.cs i)=0):=hid (by unfold PlayP; rw [EL.out.1,EL.out.2.1])
 have HAm:=hid (fun u (hu:Still w u)=>allKM_any W.ms ao n1 ac u (HRa.out.still hu))
 have HAc:=hid (fun u (hu:Still w u)=>allKC_any W.cs bo n2 bc u (HRb.out.still hu))
 by_cases t0:(n1:Int)=(N:Int)
 rotate_left
 ·have b0:((n1:Int) == (N:Int))=false:=by simpa using t0
  have HX:=hid (fun h=>t0 (HD.out.1 h).1)
  clear t0
  go_enter Tryz.func33,Tryz.ntmps33
  go_wp2_with fail
  go_ret
  exact ⟨IsB.no HX.out,HS0.out⟩
 have b0:((n1:Int) == (N:Int))=true:=by simpa using t0
 have T0:=hid t0
 clear t0
 go_enter Tryz.func33,Tryz.ntmps33
 go_wp2_with fail
 refine (HAm.out _ HS0.out).mono ?_
 rintro e w1 ⟨⟨b1,rfl,hb1⟩,h1⟩
 have HS1:=hid (HS0.out.trans h1)
 have HP1:=hid (HP0.out.still h1)
 have HQ1:=hid (HQ0.out.still h1)
 have HB1:=hid hb1
 clear c0 c1 c2 c3 c4 c5 c6 c7 cf d0 d1 d2 d3 d4 d5 df h1 hb1 HP0 HQ0 eW0
 cases b1 with
 | false =>
  have HX:Hid (¬ PlayP (N:Int) W):=hid (fun h=>by have:=HB1.out.2 (HD.out.1 h).2.1; cases this)
  go_wp2_with fail
  go_ret
  exact ⟨IsB.no HX.out,HS1.out⟩
 | true =>
  have HB2:=hid (HB1.out.1 rfl)
  clear HB1
  obtain ⟨c0,c1,c2,c3,c4,c5,c6,c7,cf⟩:=HP1.out.cells
  obtain ⟨d0,d1,d2,d3,d4,d5,df⟩:=HQ1.out.cells
  rw [HPp.out] at c0
  by_cases t2:(n2:Int)=(N:Int)
  rotate_left
  ·have b2:((n2:Int) == (N:Int))=false:=by simpa using t2
   have HX:=hid (fun h=>t2 (HD.out.1 h).2.2.1)
   clear t2
   go_wp2_with fail
   go_ret
   exact ⟨IsB.no HX.out,HS1.out⟩
  have b2:((n2:Int) == (N:Int))=true:=by simpa using t2
  have T2:=hid t2
  clear t2
  go_wp2_with fail
  refine (HAc.out _ HS1.out).mono ?_
  rintro e w2 ⟨⟨b3,rfl,hb3⟩,h2⟩
  have HS2:=hid (HS1.out.trans h2)
  have HB3:=hid hb3
  clear c0 c1 c2 c3 c4 c5 c6 c7 cf d0 d1 d2 d3 d4 d5 df h2 hb3 HP1 HQ1
  cases b3 with
  | false =>
   have HX:Hid (¬ PlayP (N:Int) W):=hid (fun h=>by have:=HB3.out.2 (HD.out.1 h).2.2.2; cases this)
   go_wp2_with fail
   go_ret
   exact ⟨IsB.no HX.out,HS2.out⟩
  | true =>
   have HX:=hid (HD.out.2 ⟨T0.out,HB2.out,T2.out,HB3.out.1 rfl⟩)
   go_wp2_with fail
   go_ret
   exact ⟨IsB.yes HX.out,HS2.out⟩
theorem mayfly_any (S:Se) (N:Nat) (hp:S.F.p=(N:Int)) (W:Wd) (v:Value) (w:World) (hv:RdW w v W) :
  Calls Tryz.prog 34 #[.agg (sec S),v] w fun e w'=>IsB e (FlyP (N:Int) W.nx W.hs)/\Still w w':=by
 obtain ⟨a,b,c,d,rfl,⟨ao,ac,rfl,l1,ha,hra⟩,⟨bo,bc,rfl,l2,hb,hrb⟩,⟨co,cc,rfl,l3,hc,hrc⟩,⟨so,dc,rfl,l4,hd,hrd⟩⟩:=hv
 have HLd:=hid l4
 obtain ⟨n1,e1⟩:∃ n,W.ms.length=n:=⟨_,rfl⟩
 obtain ⟨n2,e2⟩:∃ n,W.cs.length=n:=⟨_,rfl⟩
 obtain ⟨n3,e3⟩:∃ n,W.hs.length=n:=⟨_,rfl⟩
 obtain ⟨n4,e4⟩:∃ n,W.ks.length=n:=⟨_,rfl⟩
 rw [e1] at hra ⊢
 rw [e2] at hrb ⊢
 rw [e3] at hrc ⊢
 rw [e4] at hrd HLd ⊢
 obtain ⟨fr,efr⟩:∃ n,W.fr=n:=⟨_,rfl⟩
 obtain ⟨nx,enx⟩:∃ n,W.nx=n:=⟨_,rfl⟩
 have EN:=hid (And.intro efr enx)
 have EL:=hid (And.intro e1 (And.intro e2 (And.intro e3 e4)))
 have hs1:n1<=281474976710656:=hra.2.1
 have hs2:n2<=281474976710656:=hrb.2.1
 have hs3:n3<=281474976710656:=hrc.2.1
 have hs4:n4<=281474976710656:=hrd.2.1
 rw [efr,enx]
 have A0:=Still.alloc w (.cells (sec S) 68)
 have A1:=Still.alloc (w.alloc (.cells (sec S) 68)) (.cells (wdcs fr nx (.slice ao n1 ac) (.slice bo n2 bc) (.slice co n3 cc) (.slice so n4 dc)) 35)
 have p0:=(newSe_sb w S).still A1
 have q0:=newWd_wb (w.alloc (.cells (sec S) 68)) fr nx (.slice ao n1 ac) (.slice bo n2 bc) (.slice co n3 cc) (.slice so n4 dc)
 rw [size_alloc] at q0
 have HS0:Hid (Still w ((w.alloc (.cells (sec S) 68)).alloc (.cells (wdcs fr nx (.slice ao n1 ac) (.slice bo n2 bc) (.slice co n3 cc) (.slice so n4 dc)) 35))):=hid (A0.trans A1)
 have HP0:Hid (Seb ((w.alloc (.cells (sec S) 68)).alloc (.cells (wdcs fr nx (.slice ao n1 ac) (.slice bo n2 bc) (.slice co n3 cc) (.slice so n4 dc)) 35)) w.heap.size S):=hid p0
 have HQ0:Hid (Wdb ((w.alloc (.cells (sec S) 68)).alloc (.cells (wdcs fr nx (.slice ao n1 ac) (.slice bo n2 bc) (.slice co n3 cc) (.slice so n4 dc)) 35)) (w.heap.size+1) fr nx (.slice ao n1 ac) (.slice bo n2 bc) (.slice co n3 cc) (.slice so n4 dc)):=hid q0
 obtain ⟨W0,eW0⟩:∃ X,((w.alloc (.cells (sec S) 68)).alloc (.cells (wdcs fr nx (.slice ao n1 ac) (.slice bo n2 bc) (.slice co n3 cc) (.slice so n4 dc)) 35))=X:=⟨_,rfl⟩
 rw [eW0] at HS0 HP0 HQ0
 have HRa:=hid hra
 have HRb:=hid hrb
 have HRc:=hid hrc
 have HRd:=hid hrd
 obtain ⟨c0,c1,c2,c3,c4,c5,c6,c7,cf⟩:=HP0.out.cells
 have HPp:=hid hp
 rw [hp] at c0
 obtain ⟨d0,d1,d2,d3,d4,d5,df⟩:=HQ0.out.cells
 clear A0 A1 p0 q0 hra hrb hrc hrd ha hb hc hd l1 l2 l3 l4 efr enx e1 e2 e3 e4 hp
 have HD:Hid (FlyP (N:Int) nx W.hs ↔ n3<=48/\(∀ i,i<W.hs.length->chkS (ss W.hs i)=0)/\∀ i,i<W.hs.length->FlyA (N:Int) nx W.hs i):=hid (by unfold FlyP; rw [EL.out.2.2.1])
 have HAs:=hid (fun u (hu:Still w u)=>allKS_any W.hs co n3 cc u (HRc.out.still hu))
 by_cases t0:(n3:Int) > 48
 ·have b0:decide ((n3:Int) > 48)=true:=decide_eq_true t0
  have b0':decide ((48:Int)<(n3:Int))=true:=decide_eq_true t0
  have HX:Hid (¬ FlyP (N:Int) nx W.hs):=hid (fun h=>by have:=(HD.out.1 h).1; omega)
  clear t0
  go_enter Tryz.func34,Tryz.ntmps34
  go_wp2_with fail
  go_ret
  exact ⟨IsB.no HX.out,HS0.out⟩
 have b0:decide ((n3:Int) > 48)=false:=decide_eq_false t0
 have b0':decide ((48:Int)<(n3:Int))=false:=decide_eq_false t0
 have T0:=hid t0
 clear t0
 go_enter Tryz.func34,Tryz.ntmps34
 go_wp2_with fail
 refine (HAs.out _ HS0.out).mono ?_
 rintro e w1 ⟨⟨b1,rfl,hb1⟩,h1⟩
 have HS1:=hid (HS0.out.trans h1)
 have HP1:=hid (HP0.out.still h1)
 have HQ1:=hid (HQ0.out.still h1)
 have HB1:=hid hb1
 clear c0 c1 c2 c3 c4 c5 c6 c7 cf d0 d1 d2 d3 d4 d5 df h1 hb1 HP0 HQ0 eW0
 cases b1 with
 | false =>
  have HX:Hid (¬ FlyP (N:Int) nx W.hs):=hid (fun h=>by have:=HB1.out.2 (HD.out.1 h).2.1; cases this)
  go_wp2_with fail
  go_ret
  exact ⟨IsB.no HX.out,HS1.out⟩
 | true =>
  have HB2:=hid (HB1.out.1 rfl)
  clear HB1
  obtain ⟨c0,c1,c2,c3,c4,c5,c6,c7,cf⟩:=HP1.out.cells
  obtain ⟨d0,d1,d2,d3,d4,d5,df⟩:=HQ1.out.cells
  rw [HPp.out] at c0
  go_wp2_with fail
  clear c0 c1 c2 c3 c4 c5 c6 c7 cf d0 d1 d2 d3 d4 d5 df
  have hn48:n3<=48:=by have:=T0.out; omega
  have HL3:Hid (W.hs.length=n3):=hid EL.out.2.2.1
  go_loopw [5,21] (fun a u wr=>∃ k:Nat,k<=n3/\u=.int .i64 (k:Int)/\a=.int .i64 (if k=0 then 0 else (ss W.hs (k - 1)).no)/\Hid (∀ j,j<k->FlyA (N:Int) nx W.hs j)/\Still w1 wr) (fun _ u _=>n3 - (intOf u).toNat)
  case atStart=>exact ⟨0,by omega,rfl,rfl,hid (fun j h=>by omega),Fr.refl _ _⟩
  case round =>
   obtain ⟨k,hk,rfl,rfl,HJ,hs⟩:=hrel
   by_cases hkn:k<n3
   ·have hlt:(k:Int)<(n3:Int):=by omega
    have hr1:=(HRc.out.still HS1.out).still hs
    obtain ⟨C,o,rfl⟩:=hr1.at (by omega)
    obtain ⟨q0,q1,q2,q3,q4,q5,q6,q7⟩:=rdS hr1 hkn
    have HA:Hid (FlyA (N:Int) nx W.hs k ↔ (ss W.hs k).ow<(N:Int)/\(if k=0 then 0 else (ss W.hs (k - 1)).no)<(ss W.hs k).no/\(ss W.hs k).no<nx):=hid Iff.rfl
    have HNo:Hid (¬ FlyA (N:Int) nx W.hs k->¬ FlyP (N:Int) nx W.hs):=hid (fun h h2=>h ((HD.out.1 h2).2.2 k (by have:=HL3.out; omega)))
    have HYs:Hid (FlyA (N:Int) nx W.hs k->∀ j,j<k+1->FlyA (N:Int) nx W.hs j):=hid (fun h j hj=>by
     by_cases e:j=k
     ·subst e; exact h
     ·exact HJ.out j (by omega))
    have HNx:Hid ((if k+1=0 then 0 else (ss W.hs (k+1 - 1)).no)=(ss W.hs k).no):=hid (by rw [if_neg (by omega),show k+1 - 1=k by omega])
    obtain ⟨x,ex⟩:∃ x,ss W.hs k=x:=⟨_,rfl⟩
    simp only [ex] at q0 q1 q2 q3 q4 q5 q6 q7
    rw [ex] at HA HNx
    obtain ⟨ab,eab⟩:∃ a,(if k=0 then 0 else (ss W.hs (k - 1)).no)=a:=⟨_,rfl⟩
    rw [eab] at HA ⊢
    have A1:=Still.alloc wr (.cells (scs x) 52)
    have HS2:Hid (Still w1 (newS wr x)):=hid (hs.trans A1)
    obtain ⟨c0,c1,c2,c3,c4,c5,c6,c7,cf⟩:=((HP1.out.still hs).still A1).cells
    rw [HPp.out] at c0
    obtain ⟨d0,d1,d2,d3,d4,d5,df⟩:=((HQ1.out.still hs).still A1).cells
    obtain ⟨e0,e1,e2,e3,e4,e5,e6,e7,ef⟩:=(newS_sb wr x).cells
    clear ex eab hs hr1 HJ A1
    by_cases g1:x.ow ≥ (N:Int)
    ·have f1:decide (x.ow ≥ (N:Int))=true:=decide_eq_true g1
     have f1':decide ((N:Int)<=x.ow)=true:=decide_eq_true g1
     have HX:=hid (HNo.out (fun h=>by have:=(HA.out.1 h).1; omega))
     clear g1
     go_wp2_with fail
     (first | rw [Exit.noGoto_ret] | skip)
     go_ret
     exact ⟨IsB.no HX.out,HS1.out.trans HS2.out⟩
    have f1:decide (x.ow ≥ (N:Int))=false:=decide_eq_false g1
    have f1':decide ((N:Int)<=x.ow)=false:=decide_eq_false g1
    by_cases g2:x.no<=ab
    ·have f2:decide (x.no<=ab)=true:=decide_eq_true g2
     have HX:=hid (HNo.out (fun h=>by have:=(HA.out.1 h).2.1; omega))
     clear g1 g2
     go_wp2_with fail
     (first | rw [Exit.noGoto_ret] | skip)
     go_ret
     exact ⟨IsB.no HX.out,HS1.out.trans HS2.out⟩
    have f2:decide (x.no<=ab)=false:=decide_eq_false g2
    by_cases g3:x.no ≥ nx
    ·have f3:decide (x.no ≥ nx)=true:=decide_eq_true g3
     have f3':decide (nx<=x.no)=true:=decide_eq_true g3
     have HX:=hid (HNo.out (fun h=>by have:=(HA.out.1 h).2.2; omega))
     clear g1 g2 g3
     go_wp2_with fail
     (first | rw [Exit.noGoto_ret] | skip)
     go_ret
     exact ⟨IsB.no HX.out,HS1.out.trans HS2.out⟩
    have f3:decide (x.no ≥ nx)=false:=decide_eq_false g3
    have f3':decide (nx<=x.no)=false:=decide_eq_false g3
    have HX:=hid (HYs.out (HA.out.2 ⟨by omega,by omega,by omega⟩))
    clear g1 g2 g3
    go_wp2_with fail
    go_roundw
    case rel=>exact ⟨k+1,by omega,by go_num,by rw [HNx.out],HX,HS2.out⟩
    case measure=>first | (simp [intOf]; done) | (simp [intOf]; omega)
   ·have hge:¬ (k:Int)<(n3:Int):=by omega
    have HX:=hid (HD.out.2 ⟨by omega,HB2.out,fun j hj=>HJ.out j (by have:=HL3.out; omega)⟩)
    have HS3:=hid (HS1.out.trans hs)
    obtain ⟨ab,eab⟩:∃ a,(if k=0 then 0 else (ss W.hs (k - 1)).no)=a:=⟨_,rfl⟩
    rw [eab]
    clear hs HJ eab
    go_wp2_with fail
    go_ret
    exact ⟨IsB.yes HX.out,HS3.out⟩
theorem maylie_any (S:Se) (N:Nat) (hp:S.F.p=(N:Int)) (K:Nat) (po:Option Addr) (pcp:Nat) (hsp:S.sp=.slice po K pcp) (W:Wd) (v:Value) (w:World) (hv:RdW w v W) :
  Calls Tryz.prog 35 #[.agg (sec S),v] w fun e w'=>IsB e (LieP K W.nx W.ks)/\Still w w':=by
 obtain ⟨a,b,c,d,rfl,⟨ao,ac,rfl,l1,ha,hra⟩,⟨bo,bc,rfl,l2,hb,hrb⟩,⟨co,cc,rfl,l3,hc,hrc⟩,⟨so,dc,rfl,l4,hd,hrd⟩⟩:=hv
 have HLd:=hid l4
 obtain ⟨n1,e1⟩:∃ n,W.ms.length=n:=⟨_,rfl⟩
 obtain ⟨n2,e2⟩:∃ n,W.cs.length=n:=⟨_,rfl⟩
 obtain ⟨n3,e3⟩:∃ n,W.hs.length=n:=⟨_,rfl⟩
 obtain ⟨n4,e4⟩:∃ n,W.ks.length=n:=⟨_,rfl⟩
 rw [e1] at hra ⊢
 rw [e2] at hrb ⊢
 rw [e3] at hrc ⊢
 rw [e4] at hrd HLd ⊢
 obtain ⟨fr,efr⟩:∃ n,W.fr=n:=⟨_,rfl⟩
 obtain ⟨nx,enx⟩:∃ n,W.nx=n:=⟨_,rfl⟩
 have EN:=hid (And.intro efr enx)
 have EL:=hid (And.intro e1 (And.intro e2 (And.intro e3 e4)))
 have hs1:n1<=281474976710656:=hra.2.1
 have hs2:n2<=281474976710656:=hrb.2.1
 have hs3:n3<=281474976710656:=hrc.2.1
 have hs4:n4<=281474976710656:=hrd.2.1
 rw [efr,enx]
 have A0:=Still.alloc w (.cells (sec S) 68)
 have A1:=Still.alloc (w.alloc (.cells (sec S) 68)) (.cells (wdcs fr nx (.slice ao n1 ac) (.slice bo n2 bc) (.slice co n3 cc) (.slice so n4 dc)) 35)
 have p0:=(newSe_sb w S).still A1
 have q0:=newWd_wb (w.alloc (.cells (sec S) 68)) fr nx (.slice ao n1 ac) (.slice bo n2 bc) (.slice co n3 cc) (.slice so n4 dc)
 rw [size_alloc] at q0
 have HS0:Hid (Still w ((w.alloc (.cells (sec S) 68)).alloc (.cells (wdcs fr nx (.slice ao n1 ac) (.slice bo n2 bc) (.slice co n3 cc) (.slice so n4 dc)) 35))):=hid (A0.trans A1)
 have HP0:Hid (Seb ((w.alloc (.cells (sec S) 68)).alloc (.cells (wdcs fr nx (.slice ao n1 ac) (.slice bo n2 bc) (.slice co n3 cc) (.slice so n4 dc)) 35)) w.heap.size S):=hid p0
 have HQ0:Hid (Wdb ((w.alloc (.cells (sec S) 68)).alloc (.cells (wdcs fr nx (.slice ao n1 ac) (.slice bo n2 bc) (.slice co n3 cc) (.slice so n4 dc)) 35)) (w.heap.size+1) fr nx (.slice ao n1 ac) (.slice bo n2 bc) (.slice co n3 cc) (.slice so n4 dc)):=hid q0
 obtain ⟨W0,eW0⟩:∃ X,((w.alloc (.cells (sec S) 68)).alloc (.cells (wdcs fr nx (.slice ao n1 ac) (.slice bo n2 bc) (.slice co n3 cc) (.slice so n4 dc)) 35))=X:=⟨_,rfl⟩
 rw [eW0] at HS0 HP0 HQ0
 have HRa:=hid hra
 have HRb:=hid hrb
 have HRc:=hid hrc
 have HRd:=hid hrd
 obtain ⟨c0,c1,c2,c3,c4,c5,c6,c7,cf⟩:=HP0.out.cells
 have HPp:=hid hp
 rw [hp] at c0
 obtain ⟨d0,d1,d2,d3,d4,d5,df⟩:=HQ0.out.cells
 clear A0 A1 p0 q0 hra hrb hrc hrd ha hb hc hd l1 l2 l3 l4 efr enx e1 e2 e3 e4 hp
 rw [hsp] at c7
 have HSp:=hid hsp
 have HD:Hid (LieP K nx W.ks ↔ (∀ i,i<W.ks.length->(pk W.ks i).no<nx)/\chkK W.ks (K:Int)=0):=hid Iff.rfl
 have HCk:=hid (fun u (hu:Still w u)=>pchk_any W.ks (K:Int) so n4 dc u (rdK_ofQ (HRd.out.still hu)) HLd.out)
 have HL4:Hid (W.ks.length=n4):=hid EL.out.2.2.2
 clear hsp
 go_enter Tryz.func35,Tryz.ntmps35
 go_wp2_with fail
 clear c0 c1 c2 c3 c4 c5 c6 c7 cf d0 d1 d2 d3 d4 d5 df eW0
 go_loopw [10] (fun u wr=>∃ k:Nat,k<=n4/\u=.int .i64 (k:Int)/\Hid (∀ j,j<k->(pk W.ks j).no<nx)/\Still W0 wr) (fun u _=>n4 - (intOf u).toNat)
 case atStart=>exact ⟨0,by omega,rfl,hid (fun j h=>by omega),Fr.refl _ _⟩
 case round =>
  obtain ⟨k,hk,rfl,HJ,hs⟩:=hrel
  by_cases hkn:k<n4
  ·have hlt:(k:Int)<(n4:Int):=by omega
   have hr1:=(HRd.out.still HS0.out).still hs
   obtain ⟨C,o,rfl⟩:=hr1.at (by omega)
   obtain ⟨q0,q1,q2⟩:=rdQ hr1 hkn
   have HNo:Hid (¬ (pk W.ks k).no<nx->¬ LieP K nx W.ks):=hid (fun h h2=>h ((HD.out.1 h2).1 k (by have:=HL4.out; omega)))
   have HYs:Hid ((pk W.ks k).no<nx->∀ j,j<k+1->(pk W.ks j).no<nx):=hid (fun h j hj=>by
    by_cases e:j=k
    ·subst e; exact h
    ·exact HJ.out j (by omega))
   obtain ⟨x,ex⟩:∃ x,pk W.ks k=x:=⟨_,rfl⟩
   simp only [ex] at q0 q1 q2
   rw [ex] at HNo HYs
   have A1:=Still.alloc wr (.cells (kcs x) 54)
   have HS2:Hid (Still W0 (newK wr x)):=hid (hs.trans A1)
   obtain ⟨d0,d1,d2,d3,d4,d5,df⟩:=((HQ0.out.still hs).still A1).cells
   obtain ⟨e0,e1,e2,ef⟩:=(newK_kb wr x).cells
   clear ex hs hr1 HJ A1
   by_cases g1:x.no ≥ nx
   ·have f1:decide (x.no ≥ nx)=true:=decide_eq_true g1
    have f1':decide (nx<=x.no)=true:=decide_eq_true g1
    have HX:=hid (HNo.out (by omega))
    clear g1
    go_wp2_with fail
    (first | rw [Exit.noGoto_ret] | skip)
    go_ret
    exact ⟨IsB.no HX.out,HS0.out.trans HS2.out⟩
   ·have f1:decide (x.no ≥ nx)=false:=decide_eq_false g1
    have f1':decide (nx<=x.no)=false:=decide_eq_false g1
    have HX:=hid (HYs.out (by omega))
    clear g1
    go_wp2_with fail
    go_roundw
    case rel=>exact ⟨k+1,by omega,by go_num,HX,HS2.out⟩
    case measure=>first | (simp [intOf]; done) | (simp [intOf]; omega)
  ·have hge:¬ (k:Int)<(n4:Int):=by omega
   have HB:=hid (show ∀ j,j<W.ks.length->(pk W.ks j).no<nx from fun j hj=>HJ.out j (by have:=HL4.out; omega))
   have HS3:=hid (HS0.out.trans hs)
   obtain ⟨r,er⟩:∃ r,chkK W.ks (K:Int)=r:=⟨_,rfl⟩
   rw [er] at HCk HD
   obtain ⟨c0,c1,c2,c3,c4,c5,c6,c7,cf⟩:=(HP0.out.still hs).cells
   rw [HSp.out] at c7
   obtain ⟨d0,d1,d2,d3,d4,d5,df⟩:=(HQ0.out.still hs).cells
   clear hs HJ er
   go_wp2_with fail
   refine (HCk.out _ HS3.out).mono ?_
   rintro e w4 ⟨rfl,h4⟩
   have HS4:=hid (HS3.out.trans h4)
   clear h4 c0 c1 c2 c3 c4 c5 c6 c7 cf d0 d1 d2 d3 d4 d5 df
   by_cases g1:r=0
   ·have f1:(r == 0)=true:=by simpa using g1
    have HX:=hid (HD.out.2 ⟨HB.out,g1⟩)
    clear g1
    go_wp2_with fail
    go_ret
    exact ⟨IsB.yes HX.out,HS4.out⟩
   ·have f1:(r == 0)=false:=by simpa using g1
    have HX:=hid (fun h=>g1 (HD.out.1 h).2)
    clear g1
    go_wp2_with fail
    go_ret
    exact ⟨IsB.no HX.out,HS4.out⟩
theorem check13_any (S:Se) (E:Env) (N:Nat) (hp:S.F.p=(N:Int)) (po:Option Addr) (pcp:Nat) (hsp:S.sp=.slice po E.sp.length pcp) (W:Wd) (v:Value) (w:World) (hv:RdW w v W) :
  Calls Tryz.prog 16 #[.agg (sec S),v] w fun e w'=>(e=.returned (.int .i64 (chkW (N:Int) E W)))/\Still w w':=by
 have HV:=hid hv
 have HPq:=hid hp
 have HSq:=hid hsp
 obtain ⟨a,b,c,d,rfl,⟨ao,ac,rfl,l1,ha,hra⟩,⟨bo,bc,rfl,l2,hb,hrb⟩,⟨co,cc,rfl,l3,hc,hrc⟩,⟨so,dc,rfl,l4,hd,hrd⟩⟩:=hv
 have HLd:=hid l4
 obtain ⟨n1,e1⟩:∃ n,W.ms.length=n:=⟨_,rfl⟩
 obtain ⟨n2,e2⟩:∃ n,W.cs.length=n:=⟨_,rfl⟩
 obtain ⟨n3,e3⟩:∃ n,W.hs.length=n:=⟨_,rfl⟩
 obtain ⟨n4,e4⟩:∃ n,W.ks.length=n:=⟨_,rfl⟩
 rw [e1] at hra ⊢
 rw [e2] at hrb ⊢
 rw [e3] at hrc ⊢
 rw [e4] at hrd HLd ⊢
 obtain ⟨fr,efr⟩:∃ n,W.fr=n:=⟨_,rfl⟩
 obtain ⟨nx,enx⟩:∃ n,W.nx=n:=⟨_,rfl⟩
 have EN:=hid (And.intro efr enx)
 have EL:=hid (And.intro e1 (And.intro e2 (And.intro e3 e4)))
 have hs1:n1<=281474976710656:=hra.2.1
 have hs2:n2<=281474976710656:=hrb.2.1
 have hs3:n3<=281474976710656:=hrc.2.1
 have hs4:n4<=281474976710656:=hrd.2.1
 rw [efr,enx]
 have A0:=Still.alloc w (.cells (sec S) 68)
 have A1:=Still.alloc (w.alloc (.cells (sec S) 68)) (.cells (wdcs fr nx (.slice ao n1 ac) (.slice bo n2 bc) (.slice co n3 cc) (.slice so n4 dc)) 35)
 have p0:=(newSe_sb w S).still A1
 have q0:=newWd_wb (w.alloc (.cells (sec S) 68)) fr nx (.slice ao n1 ac) (.slice bo n2 bc) (.slice co n3 cc) (.slice so n4 dc)
 rw [size_alloc] at q0
 have HS0:Hid (Still w ((w.alloc (.cells (sec S) 68)).alloc (.cells (wdcs fr nx (.slice ao n1 ac) (.slice bo n2 bc) (.slice co n3 cc) (.slice so n4 dc)) 35))):=hid (A0.trans A1)
 have HP0:Hid (Seb ((w.alloc (.cells (sec S) 68)).alloc (.cells (wdcs fr nx (.slice ao n1 ac) (.slice bo n2 bc) (.slice co n3 cc) (.slice so n4 dc)) 35)) w.heap.size S):=hid p0
 have HQ0:Hid (Wdb ((w.alloc (.cells (sec S) 68)).alloc (.cells (wdcs fr nx (.slice ao n1 ac) (.slice bo n2 bc) (.slice co n3 cc) (.slice so n4 dc)) 35)) (w.heap.size+1) fr nx (.slice ao n1 ac) (.slice bo n2 bc) (.slice co n3 cc) (.slice so n4 dc)):=hid q0
 obtain ⟨W0,eW0⟩:∃ X,((w.alloc (.cells (sec S) 68)).alloc (.cells (wdcs fr nx (.slice ao n1 ac) (.slice bo n2 bc) (.slice co n3 cc) (.slice so n4 dc)) 35))=X:=⟨_,rfl⟩
 rw [eW0] at HS0 HP0 HQ0
 have HRa:=hid hra
 have HRb:=hid hrb
 have HRc:=hid hrc
 have HRd:=hid hrd
 obtain ⟨c0,c1,c2,c3,c4,c5,c6,c7,cf⟩:=HP0.out.cells
 have HPp:=hid hp
 obtain ⟨d0,d1,d2,d3,d4,d5,df⟩:=HQ0.out.cells
 clear A0 A1 p0 q0 hra hrb hrc hrd ha hb hc hd l1 l2 l3 l4 efr enx e1 e2 e3 e4 hp
 have HD:Hid (Fits (N:Int) E W ↔ (0<=fr/\fr<=1099511627776)/\(1<=nx/\nx<=1099511627777)/\PlayP (N:Int) W/\FlyP (N:Int) nx W.hs/\LieP E.sp.length nx W.ks):=hid (by rw [fits_iff (by omega),EN.out.1,EN.out.2])
 have HW1:=hid (fun u=>wwithin64_any fr 0 1099511627776 u)
 have HW2:=hid (fun u=>wwithin_any nx 1 1099511627777 u)
 have HPl:=hid (fun u (hu:Still w u)=>mayplay_any S N HPq.out W _ u (HV.out.still hu))
 have HFl:=hid (fun u (hu:Still w u)=>mayfly_any S N HPq.out W _ u (HV.out.still hu))
 have HLi:=hid (fun u (hu:Still w u)=>maylie_any S N HPq.out E.sp.length po pcp HSq.out W _ u (HV.out.still hu))
 rw [EL.out.1,EL.out.2.1,EL.out.2.2.1,EL.out.2.2.2,EN.out.1,EN.out.2] at HPl HFl HLi
 obtain ⟨r,er⟩:∃ r,chkW (N:Int) E W=r:=⟨_,rfl⟩
 rw [er]
 have HYes:Hid (Fits (N:Int) E W->r=0):=hid (fun h=>by rw [<- er]; exact chkW_yes h)
 have HNo:Hid (¬ Fits (N:Int) E W->r=131):=hid (fun h=>by rw [<- er]; exact chkW_no h)
 clear er HV hsp
 by_cases t0:0<=fr/\fr<=1099511627776
 rotate_left
 ·rw [decide_eq_false t0] at HW1
  have HX:=hid (HNo.out (fun h=>t0 (HD.out.1 h).1))
  clear t0
  go_enter Tryz.func16,Tryz.ntmps16
  go_wp2_with fail
  refine (HW1.out _).mono ?_
  rintro e w1 ⟨he,hw⟩
  rw [he,hw]
  clear he hw w1
  go_wp2_with fail
  go_ret
  exact ⟨by rw [HX.out]; rfl,HS0.out⟩
 rw [decide_eq_true t0] at HW1
 have T0:=hid t0
 clear t0
 by_cases t1:1<=nx/\nx<=1099511627777
 rotate_left
 ·rw [decide_eq_false t1] at HW2
  have HX:=hid (HNo.out (fun h=>t1 (HD.out.1 h).2.1))
  clear t1
  go_enter Tryz.func16,Tryz.ntmps16
  go_wp2_with fail
  refine (HW1.out _).mono ?_
  rintro e w1 ⟨he,hw⟩
  rw [he,hw]
  clear he hw w1
  go_wp2_with fail
  refine (HW2.out _).mono ?_
  rintro e w1 ⟨he,hw⟩
  rw [he,hw]
  clear he hw w1
  go_wp2_with fail
  go_ret
  exact ⟨by rw [HX.out]; rfl,HS0.out⟩
 rw [decide_eq_true t1] at HW2
 have T1:=hid t1
 clear t1
 go_enter Tryz.func16,Tryz.ntmps16
 go_wp2_with fail
 refine (HW1.out _).mono ?_
 rintro e w1 ⟨he,hw⟩
 rw [he,hw]
 clear he hw w1
 go_wp2_with fail
 refine (HW2.out _).mono ?_
 rintro e w1 ⟨he,hw⟩
 rw [he,hw]
 clear he hw w1
 go_wp2_with fail
 refine (HPl.out _ HS0.out).mono ?_
 rintro e w1 ⟨⟨b1,rfl,hb1⟩,h1⟩
 have HS1:=hid (HS0.out.trans h1)
 have HP1:=hid (HP0.out.still h1)
 have HQ1:=hid (HQ0.out.still h1)
 have HB1:=hid hb1
 clear c0 c1 c2 c3 c4 c5 c6 c7 cf d0 d1 d2 d3 d4 d5 df h1 hb1 HP0 HQ0 eW0
 cases b1 with
 | false =>
  have HX:=hid (HNo.out (fun h=>by have:=HB1.out.2 (HD.out.1 h).2.2.1; cases this))
  go_wp2_with fail
  go_ret
  exact ⟨by rw [HX.out]; rfl,HS1.out⟩
 | true =>
  obtain ⟨c0,c1,c2,c3,c4,c5,c6,c7,cf⟩:=HP1.out.cells
  obtain ⟨d0,d1,d2,d3,d4,d5,df⟩:=HQ1.out.cells
  go_wp2_with fail
  refine (HFl.out _ HS1.out).mono ?_
  rintro e w2 ⟨⟨b2,rfl,hb2⟩,h2⟩
  have HS2:=hid (HS1.out.trans h2)
  have HP2:=hid (HP1.out.still h2)
  have HQ2:=hid (HQ1.out.still h2)
  have HB2:=hid hb2
  clear c0 c1 c2 c3 c4 c5 c6 c7 cf d0 d1 d2 d3 d4 d5 df h2 hb2 HP1 HQ1
  cases b2 with
  | false =>
   have HX:=hid (HNo.out (fun h=>by have:=HB2.out.2 (HD.out.1 h).2.2.2.1; cases this))
   go_wp2_with fail
   go_ret
   exact ⟨by rw [HX.out]; rfl,HS2.out⟩
  | true =>
   obtain ⟨c0,c1,c2,c3,c4,c5,c6,c7,cf⟩:=HP2.out.cells
   obtain ⟨d0,d1,d2,d3,d4,d5,df⟩:=HQ2.out.cells
   go_wp2_with fail
   refine (HLi.out _ HS2.out).mono ?_
   rintro e w3 ⟨⟨b3,rfl,hb3⟩,h3⟩
   have HS3:=hid (HS2.out.trans h3)
   have HP3:=hid (HP2.out.still h3)
   have HQ3:=hid (HQ2.out.still h3)
   have HB3:=hid hb3
   clear c0 c1 c2 c3 c4 c5 c6 c7 cf d0 d1 d2 d3 d4 d5 df h3 hb3 HP2 HQ2
   cases b3 with
   | false =>
    have HX:=hid (HNo.out (fun h=>by have:=HB3.out.2 (HD.out.1 h).2.2.2.2; cases this))
    go_wp2_with fail
    go_ret
    exact ⟨by rw [HX.out]; rfl,HS3.out⟩
   | true =>
    have HX:=hid (HYes.out (HD.out.2 ⟨T0.out,T1.out,HB1.out.1 (by first | rfl | trivial),HB2.out.1 (by first | rfl | trivial),HB3.out.1 (by first | rfl | trivial)⟩))
    go_wp2_with fail
    go_ret
    exact ⟨by rw [HX.out]; rfl,HS3.out⟩
theorem Q13.still {x y:World} {F:Cf} {v:Int} {st sp:List (Int × Int)} (h:Q13 x F v st sp) (hs:Still x y):Q13 y F v st sp:=⟨fun u hu=>h.chk u (hs.trans hu),fun u hu=>h.sts u (hs.trans hu),fun u hu=>h.sps u (hs.trans hu)⟩
theorem P13.still {x y:World} {F:Cf} {E:Env} (h:P13 x F E) (hs:Still x y):P13 y F E:={ h with act:=fun m v a b c u hu=>h.act m v a b c u (hs.trans hu),fire:=fun m ow pw no u hu=>h.fire m ow pw no u (hs.trans hu),spw:=fun f s no L ao n cap u hu=>h.spw f s no L ao n cap u (hs.trans hu) }
theorem open_yes (N:Nat) (q C R:Int) (s:ByteArray) (lo:Option Addr) (ln lc:Nat) (E:Env) (l:List Int) (w:World) (v:Int) (Q:Q13 w ⟨(N:Int),q,C,R,s,.slice lo ln lc⟩ v E.st E.sp) (hr:RdI w lo ln lc l) (hc:CfgP (N:Int) v E.st.length l) (n1 n2:Nat) (e1:E.st.length=n1) (e2:E.sp.length=n2) :
  Calls Tryz.prog 14 #[.agg #[.int .i64 (N:Int),.int .u64 q,.int .i64 C,.int .i64 R,.string s,.slice lo ln lc]] w fun e w'=>∃ ao ac bo bc,e=.returned (.tuple #[.agg #[.int .i64 (N:Int),.int .u64 q,.int .i64 C,.int .i64 R,.string s,.slice lo ln lc,.slice ao n1 ac,.slice bo n2 bc],.int .i64 0])/\OwG KT 46 w' w.heap.size (.slice ao n1 ac) E.st/\OwG KT 46 w' w.heap.size (.slice bo n2 bc) E.sp/\Still w w':=by
 obtain ⟨h1,h2,rfl,h4,h5⟩:=hc
 refine (open_in _ q C R s E.st E.sp l lo ln lc w Q hr ⟨h1,h2⟩ h5).mono ?_
 rintro e w' ⟨hs,hy,_⟩
 obtain ⟨ao,ac,bo,bc,o1,o2,rfl⟩:=hy h4
 subst e1 e2
 exact ⟨ao,ac,bo,bc,rfl,o1,o2,hs⟩
theorem open_no (p q C R:Int) (s:ByteArray) (lo:Option Addr) (ln lc:Nat) (E:Env) (l:List Int) (w:World) (v:Int) (Q:Q13 w ⟨p,q,C,R,s,.slice lo ln lc⟩ v E.st E.sp) (hr:RdI w lo ln lc l) (hc:¬ CfgP p v E.st.length l) :
  Calls Tryz.prog 14 #[.agg #[.int .i64 p,.int .u64 q,.int .i64 C,.int .i64 R,.string s,.slice lo ln lc]] w fun e w'=>e=.returned (.tuple #[.agg #[.int .i64 0,.int .u64 0,.int .i64 0,.int .i64 0,.string ByteArray.empty,.slice none 0 0,.slice none 0 0,.slice none 0 0],.int .i64 130])/\Still w w':=by
 by_cases h:(2<=p/\p<=6)/\Lags l/\v=0
 ·obtain ⟨⟨h1,h2⟩,h5,rfl⟩:=h
  refine (open_in _ q C R s E.st E.sp l lo ln lc w Q hr ⟨h1,h2⟩ h5).mono ?_
  rintro e w' ⟨hs,_,hn⟩
  exact ⟨hn (fun h4=>hc ⟨h1,h2,rfl,h4,h5⟩),hs⟩
 ·exact open_no1 ⟨p,q,C,R,s,.slice lo ln lc⟩ v E.st E.sp l lo ln lc rfl w Q hr h
theorem Wdb.res3 {fn:Func} {p r z:Tmp} {w:World} {g:Nat} {fr nx:Int} {ao bo co so:Option Addr} {n1 n2 n3 n4 c1 c2 c3 c4:Nat} (hb:Wdb w g fr nx (.slice ao n1 c1) (.slice bo n2 c2) (.slice co n3 c3) (.slice so n4 c4)) (h:fn.results=#[.cell p 35,.tmp r,.tmp z]) (tmps:Array Value) (t y:Value) (hp:tmps.getD p undef=.pointer (some ⟨g,0,none⟩)) (ht:tmps.getD r undef=t) (hy:tmps.getD z undef=y) :
  (results fn tmps).run Tryz.prog w=.ok (.tuple #[.agg (wdcs fr nx (.slice ao n1 c1) (.slice bo n2 c2) (.slice co n3 c3) (.slice so n4 c4)),t,y]) w:=by
 have hp':tmps[p]?.getD undef=.pointer (some ⟨g,0,none⟩):=by simpa using hp
 have ht':tmps[r]?.getD undef=t:=by simpa using ht
 have hy':tmps[z]?.getD undef=y:=by simpa using hy
 simp [results,h,hp',ht',hy',asAddr,hb.load]
theorem wcfg_yes (N:Nat) (q C R:Int) (s:ByteArray) (lo:Option Addr) (ln lc:Nat) (E:Env) (l:List Int) (w:World) (v:Int) (Q:Q13 w ⟨(N:Int),q,C,R,s,.slice lo ln lc⟩ v E.st E.sp) (hr:RdI w lo ln lc l) (hc:CfgP (N:Int) v E.st.length l) :
  Calls Tryz.prog 12 #[.agg #[.int .i64 (N:Int),.int .u64 q,.int .i64 C,.int .i64 R,.string s,.slice lo ln lc]] w fun e w'=>e=.returned (.int .i64 0)/\Still w w':=by
 have A0:=Still.alloc w (.cells #[.int .i64 (N:Int),.int .u64 q,.int .i64 C,.int .i64 R,.string s,.slice lo ln lc] 27)
 have HS0:Hid (Still w (w.alloc (.cells #[.int .i64 (N:Int),.int .u64 q,.int .i64 C,.int .i64 R,.string s,.slice lo ln lc] 27))):=hid A0
 obtain ⟨c0,c1,c2,c3,c4,c5,cf⟩:=(newCf_cb w ⟨(N:Int),q,C,R,s,.slice lo ln lc⟩).cells
 have HOp:=hid (open_yes N q C R s lo ln lc E l _ v (Q.still A0) (hr.still A0) hc _ _ rfl rfl)
 obtain ⟨n1,e1⟩:∃ k,E.st.length=k:=⟨_,rfl⟩
 obtain ⟨n2,e2⟩:∃ k,E.sp.length=k:=⟨_,rfl⟩
 rw [e1,e2] at HOp
 clear Q hr hc A0 e1 e2
 go_enter Tryz.func12,Tryz.ntmps12
 go_wp2_with fail
 refine HOp.out.mono ?_
 rintro e w1 ⟨ao,ac,bo,bc,rfl,o1,o2,h1⟩
 have HS1:=hid (HS0.out.trans h1)
 clear o1 o2 h1 c0 c1 c2 c3 c4 c5 cf
 go_wp2_with fail
 go_ret
 exact ⟨rfl,HS1.out.trans (Still.alloc _ _)⟩
theorem wnew_yes (N:Nat) (q C R:Int) (s:ByteArray) (lo:Option Addr) (ln lc:Nat) (E:Env) (l:List Int) (w:World) (v:Int) (Q:Q13 w ⟨(N:Int),q,C,R,s,.slice lo ln lc⟩ v E.st E.sp) (hr:RdI w lo ln lc l) (hc:CfgP (N:Int) v E.st.length l) :
  Calls Tryz.prog 6 #[.agg #[.int .i64 (N:Int),.int .u64 q,.int .i64 C,.int .i64 R,.string s,.slice lo ln lc]] w fun e w'=>∃ u,e=.returned (.tuple #[u,.int .i64 0])/\OwW w' w.heap.size u (nw0 E N)/\Still w w':=by
 have A0:=Still.alloc w (.cells #[.int .i64 (N:Int),.int .u64 q,.int .i64 C,.int .i64 R,.string s,.slice lo ln lc] 27)
 have A1:=Still.alloc (w.alloc (.cells #[.int .i64 (N:Int),.int .u64 q,.int .i64 C,.int .i64 R,.string s,.slice lo ln lc] 27)) (.cells (wdcs 0 0 (.slice none 0 0) (.slice none 0 0) (.slice none 0 0) (.slice none 0 0)) 35)
 have p0:=(newCf_cb w ⟨(N:Int),q,C,R,s,.slice lo ln lc⟩).still A1
 have z0:=newWd_wb (w.alloc (.cells #[.int .i64 (N:Int),.int .u64 q,.int .i64 C,.int .i64 R,.string s,.slice lo ln lc] 27)) 0 0 (.slice none 0 0) (.slice none 0 0) (.slice none 0 0) (.slice none 0 0)
 rw [size_alloc] at z0
 have HS0:Hid (Still w ((w.alloc (.cells #[.int .i64 (N:Int),.int .u64 q,.int .i64 C,.int .i64 R,.string s,.slice lo ln lc] 27)).alloc (.cells (wdcs 0 0 (.slice none 0 0) (.slice none 0 0) (.slice none 0 0) (.slice none 0 0)) 35))):=hid (A0.trans A1)
 have HP0:Hid (Cfb ((w.alloc (.cells #[.int .i64 (N:Int),.int .u64 q,.int .i64 C,.int .i64 R,.string s,.slice lo ln lc] 27)).alloc (.cells (wdcs 0 0 (.slice none 0 0) (.slice none 0 0) (.slice none 0 0) (.slice none 0 0)) 35)) w.heap.size ⟨(N:Int),q,C,R,s,.slice lo ln lc⟩):=hid p0
 have HZ0:Hid (Wdb ((w.alloc (.cells #[.int .i64 (N:Int),.int .u64 q,.int .i64 C,.int .i64 R,.string s,.slice lo ln lc] 27)).alloc (.cells (wdcs 0 0 (.slice none 0 0) (.slice none 0 0) (.slice none 0 0) (.slice none 0 0)) 35)) (w.heap.size+1) 0 0 (.slice none 0 0) (.slice none 0 0) (.slice none 0 0) (.slice none 0 0)):=hid z0
 have HOp:=hid (open_yes N q C R s lo ln lc E l ((w.alloc (.cells #[.int .i64 (N:Int),.int .u64 q,.int .i64 C,.int .i64 R,.string s,.slice lo ln lc] 27)).alloc (.cells (wdcs 0 0 (.slice none 0 0) (.slice none 0 0) (.slice none 0 0) (.slice none 0 0)) 35)) v (Q.still (A0.trans A1)) (hr.still (A0.trans A1)) hc _ _ rfl rfl)
 have HN:=hid (show N<=6/\N<=E.st.length by have:=hc.2.1; have:=hc.2.2.2.1; omega)
 obtain ⟨n1,e1⟩:∃ k,E.st.length=k:=⟨_,rfl⟩
 obtain ⟨n2,e2⟩:∃ k,E.sp.length=k:=⟨_,rfl⟩
 rw [e1,e2] at HOp
 clear Q hr hc A0 A1 p0 z0 e1 e2
 obtain ⟨W0,eW0⟩:∃ X,((w.alloc (.cells #[.int .i64 (N:Int),.int .u64 q,.int .i64 C,.int .i64 R,.string s,.slice lo ln lc] 27)).alloc (.cells (wdcs 0 0 (.slice none 0 0) (.slice none 0 0) (.slice none 0 0) (.slice none 0 0)) 35))=X:=⟨_,rfl⟩
 rw [eW0] at HS0 HP0 HZ0 HOp
 obtain ⟨c0,c1,c2,c3,c4,c5,cf⟩:=HP0.out.cells
 go_enter Tryz.func6,Tryz.ntmps6
 go_wp2_with fail
 refine HOp.out.mono ?_
 rintro e w1 ⟨ao,ac,bo,bc,rfl,o1,o2,h1⟩
 have A2:=Still.alloc w1 (.cells #[.int .i64 (N:Int),.int .u64 q,.int .i64 C,.int .i64 R,.string s,.slice lo ln lc,.slice ao n1 ac,.slice bo n2 bc] 68)
 have HS1:Hid (Still w (w1.alloc (.cells #[.int .i64 (N:Int),.int .u64 q,.int .i64 C,.int .i64 R,.string s,.slice lo ln lc,.slice ao n1 ac,.slice bo n2 bc] 68))):=hid ((HS0.out.trans h1).trans A2)
 have HQ1:Hid (Seb (w1.alloc (.cells #[.int .i64 (N:Int),.int .u64 q,.int .i64 C,.int .i64 R,.string s,.slice lo ln lc,.slice ao n1 ac,.slice bo n2 bc] 68)) w1.heap.size ⟨⟨(N:Int),q,C,R,s,.slice lo ln lc⟩,.slice ao n1 ac,.slice bo n2 bc,.slice none 0 0⟩):=hid (heap_alloc_new w1 _)
 have HZ1:Hid (Wdb (w1.alloc (.cells #[.int .i64 (N:Int),.int .u64 q,.int .i64 C,.int .i64 R,.string s,.slice lo ln lc,.slice ao n1 ac,.slice bo n2 bc] 68)) (w.heap.size+1) 0 0 (.slice none 0 0) (.slice none 0 0) (.slice none 0 0) (.slice none 0 0)):=hid ((HZ0.out.still h1).still A2)
 have HO1:Hid (OwG KT 46 (w1.alloc (.cells #[.int .i64 (N:Int),.int .u64 q,.int .i64 C,.int .i64 R,.string s,.slice lo ln lc,.slice ao n1 ac,.slice bo n2 bc] 68)) w.heap.size (.slice ao n1 ac) E.st):=hid ((o1.still A2).less HS0.out.size)
 clear eW0 HOp c0 c1 c2 c3 c4 c5 cf o1 o2 h1 A2 HS0 HP0 HZ0
 obtain ⟨W1,eW1⟩:∃ X,w1.alloc (.cells #[.int .i64 (N:Int),.int .u64 q,.int .i64 C,.int .i64 R,.string s,.slice lo ln lc,.slice ao n1 ac,.slice bo n2 bc] 68)=X:=⟨_,rfl⟩
 rw [eW1] at HS1 HQ1 HZ1 HO1
 obtain ⟨c0,c1,c2,c3,c4,c5,c6,c7,cf⟩:=HQ1.out.cells
 go_wp2_with fail
 refine (wbegin_any N q C R s lo ln lc ao n1 ac bo n2 bc E W1 w.heap.size HO1.out HN.out.1 HN.out.2).mono ?_
 rintro e w2 ⟨u,rfl,⟨a,b,c,d,rfl,q1,q2,q3,q4⟩,h2⟩
 obtain ⟨xa,ya,rfl,_⟩:=q1.slice
 obtain ⟨xb,yb,rfl,_⟩:=q2.slice
 obtain ⟨xc,yc,rfl,_⟩:=q3.slice
 obtain ⟨xd,yd,rfl,_⟩:=q4.slice
 have HS2:=hid (HS1.out.trans h2)
 have HZ2:=hid (HZ1.out.still h2)
 have HB:=hid HS1.out.size
 have H1:=hid q1
 have H2:=hid q2
 have H3:=hid q3
 have H4:=hid q4
 obtain ⟨m1,f1⟩:∃ k,(nw0 E N).ms.length=k:=⟨_,rfl⟩
 obtain ⟨m2,f2⟩:∃ k,(nw0 E N).cs.length=k:=⟨_,rfl⟩
 obtain ⟨m3,f3⟩:∃ k,(nw0 E N).hs.length=k:=⟨_,rfl⟩
 obtain ⟨m4,f4⟩:∃ k,(nw0 E N).ks.length=k:=⟨_,rfl⟩
 obtain ⟨fr,f5⟩:∃ k,(nw0 E N).fr=k:=⟨_,rfl⟩
 obtain ⟨nx,f6⟩:∃ k,(nw0 E N).nx=k:=⟨_,rfl⟩
 rw [f1,f2,f3,f4,f5,f6]
 rw [f1] at H1
 rw [f2] at H2
 rw [f3] at H3
 rw [f4] at H4
 have HF:=hid (And.intro f5 f6)
 clear q1 q2 q3 q4 h2 c0 c1 c2 c3 c4 c5 c6 c7 cf eW1 HS1 HQ1 HZ1 HO1 f1 f2 f3 f4 f5 f6
 obtain ⟨z0,z1,z2,z3,z4,z5,zf⟩:=HZ2.out.cells
 go_wp2_with fail
 have ty:=HZ2.out.ty
 refine bodyPost_ret (Wdb.res2 (HZ2.out.put fr nx _ _ _ _) rfl _ _ rfl rfl) rfl ⟨_,rfl,⟨_,_,_,_,by rw [HF.out.1,HF.out.2], ?_, ?_, ?_, ?_⟩,still_set6 HS2.out (by omega) _ _ _ _ _ _⟩
 ·exact (H1.out.less HB.out).set6 ty (by decide) _ _ _ _ _ _
 ·exact (H2.out.less HB.out).set6 ty (by decide) _ _ _ _ _ _
 ·exact (H3.out.less HB.out).set6 ty (by decide) _ _ _ _ _ _
 ·exact (H4.out.less HB.out).set6 ty (by decide) _ _ _ _ _ _
theorem wnew_no (p q C R:Int) (s:ByteArray) (lo:Option Addr) (ln lc:Nat) (E:Env) (l:List Int) (w:World) (v:Int) (Q:Q13 w ⟨p,q,C,R,s,.slice lo ln lc⟩ v E.st E.sp) (hr:RdI w lo ln lc l) (hc:¬ CfgP p v E.st.length l) :
  Calls Tryz.prog 6 #[.agg #[.int .i64 p,.int .u64 q,.int .i64 C,.int .i64 R,.string s,.slice lo ln lc]] w fun e w'=>e=.returned (.tuple #[.agg (wdcs 0 0 (.slice none 0 0) (.slice none 0 0) (.slice none 0 0) (.slice none 0 0)),.int .i64 130])/\Still w w':=by
 have A0:=Still.alloc w (.cells #[.int .i64 p,.int .u64 q,.int .i64 C,.int .i64 R,.string s,.slice lo ln lc] 27)
 have A1:=Still.alloc (w.alloc (.cells #[.int .i64 p,.int .u64 q,.int .i64 C,.int .i64 R,.string s,.slice lo ln lc] 27)) (.cells (wdcs 0 0 (.slice none 0 0) (.slice none 0 0) (.slice none 0 0) (.slice none 0 0)) 35)
 have p0:=(newCf_cb w ⟨p,q,C,R,s,.slice lo ln lc⟩).still A1
 have z0:=newWd_wb (w.alloc (.cells #[.int .i64 p,.int .u64 q,.int .i64 C,.int .i64 R,.string s,.slice lo ln lc] 27)) 0 0 (.slice none 0 0) (.slice none 0 0) (.slice none 0 0) (.slice none 0 0)
 rw [size_alloc] at z0
 have HS0:Hid (Still w ((w.alloc (.cells #[.int .i64 p,.int .u64 q,.int .i64 C,.int .i64 R,.string s,.slice lo ln lc] 27)).alloc (.cells (wdcs 0 0 (.slice none 0 0) (.slice none 0 0) (.slice none 0 0) (.slice none 0 0)) 35))):=hid (A0.trans A1)
 have HP0:Hid (Cfb ((w.alloc (.cells #[.int .i64 p,.int .u64 q,.int .i64 C,.int .i64 R,.string s,.slice lo ln lc] 27)).alloc (.cells (wdcs 0 0 (.slice none 0 0) (.slice none 0 0) (.slice none 0 0) (.slice none 0 0)) 35)) w.heap.size ⟨p,q,C,R,s,.slice lo ln lc⟩):=hid p0
 have HZ0:Hid (Wdb ((w.alloc (.cells #[.int .i64 p,.int .u64 q,.int .i64 C,.int .i64 R,.string s,.slice lo ln lc] 27)).alloc (.cells (wdcs 0 0 (.slice none 0 0) (.slice none 0 0) (.slice none 0 0) (.slice none 0 0)) 35)) (w.heap.size+1) 0 0 (.slice none 0 0) (.slice none 0 0) (.slice none 0 0) (.slice none 0 0)):=hid z0
 have HOp:=hid (open_no p q C R s lo ln lc E l ((w.alloc (.cells #[.int .i64 p,.int .u64 q,.int .i64 C,.int .i64 R,.string s,.slice lo ln lc] 27)).alloc (.cells (wdcs 0 0 (.slice none 0 0) (.slice none 0 0) (.slice none 0 0) (.slice none 0 0)) 35)) v (Q.still (A0.trans A1)) (hr.still (A0.trans A1)) hc)
 clear Q hr hc A0 A1 p0 z0
 obtain ⟨W0,eW0⟩:∃ X,((w.alloc (.cells #[.int .i64 p,.int .u64 q,.int .i64 C,.int .i64 R,.string s,.slice lo ln lc] 27)).alloc (.cells (wdcs 0 0 (.slice none 0 0) (.slice none 0 0) (.slice none 0 0) (.slice none 0 0)) 35))=X:=⟨_,rfl⟩
 rw [eW0] at HS0 HP0 HZ0 HOp
 obtain ⟨c0,c1,c2,c3,c4,c5,cf⟩:=HP0.out.cells
 go_enter Tryz.func6,Tryz.ntmps6
 go_wp2_with fail
 refine HOp.out.mono ?_
 rintro e w1 ⟨rfl,h1⟩
 have A2:=Still.alloc w1 (.cells #[.int .i64 0,.int .u64 0,.int .i64 0,.int .i64 0,.string ByteArray.empty,.slice none 0 0,.slice none 0 0,.slice none 0 0] 68)
 have HS1:Hid (Still w (w1.alloc (.cells #[.int .i64 0,.int .u64 0,.int .i64 0,.int .i64 0,.string ByteArray.empty,.slice none 0 0,.slice none 0 0,.slice none 0 0] 68))):=hid ((HS0.out.trans h1).trans A2)
 have HZ1:Hid (Wdb (w1.alloc (.cells #[.int .i64 0,.int .u64 0,.int .i64 0,.int .i64 0,.string ByteArray.empty,.slice none 0 0,.slice none 0 0,.slice none 0 0] 68)) (w.heap.size+1) 0 0 (.slice none 0 0) (.slice none 0 0) (.slice none 0 0) (.slice none 0 0)):=hid ((HZ0.out.still h1).still A2)
 clear eW0 HOp c0 c1 c2 c3 c4 c5 cf h1 A2 HS0 HP0 HZ0
 obtain ⟨z0,z1,z2,z3,z4,z5,zf⟩:=HZ1.out.cells
 go_wp2_with fail
 refine bodyPost_ret (Wdb.res2 (HZ1.out.put 0 0 _ _ _ _) rfl _ _ rfl rfl) rfl ⟨rfl,still_set6 HS1.out (by omega) _ _ _ _ _ _⟩
theorem wchk_yes (N:Nat) (q C R:Int) (s:ByteArray) (lo:Option Addr) (ln lc:Nat) (E:Env) (l:List Int) (w:World) (v0:Int) (Q:Q13 w ⟨(N:Int),q,C,R,s,.slice lo ln lc⟩ v0 E.st E.sp) (hr:RdI w lo ln lc l) (hc:CfgP (N:Int) v0 E.st.length l) (W:Wd) (v:Value) (hv:RdW w v W) :
  Calls Tryz.prog 13 #[.agg #[.int .i64 (N:Int),.int .u64 q,.int .i64 C,.int .i64 R,.string s,.slice lo ln lc],v] w fun e w'=>e=.returned (.int .i64 (chkW (N:Int) E W))/\Still w w':=by
 have HV:=hid hv
 obtain ⟨a,b,c,d,rfl,⟨xa,ya,rfl,l1,ha,hra⟩,⟨xb,yb,rfl,l2,hb,hrb⟩,⟨xc,yc,rfl,l3,hc0,hrc⟩,⟨xd,yd,rfl,l4,hd,hrd⟩⟩:=hv
 clear l1 l2 l3 l4 ha hb hc0 hd hra hrb hrc hrd
 obtain ⟨k1,e1⟩:∃ n,W.ms.length=n:=⟨_,rfl⟩
 obtain ⟨k2,e2⟩:∃ n,W.cs.length=n:=⟨_,rfl⟩
 obtain ⟨k3,e3⟩:∃ n,W.hs.length=n:=⟨_,rfl⟩
 obtain ⟨k4,e4⟩:∃ n,W.ks.length=n:=⟨_,rfl⟩
 obtain ⟨fr,efr⟩:∃ n,W.fr=n:=⟨_,rfl⟩
 obtain ⟨nx,enx⟩:∃ n,W.nx=n:=⟨_,rfl⟩
 rw [e1,e2,e3,e4,efr,enx] at HV ⊢
 have EF:=hid efr
 clear e1 e2 e3 e4 efr enx
 have A0:=Still.alloc w (.cells #[.int .i64 (N:Int),.int .u64 q,.int .i64 C,.int .i64 R,.string s,.slice lo ln lc] 27)
 have A1:=Still.alloc (w.alloc (.cells #[.int .i64 (N:Int),.int .u64 q,.int .i64 C,.int .i64 R,.string s,.slice lo ln lc] 27)) (.cells (wdcs fr nx (.slice xa k1 ya) (.slice xb k2 yb) (.slice xc k3 yc) (.slice xd k4 yd)) 35)
 have p0:=(newCf_cb w ⟨(N:Int),q,C,R,s,.slice lo ln lc⟩).still A1
 have w0:=newWd_wb (w.alloc (.cells #[.int .i64 (N:Int),.int .u64 q,.int .i64 C,.int .i64 R,.string s,.slice lo ln lc] 27)) fr nx (.slice xa k1 ya) (.slice xb k2 yb) (.slice xc k3 yc) (.slice xd k4 yd)
 rw [size_alloc] at w0
 have HS0:Hid (Still w ((w.alloc (.cells #[.int .i64 (N:Int),.int .u64 q,.int .i64 C,.int .i64 R,.string s,.slice lo ln lc] 27)).alloc (.cells (wdcs fr nx (.slice xa k1 ya) (.slice xb k2 yb) (.slice xc k3 yc) (.slice xd k4 yd)) 35))):=hid (A0.trans A1)
 have HP0:Hid (Cfb ((w.alloc (.cells #[.int .i64 (N:Int),.int .u64 q,.int .i64 C,.int .i64 R,.string s,.slice lo ln lc] 27)).alloc (.cells (wdcs fr nx (.slice xa k1 ya) (.slice xb k2 yb) (.slice xc k3 yc) (.slice xd k4 yd)) 35)) w.heap.size ⟨(N:Int),q,C,R,s,.slice lo ln lc⟩):=hid p0
 have HW0:Hid (Wdb ((w.alloc (.cells #[.int .i64 (N:Int),.int .u64 q,.int .i64 C,.int .i64 R,.string s,.slice lo ln lc] 27)).alloc (.cells (wdcs fr nx (.slice xa k1 ya) (.slice xb k2 yb) (.slice xc k3 yc) (.slice xd k4 yd)) 35)) (w.heap.size+1) fr nx (.slice xa k1 ya) (.slice xb k2 yb) (.slice xc k3 yc) (.slice xd k4 yd)):=hid w0
 have HOp:=hid (open_yes N q C R s lo ln lc E l ((w.alloc (.cells #[.int .i64 (N:Int),.int .u64 q,.int .i64 C,.int .i64 R,.string s,.slice lo ln lc] 27)).alloc (.cells (wdcs fr nx (.slice xa k1 ya) (.slice xb k2 yb) (.slice xc k3 yc) (.slice xd k4 yd)) 35)) v0 (Q.still (A0.trans A1)) (hr.still (A0.trans A1)) hc _ _ rfl rfl)
 obtain ⟨n1,e1⟩:∃ k,E.st.length=k:=⟨_,rfl⟩
 obtain ⟨n2,e2⟩:∃ k,E.sp.length=k:=⟨_,rfl⟩
 rw [e1,e2] at HOp
 have E2:=hid e2
 clear Q hr hc A0 A1 p0 w0 e1 e2
 obtain ⟨W0,eW0⟩:∃ X,((w.alloc (.cells #[.int .i64 (N:Int),.int .u64 q,.int .i64 C,.int .i64 R,.string s,.slice lo ln lc] 27)).alloc (.cells (wdcs fr nx (.slice xa k1 ya) (.slice xb k2 yb) (.slice xc k3 yc) (.slice xd k4 yd)) 35))=X:=⟨_,rfl⟩
 rw [eW0] at HS0 HP0 HW0 HOp
 obtain ⟨c0,c1,c2,c3,c4,c5,cf⟩:=HP0.out.cells
 go_enter Tryz.func13,Tryz.ntmps13
 go_wp2_with fail
 refine HOp.out.mono ?_
 rintro e w1 ⟨ao,ac,bo,bc,rfl,o1,o2,h1⟩
 have A2:=Still.alloc w1 (.cells #[.int .i64 (N:Int),.int .u64 q,.int .i64 C,.int .i64 R,.string s,.slice lo ln lc,.slice ao n1 ac,.slice bo n2 bc] 68)
 have HS1:Hid (Still w (w1.alloc (.cells #[.int .i64 (N:Int),.int .u64 q,.int .i64 C,.int .i64 R,.string s,.slice lo ln lc,.slice ao n1 ac,.slice bo n2 bc] 68))):=hid ((HS0.out.trans h1).trans A2)
 have HQ1:Hid (Seb (w1.alloc (.cells #[.int .i64 (N:Int),.int .u64 q,.int .i64 C,.int .i64 R,.string s,.slice lo ln lc,.slice ao n1 ac,.slice bo n2 bc] 68)) w1.heap.size ⟨⟨(N:Int),q,C,R,s,.slice lo ln lc⟩,.slice ao n1 ac,.slice bo n2 bc,.slice none 0 0⟩):=hid (heap_alloc_new w1 _)
 have HW1:Hid (Wdb (w1.alloc (.cells #[.int .i64 (N:Int),.int .u64 q,.int .i64 C,.int .i64 R,.string s,.slice lo ln lc,.slice ao n1 ac,.slice bo n2 bc] 68)) (w.heap.size+1) fr nx (.slice xa k1 ya) (.slice xb k2 yb) (.slice xc k3 yc) (.slice xd k4 yd)):=hid ((HW0.out.still h1).still A2)
 clear eW0 HOp c0 c1 c2 c3 c4 c5 cf o1 o2 h1 A2 HS0 HP0 HW0
 obtain ⟨W1,eW1⟩:∃ X,w1.alloc (.cells #[.int .i64 (N:Int),.int .u64 q,.int .i64 C,.int .i64 R,.string s,.slice lo ln lc,.slice ao n1 ac,.slice bo n2 bc] 68)=X:=⟨_,rfl⟩
 rw [eW1] at HS1 HQ1 HW1
 obtain ⟨c0,c1,c2,c3,c4,c5,c6,c7,cf⟩:=HQ1.out.cells
 obtain ⟨d0,d1,d2,d3,d4,d5,df⟩:=HW1.out.cells
 go_wp2_with fail
 refine (check13_any ⟨⟨(N:Int),q,C,R,s,.slice lo ln lc⟩,.slice ao n1 ac,.slice bo n2 bc,.slice none 0 0⟩ E N rfl bo bc (by rw [E2.out]) W _ W1 (HV.out.still HS1.out)).mono ?_
 rintro e w2 ⟨rfl,h2⟩
 have HS2:=hid (HS1.out.trans h2)
 clear h2 c0 c1 c2 c3 c4 c5 c6 c7 cf d0 d1 d2 d3 d4 d5 df eW1
 go_wp2_with fail
 go_ret
 exact ⟨rfl,HS2.out⟩
noncomputable def stE (p v0:Int) (E:Env) (l:List Int) (W:Wd) (cs:List Cm):Int :=
 open Classical in if ¬ CfgP p v0 E.st.length l then 130 else if ¬ Fits p E W then 131 else if W.fr=1099511627776 then 133 else if ¬ Ordr p (W.fr+1) cs then 132 else 0
def StNo (w w':World) (n:Int) (e:Ending):Prop:=e=.returned (.tuple #[.agg (wdcs 0 0 (.slice none 0 0) (.slice none 0 0) (.slice none 0 0) (.slice none 0 0)),.slice none 0 0,.int .i64 n])/\Still w w'
def StYes (w w':World) (E:Env) (W:Wd) (cs:List Cm) (e:Ending):Prop:=(∃ u nv,e=.returned (.tuple #[u,nv,.int .i64 0])/\OwW w' w.heap.size u (frame E W cs).w/\OwG KN 44 w' w.heap.size nv (frame E W cs).ns)/\Still w w'
def StQ (w w':World) (E:Env) (W:Wd) (cs:List Cm) (n:Int) (e:Ending):Prop:=(n=0->StYes w w' E W cs e)/\(n≠0->StNo w w' n e)
theorem ordr_rgt {N:Nat} {f:Int} {l:List Cm} (h:Ordr (N:Int) f l):∀ y∈l,Rgt N y:=fun y hy=>by
 obtain ⟨i,hi,rfl⟩:=List.mem_iff_getElem.1 hy
 have:=(h i hi).1.1
 rw [List.getD_eq_getElem?_getD,List.getElem?_eq_getElem hi] at this
 simpa using this
theorem wStep_cfg (p q C R:Int) (s:ByteArray) (lo:Option Addr) (ln lc:Nat) (E:Env) (l:List Int) (w:World) (v0:Int) (Q:Q13 w ⟨p,q,C,R,s,.slice lo ln lc⟩ v0 E.st E.sp) (hr:RdI w lo ln lc l) (hc:¬ CfgP p v0 E.st.length l) (W:Wd) (v:Value) (hv:RdW w v W) (xo:Option Addr) (n xcp:Nat) :
  Calls Tryz.prog 7 #[.agg #[.int .i64 p,.int .u64 q,.int .i64 C,.int .i64 R,.string s,.slice lo ln lc],v,.slice xo n xcp] w fun e w'=>StNo w w' 130 e:=by
 have HV:=hid hv
 obtain ⟨a,b,c,d,rfl,⟨xa,ya,rfl,l1,ha,hra⟩,⟨xb,yb,rfl,l2,hb,hrb⟩,⟨xc,yc,rfl,l3,hc0,hrc⟩,⟨xd,yd,rfl,l4,hd,hrd⟩⟩:=hv
 clear l1 l2 l3 l4 ha hb hc0 hd hra hrb hrc hrd
 obtain ⟨k1,e1⟩:∃ n,W.ms.length=n:=⟨_,rfl⟩
 obtain ⟨k2,e2⟩:∃ n,W.cs.length=n:=⟨_,rfl⟩
 obtain ⟨k3,e3⟩:∃ n,W.hs.length=n:=⟨_,rfl⟩
 obtain ⟨k4,e4⟩:∃ n,W.ks.length=n:=⟨_,rfl⟩
 obtain ⟨fr,efr⟩:∃ n,W.fr=n:=⟨_,rfl⟩
 obtain ⟨nx,enx⟩:∃ n,W.nx=n:=⟨_,rfl⟩
 rw [e1,e2,e3,e4,efr,enx] at HV ⊢
 have EF:=hid efr
 clear e1 e2 e3 e4 efr enx
 have A0:=Still.alloc w (.cells #[.int .i64 p,.int .u64 q,.int .i64 C,.int .i64 R,.string s,.slice lo ln lc] 27)
 have A1:=Still.alloc (w.alloc (.cells #[.int .i64 p,.int .u64 q,.int .i64 C,.int .i64 R,.string s,.slice lo ln lc] 27)) (.cells (wdcs fr nx (.slice xa k1 ya) (.slice xb k2 yb) (.slice xc k3 yc) (.slice xd k4 yd)) 35)
 have A2:=Still.alloc ((w.alloc (.cells #[.int .i64 p,.int .u64 q,.int .i64 C,.int .i64 R,.string s,.slice lo ln lc] 27)).alloc (.cells (wdcs fr nx (.slice xa k1 ya) (.slice xb k2 yb) (.slice xc k3 yc) (.slice xd k4 yd)) 35)) (.cells (wdcs 0 0 (.slice none 0 0) (.slice none 0 0) (.slice none 0 0) (.slice none 0 0)) 35)
 have p0:=((newCf_cb w ⟨p,q,C,R,s,.slice lo ln lc⟩).still A1).still A2
 have w0:=newWd_wb (w.alloc (.cells #[.int .i64 p,.int .u64 q,.int .i64 C,.int .i64 R,.string s,.slice lo ln lc] 27)) fr nx (.slice xa k1 ya) (.slice xb k2 yb) (.slice xc k3 yc) (.slice xd k4 yd)
 have z0:=newWd_wb ((w.alloc (.cells #[.int .i64 p,.int .u64 q,.int .i64 C,.int .i64 R,.string s,.slice lo ln lc] 27)).alloc (.cells (wdcs fr nx (.slice xa k1 ya) (.slice xb k2 yb) (.slice xc k3 yc) (.slice xd k4 yd)) 35)) 0 0 (.slice none 0 0) (.slice none 0 0) (.slice none 0 0) (.slice none 0 0)
 rw [size_alloc] at w0
 rw [size_alloc,size_alloc] at z0
 have HS0:Hid (Still w (((w.alloc (.cells #[.int .i64 p,.int .u64 q,.int .i64 C,.int .i64 R,.string s,.slice lo ln lc] 27)).alloc (.cells (wdcs fr nx (.slice xa k1 ya) (.slice xb k2 yb) (.slice xc k3 yc) (.slice xd k4 yd)) 35)).alloc (.cells (wdcs 0 0 (.slice none 0 0) (.slice none 0 0) (.slice none 0 0) (.slice none 0 0)) 35))):=hid ((A0.trans A1).trans A2)
 have HP0:Hid (Cfb (((w.alloc (.cells #[.int .i64 p,.int .u64 q,.int .i64 C,.int .i64 R,.string s,.slice lo ln lc] 27)).alloc (.cells (wdcs fr nx (.slice xa k1 ya) (.slice xb k2 yb) (.slice xc k3 yc) (.slice xd k4 yd)) 35)).alloc (.cells (wdcs 0 0 (.slice none 0 0) (.slice none 0 0) (.slice none 0 0) (.slice none 0 0)) 35)) w.heap.size ⟨p,q,C,R,s,.slice lo ln lc⟩):=hid p0
 have HW0:Hid (Wdb (((w.alloc (.cells #[.int .i64 p,.int .u64 q,.int .i64 C,.int .i64 R,.string s,.slice lo ln lc] 27)).alloc (.cells (wdcs fr nx (.slice xa k1 ya) (.slice xb k2 yb) (.slice xc k3 yc) (.slice xd k4 yd)) 35)).alloc (.cells (wdcs 0 0 (.slice none 0 0) (.slice none 0 0) (.slice none 0 0) (.slice none 0 0)) 35)) (w.heap.size+1) fr nx (.slice xa k1 ya) (.slice xb k2 yb) (.slice xc k3 yc) (.slice xd k4 yd)):=hid (w0.still A2)
 have HZ0:Hid (Wdb (((w.alloc (.cells #[.int .i64 p,.int .u64 q,.int .i64 C,.int .i64 R,.string s,.slice lo ln lc] 27)).alloc (.cells (wdcs fr nx (.slice xa k1 ya) (.slice xb k2 yb) (.slice xc k3 yc) (.slice xd k4 yd)) 35)).alloc (.cells (wdcs 0 0 (.slice none 0 0) (.slice none 0 0) (.slice none 0 0) (.slice none 0 0)) 35)) (w.heap.size+1+1) 0 0 (.slice none 0 0) (.slice none 0 0) (.slice none 0 0) (.slice none 0 0)):=hid z0
 have HOp:=hid (open_no p q C R s lo ln lc E l (((w.alloc (.cells #[.int .i64 p,.int .u64 q,.int .i64 C,.int .i64 R,.string s,.slice lo ln lc] 27)).alloc (.cells (wdcs fr nx (.slice xa k1 ya) (.slice xb k2 yb) (.slice xc k3 yc) (.slice xd k4 yd)) 35)).alloc (.cells (wdcs 0 0 (.slice none 0 0) (.slice none 0 0) (.slice none 0 0) (.slice none 0 0)) 35)) v0 (Q.still ((A0.trans A1).trans A2)) (hr.still ((A0.trans A1).trans A2)) hc)
 clear Q hr hc A0 A1 A2 p0 w0 z0
 obtain ⟨W0,eW0⟩:∃ X,(((w.alloc (.cells #[.int .i64 p,.int .u64 q,.int .i64 C,.int .i64 R,.string s,.slice lo ln lc] 27)).alloc (.cells (wdcs fr nx (.slice xa k1 ya) (.slice xb k2 yb) (.slice xc k3 yc) (.slice xd k4 yd)) 35)).alloc (.cells (wdcs 0 0 (.slice none 0 0) (.slice none 0 0) (.slice none 0 0) (.slice none 0 0)) 35))=X:=⟨_,rfl⟩
 rw [eW0] at HS0 HP0 HW0 HZ0 HOp
 obtain ⟨c0,c1,c2,c3,c4,c5,cf⟩:=HP0.out.cells
 go_enter Tryz.func7,Tryz.ntmps7
 go_wp2_with fail
 refine HOp.out.mono ?_
 rintro e w1 ⟨rfl,h1⟩
 have A2:=Still.alloc w1 (.cells #[.int .i64 0,.int .u64 0,.int .i64 0,.int .i64 0,.string ByteArray.empty,.slice none 0 0,.slice none 0 0,.slice none 0 0] 68)
 have HS1:Hid (Still w (w1.alloc (.cells #[.int .i64 0,.int .u64 0,.int .i64 0,.int .i64 0,.string ByteArray.empty,.slice none 0 0,.slice none 0 0,.slice none 0 0] 68))):=hid ((HS0.out.trans h1).trans A2)
 have HZ1:Hid (Wdb (w1.alloc (.cells #[.int .i64 0,.int .u64 0,.int .i64 0,.int .i64 0,.string ByteArray.empty,.slice none 0 0,.slice none 0 0,.slice none 0 0] 68)) (w.heap.size+1+1) 0 0 (.slice none 0 0) (.slice none 0 0) (.slice none 0 0) (.slice none 0 0)):=hid ((HZ0.out.still h1).still A2)
 clear eW0 HOp c0 c1 c2 c3 c4 c5 cf h1 A2 HS0 HP0 HZ0 HW0
 obtain ⟨z0,z1,z2,z3,z4,z5,zf⟩:=HZ1.out.cells
 go_wp2_with fail
 refine bodyPost_ret (Wdb.res3 (HZ1.out.put 0 0 _ _ _ _) rfl _ _ _ rfl rfl rfl) rfl ⟨rfl,still_set6 HS1.out (by omega) _ _ _ _ _ _⟩
theorem wStep_any (N:Nat) (q C R:Int) (s:ByteArray) (lo:Option Addr) (ln lc:Nat) (E:Env) (l:List Int) (w:World) (v0:Int) (Q:Q13 w ⟨(N:Int),q,C,R,s,.slice lo ln lc⟩ v0 E.st E.sp) (D:P13 w ⟨(N:Int),q,C,R,s,.slice lo ln lc⟩ E) (hr:RdI w lo ln lc l) (hc:CfgP (N:Int) v0 E.st.length l) (hs16:E.sp.length<=16) (W:Wd) (v:Value) (hv:RdW w v W) (xo:Option Addr) (n xcp:Nat) (cs:List Cm) (hx:RdG KX w xo n cs) (h47:(n+300)*24<=140737488355328) :
  Calls Tryz.prog 7 #[.agg #[.int .i64 (N:Int),.int .u64 q,.int .i64 C,.int .i64 R,.string s,.slice lo ln lc],v,.slice xo n xcp] w fun e w'=>StQ w w' E W cs (stE (N:Int) v0 E l W cs) e:=by
 have HV:=hid hv
 obtain ⟨a,b,c,d,rfl,⟨xa,ya,rfl,l1,ha,hra⟩,⟨xb,yb,rfl,l2,hb,hrb⟩,⟨xc,yc,rfl,l3,hc0,hrc⟩,⟨xd,yd,rfl,l4,hd,hrd⟩⟩:=hv
 clear l1 l2 l3 l4 ha hb hc0 hd hra hrb hrc hrd
 obtain ⟨k1,e1⟩:∃ n,W.ms.length=n:=⟨_,rfl⟩
 obtain ⟨k2,e2⟩:∃ n,W.cs.length=n:=⟨_,rfl⟩
 obtain ⟨k3,e3⟩:∃ n,W.hs.length=n:=⟨_,rfl⟩
 obtain ⟨k4,e4⟩:∃ n,W.ks.length=n:=⟨_,rfl⟩
 obtain ⟨fr,efr⟩:∃ n,W.fr=n:=⟨_,rfl⟩
 obtain ⟨nx,enx⟩:∃ n,W.nx=n:=⟨_,rfl⟩
 rw [e1,e2,e3,e4,efr,enx] at HV ⊢
 have EF:=hid efr
 clear e1 e2 e3 e4 efr enx
 have A0:=Still.alloc w (.cells #[.int .i64 (N:Int),.int .u64 q,.int .i64 C,.int .i64 R,.string s,.slice lo ln lc] 27)
 have A1:=Still.alloc (w.alloc (.cells #[.int .i64 (N:Int),.int .u64 q,.int .i64 C,.int .i64 R,.string s,.slice lo ln lc] 27)) (.cells (wdcs fr nx (.slice xa k1 ya) (.slice xb k2 yb) (.slice xc k3 yc) (.slice xd k4 yd)) 35)
 have A2:=Still.alloc ((w.alloc (.cells #[.int .i64 (N:Int),.int .u64 q,.int .i64 C,.int .i64 R,.string s,.slice lo ln lc] 27)).alloc (.cells (wdcs fr nx (.slice xa k1 ya) (.slice xb k2 yb) (.slice xc k3 yc) (.slice xd k4 yd)) 35)) (.cells (wdcs 0 0 (.slice none 0 0) (.slice none 0 0) (.slice none 0 0) (.slice none 0 0)) 35)
 have p0:=((newCf_cb w ⟨(N:Int),q,C,R,s,.slice lo ln lc⟩).still A1).still A2
 have w0:=newWd_wb (w.alloc (.cells #[.int .i64 (N:Int),.int .u64 q,.int .i64 C,.int .i64 R,.string s,.slice lo ln lc] 27)) fr nx (.slice xa k1 ya) (.slice xb k2 yb) (.slice xc k3 yc) (.slice xd k4 yd)
 have z0:=newWd_wb ((w.alloc (.cells #[.int .i64 (N:Int),.int .u64 q,.int .i64 C,.int .i64 R,.string s,.slice lo ln lc] 27)).alloc (.cells (wdcs fr nx (.slice xa k1 ya) (.slice xb k2 yb) (.slice xc k3 yc) (.slice xd k4 yd)) 35)) 0 0 (.slice none 0 0) (.slice none 0 0) (.slice none 0 0) (.slice none 0 0)
 rw [size_alloc] at w0
 rw [size_alloc,size_alloc] at z0
 have HS0:Hid (Still w (((w.alloc (.cells #[.int .i64 (N:Int),.int .u64 q,.int .i64 C,.int .i64 R,.string s,.slice lo ln lc] 27)).alloc (.cells (wdcs fr nx (.slice xa k1 ya) (.slice xb k2 yb) (.slice xc k3 yc) (.slice xd k4 yd)) 35)).alloc (.cells (wdcs 0 0 (.slice none 0 0) (.slice none 0 0) (.slice none 0 0) (.slice none 0 0)) 35))):=hid ((A0.trans A1).trans A2)
 have HP0:Hid (Cfb (((w.alloc (.cells #[.int .i64 (N:Int),.int .u64 q,.int .i64 C,.int .i64 R,.string s,.slice lo ln lc] 27)).alloc (.cells (wdcs fr nx (.slice xa k1 ya) (.slice xb k2 yb) (.slice xc k3 yc) (.slice xd k4 yd)) 35)).alloc (.cells (wdcs 0 0 (.slice none 0 0) (.slice none 0 0) (.slice none 0 0) (.slice none 0 0)) 35)) w.heap.size ⟨(N:Int),q,C,R,s,.slice lo ln lc⟩):=hid p0
 have HW0:Hid (Wdb (((w.alloc (.cells #[.int .i64 (N:Int),.int .u64 q,.int .i64 C,.int .i64 R,.string s,.slice lo ln lc] 27)).alloc (.cells (wdcs fr nx (.slice xa k1 ya) (.slice xb k2 yb) (.slice xc k3 yc) (.slice xd k4 yd)) 35)).alloc (.cells (wdcs 0 0 (.slice none 0 0) (.slice none 0 0) (.slice none 0 0) (.slice none 0 0)) 35)) (w.heap.size+1) fr nx (.slice xa k1 ya) (.slice xb k2 yb) (.slice xc k3 yc) (.slice xd k4 yd)):=hid (w0.still A2)
 have HZ0:Hid (Wdb (((w.alloc (.cells #[.int .i64 (N:Int),.int .u64 q,.int .i64 C,.int .i64 R,.string s,.slice lo ln lc] 27)).alloc (.cells (wdcs fr nx (.slice xa k1 ya) (.slice xb k2 yb) (.slice xc k3 yc) (.slice xd k4 yd)) 35)).alloc (.cells (wdcs 0 0 (.slice none 0 0) (.slice none 0 0) (.slice none 0 0) (.slice none 0 0)) 35)) (w.heap.size+1+1) 0 0 (.slice none 0 0) (.slice none 0 0) (.slice none 0 0) (.slice none 0 0)):=hid z0
 have HOp:=hid (open_yes N q C R s lo ln lc E l (((w.alloc (.cells #[.int .i64 (N:Int),.int .u64 q,.int .i64 C,.int .i64 R,.string s,.slice lo ln lc] 27)).alloc (.cells (wdcs fr nx (.slice xa k1 ya) (.slice xb k2 yb) (.slice xc k3 yc) (.slice xd k4 yd)) 35)).alloc (.cells (wdcs 0 0 (.slice none 0 0) (.slice none 0 0) (.slice none 0 0) (.slice none 0 0)) 35)) v0 (Q.still ((A0.trans A1).trans A2)) (hr.still ((A0.trans A1).trans A2)) hc _ _ rfl rfl)
 have HN:=hid (show N<=6/\N<=E.st.length by have:=hc.2.1; have:=hc.2.2.2.1; omega)
 have HE:Hid (stE (N:Int) v0 E l W cs=open Classical in if ¬ Fits (N:Int) E W then 131 else if W.fr=1099511627776 then 133 else if ¬ Ordr (N:Int) (W.fr+1) cs then 132 else 0):=hid (by unfold stE; rw [if_neg (not_not_intro hc)])
 have HD:=hid D
 have HX:=hid hx
 have H47:=hid h47
 have H16:=hid hs16
 obtain ⟨n1,e1⟩:∃ k,E.st.length=k:=⟨_,rfl⟩
 obtain ⟨n2,e2⟩:∃ k,E.sp.length=k:=⟨_,rfl⟩
 rw [e1,e2] at HOp
 have E2:=hid e2
 clear Q hr hc A0 A1 A2 p0 w0 z0 e1 e2 D hx h47 hs16
 obtain ⟨W0,eW0⟩:∃ X,(((w.alloc (.cells #[.int .i64 (N:Int),.int .u64 q,.int .i64 C,.int .i64 R,.string s,.slice lo ln lc] 27)).alloc (.cells (wdcs fr nx (.slice xa k1 ya) (.slice xb k2 yb) (.slice xc k3 yc) (.slice xd k4 yd)) 35)).alloc (.cells (wdcs 0 0 (.slice none 0 0) (.slice none 0 0) (.slice none 0 0) (.slice none 0 0)) 35))=X:=⟨_,rfl⟩
 rw [eW0] at HS0 HP0 HW0 HZ0 HOp
 obtain ⟨c0,c1,c2,c3,c4,c5,cf⟩:=HP0.out.cells
 obtain ⟨se,ese⟩:∃ k,stE (N:Int) v0 E l W cs=k:=⟨_,rfl⟩
 rw [ese] at HE ⊢
 clear ese
 go_enter Tryz.func7,Tryz.ntmps7
 go_wp2_with fail
 refine HOp.out.mono ?_
 rintro e w1 ⟨ao,ac,bo,bc,rfl,o1,o2,h1⟩
 have A2:=Still.alloc w1 (.cells #[.int .i64 (N:Int),.int .u64 q,.int .i64 C,.int .i64 R,.string s,.slice lo ln lc,.slice ao n1 ac,.slice bo n2 bc] 68)
 have HS1:Hid (Still w (w1.alloc (.cells #[.int .i64 (N:Int),.int .u64 q,.int .i64 C,.int .i64 R,.string s,.slice lo ln lc,.slice ao n1 ac,.slice bo n2 bc] 68))):=hid ((HS0.out.trans h1).trans A2)
 have HQ1:Hid (Seb (w1.alloc (.cells #[.int .i64 (N:Int),.int .u64 q,.int .i64 C,.int .i64 R,.string s,.slice lo ln lc,.slice ao n1 ac,.slice bo n2 bc] 68)) w1.heap.size ⟨⟨(N:Int),q,C,R,s,.slice lo ln lc⟩,.slice ao n1 ac,.slice bo n2 bc,.slice none 0 0⟩):=hid (heap_alloc_new w1 _)
 have HW1:Hid (Wdb (w1.alloc (.cells #[.int .i64 (N:Int),.int .u64 q,.int .i64 C,.int .i64 R,.string s,.slice lo ln lc,.slice ao n1 ac,.slice bo n2 bc] 68)) (w.heap.size+1) fr nx (.slice xa k1 ya) (.slice xb k2 yb) (.slice xc k3 yc) (.slice xd k4 yd)):=hid ((HW0.out.still h1).still A2)
 have HZ1:Hid (Wdb (w1.alloc (.cells #[.int .i64 (N:Int),.int .u64 q,.int .i64 C,.int .i64 R,.string s,.slice lo ln lc,.slice ao n1 ac,.slice bo n2 bc] 68)) (w.heap.size+1+1) 0 0 (.slice none 0 0) (.slice none 0 0) (.slice none 0 0) (.slice none 0 0)):=hid ((HZ0.out.still h1).still A2)
 have HO1:Hid (OwG KT 46 (w1.alloc (.cells #[.int .i64 (N:Int),.int .u64 q,.int .i64 C,.int .i64 R,.string s,.slice lo ln lc,.slice ao n1 ac,.slice bo n2 bc] 68)) w.heap.size (.slice ao n1 ac) E.st):=hid ((o1.still A2).less HS0.out.size)
 have HO2:Hid (OwG KT 46 (w1.alloc (.cells #[.int .i64 (N:Int),.int .u64 q,.int .i64 C,.int .i64 R,.string s,.slice lo ln lc,.slice ao n1 ac,.slice bo n2 bc] 68)) w.heap.size (.slice bo n2 bc) E.sp):=hid ((o2.still A2).less HS0.out.size)
 clear eW0 HOp c0 c1 c2 c3 c4 c5 cf o1 o2 h1 A2 HS0 HP0 HW0 HZ0
 obtain ⟨W1,eW1⟩:∃ X,w1.alloc (.cells #[.int .i64 (N:Int),.int .u64 q,.int .i64 C,.int .i64 R,.string s,.slice lo ln lc,.slice ao n1 ac,.slice bo n2 bc] 68)=X:=⟨_,rfl⟩
 rw [eW1] at HS1 HQ1 HW1 HZ1 HO1 HO2
 obtain ⟨gs,egs⟩:∃ k,w1.heap.size=k:=⟨_,rfl⟩
 rw [egs] at HQ1
 obtain ⟨c0,c1,c2,c3,c4,c5,c6,c7,cf⟩:=HQ1.out.cells
 obtain ⟨d0,d1,d2,d3,d4,d5,df⟩:=HW1.out.cells
 have HCk:=hid (check13_any ⟨⟨(N:Int),q,C,R,s,.slice lo ln lc⟩,.slice ao n1 ac,.slice bo n2 bc,.slice none 0 0⟩ E N rfl bo bc (by rw [E2.out]) W _ W1 (HV.out.still HS1.out))
 by_cases hF:Fits (N:Int) E W
 rotate_left
 ·rw [chkW_no hF] at HCk
  have he:se=131:=by rw [HE.out,if_pos hF]
  subst he
  clear hF HE
  go_wp2_with fail
  refine HCk.out.mono ?_
  rintro e w2 ⟨rfl,h2⟩
  have HS2:=hid (HS1.out.trans h2)
  have HZ2:=hid (HZ1.out.still h2)
  clear h2 c0 c1 c2 c3 c4 c5 c6 c7 cf d0 d1 d2 d3 d4 d5 df eW1 egs
  obtain ⟨z0,z1,z2,z3,z4,z5,zf⟩:=HZ2.out.cells
  go_wp2_with fail
  refine bodyPost_ret (Wdb.res3 (HZ2.out.put 0 0 _ _ _ _) rfl _ _ _ rfl rfl rfl) rfl ⟨fun h=>absurd h (by decide),fun _=>⟨rfl,still_set6 HS2.out (by omega) _ _ _ _ _ _⟩⟩
 rw [chkW_yes hF] at HCk
 have HFi:=hid hF
 have hfr:0<=fr/\fr<=1099511627776:=by have:=hF.2; rw [EF.out] at this; exact this
 have HE2:Hid (se=open Classical in if fr=1099511627776 then 133 else if ¬ Ordr (N:Int) (fr+1) cs then 132 else 0):=hid (by rw [HE.out,if_neg (not_not_intro hF),EF.out])
 clear hF HE
 go_wp2_with fail
 refine HCk.out.mono ?_
 rintro e w2 ⟨rfl,h2⟩
 have HS2:=hid (HS1.out.trans h2)
 have HZ2:=hid (HZ1.out.still h2)
 have HQ2:=hid (HQ1.out.still h2)
 have HW2:=hid (HW1.out.still h2)
 have HO3:=hid (HO1.out.still h2)
 have HO4:=hid (HO2.out.still h2)
 clear h2 c0 c1 c2 c3 c4 c5 c6 c7 cf d0 d1 d2 d3 d4 d5 df eW1 egs HCk HS1 HZ1 HQ1 HW1 HO1 HO2
 obtain ⟨c0,c1,c2,c3,c4,c5,c6,c7,cf⟩:=HQ2.out.cells
 obtain ⟨d0,d1,d2,d3,d4,d5,df⟩:=HW2.out.cells
 obtain ⟨z0,z1,z2,z3,z4,z5,zf⟩:=HZ2.out.cells
 by_cases hm:fr=1099511627776
 ·have he:se=133:=by rw [HE2.out,if_pos hm]
  subst he
  subst hm
  go_wp2_with fail
  refine bodyPost_ret (Wdb.res3 (HZ2.out.put 0 0 _ _ _ _) rfl _ _ _ rfl rfl rfl) rfl ⟨fun h=>absurd h (by decide),fun _=>⟨rfl,still_set6 HS2.out (by omega) _ _ _ _ _ _⟩⟩
 have hlt:fr<1099511627776:=by omega
 have hne:(fr == 1099511627776)=false:=by simpa using hm
 have HE3:Hid (se=open Classical in if ¬ Ordr (N:Int) (fr+1) cs then 132 else 0):=hid (by rw [HE2.out,if_neg hm])
 have HR:=hid (mayrun_any ⟨⟨(N:Int),q,C,R,s,.slice lo ln lc⟩,.slice ao n1 ac,.slice bo n2 bc,.slice none 0 0⟩ N rfl HN.out.1 (fr+1) cs xo n xcp w2 (HX.out.still HS2.out))
 clear hm HE2
 by_cases hO:Ordr (N:Int) (fr+1) cs
 rotate_left
 ·have he:se=132:=by rw [HE3.out,if_pos hO]
  subst he
  have HO:=hid hO
  clear hO HE3
  go_wp2_with fail
  refine HR.out.mono ?_
  rintro e w3 ⟨hb,h3⟩
  obtain rfl:=hb.is_no HO.out
  have HS3:=hid (HS2.out.trans h3)
  have HZ3:=hid (HZ2.out.still h3)
  clear h3 hb c0 c1 c2 c3 c4 c5 c6 c7 cf d0 d1 d2 d3 d4 d5 df z0 z1 z2 z3 z4 z5 zf
  obtain ⟨z0,z1,z2,z3,z4,z5,zf⟩:=HZ3.out.cells
  go_wp2_with fail
  refine bodyPost_ret (Wdb.res3 (HZ3.out.put 0 0 _ _ _ _) rfl _ _ _ rfl rfl rfl) rfl ⟨fun h=>absurd h (by decide),fun _=>⟨rfl,still_set6 HS3.out (by omega) _ _ _ _ _ _⟩⟩
 have he:se=0:=by rw [HE3.out,if_neg (not_not_intro hO)]
 subst he
 have HO:=hid hO
 clear hO HE3
 go_wp2_with fail
 refine HR.out.mono ?_
 rintro e w3 ⟨hb,h3⟩
 obtain rfl:=hb.is_yes HO.out
 have HS3:=hid (HS2.out.trans h3)
 have HZ3:=hid (HZ2.out.still h3)
 have HQ3:=hid (HQ2.out.still h3)
 have HW3:=hid (HW2.out.still h3)
 have HO5:=hid (HO3.out.still h3)
 have HO6:=hid (HO4.out.still h3)
 clear h3 hb c0 c1 c2 c3 c4 c5 c6 c7 cf d0 d1 d2 d3 d4 d5 df z0 z1 z2 z3 z4 z5 zf HS2 HZ2 HQ2 HW2 HO3 HO4 HR
 obtain ⟨c0,c1,c2,c3,c4,c5,c6,c7,cf⟩:=HQ3.out.cells
 obtain ⟨d0,d1,d2,d3,d4,d5,df⟩:=HW3.out.cells
 have HSt:=hid (wstep_any (N:Int) q C R s lo ln lc ao n1 ac bo n2 bc xo n xcp E w3 (HD.out.still HS3.out) w.heap.size W N cs (HX.out.still HS3.out) HO5.out HO6.out HN.out.1 HN.out.2 H16.out (by have:=HFi.out.1; rw [Int.toNat_natCast] at this; exact this) (by rw [EF.out]; exact ⟨hfr.1,hlt⟩) (ordr_rgt HO.out) H47.out _ (HV.out.still HS3.out))
 go_wp2_with fail
 refine HSt.out.mono ?_
 rintro e w4 ⟨h4,u,nv,rfl,hW,hnv⟩
 obtain ⟨G,eG⟩:∃ G,frame E W cs=G:=⟨_,rfl⟩
 have HG:=hid eG
 rw [eG] at hW hnv
 clear eG
 obtain ⟨a,b,c,d,rfl,q1,q2,q3,q4⟩:=hW
 obtain ⟨ya',yc1,rfl,_⟩:=q1.slice
 obtain ⟨yb',yc2,rfl,_⟩:=q2.slice
 obtain ⟨yc',yc3,rfl,_⟩:=q3.slice
 obtain ⟨yd',yc4,rfl,_⟩:=q4.slice
 obtain ⟨ye',yc5,rfl,_⟩:=hnv.slice
 have HS4:=hid (HS3.out.trans h4)
 have HB4:=hid HS3.out.size
 have HZ4:=hid (HZ3.out.still h4)
 have H1:=hid q1
 have H2:=hid q2
 have H3:=hid q3
 have H4:=hid q4
 have H5:=hid hnv
 obtain ⟨m1,f1⟩:∃ k,G.w.ms.length=k:=⟨_,rfl⟩
 obtain ⟨m2,f2⟩:∃ k,G.w.cs.length=k:=⟨_,rfl⟩
 obtain ⟨m3,f3⟩:∃ k,G.w.hs.length=k:=⟨_,rfl⟩
 obtain ⟨m4,f4⟩:∃ k,G.w.ks.length=k:=⟨_,rfl⟩
 obtain ⟨m5,f5⟩:∃ k,G.ns.length=k:=⟨_,rfl⟩
 obtain ⟨fr',f6⟩:∃ k,G.w.fr=k:=⟨_,rfl⟩
 obtain ⟨nx',f7⟩:∃ k,G.w.nx=k:=⟨_,rfl⟩
 rw [f1,f2,f3,f4,f5,f6,f7]
 rw [f1] at H1
 rw [f2] at H2
 rw [f3] at H3
 rw [f4] at H4
 rw [f5] at H5
 have HF:=hid (And.intro f6 f7)
 have A5:=Still.alloc w4 (.cells (wdcs fr' nx' (.slice ya' m1 yc1) (.slice yb' m2 yc2) (.slice yc' m3 yc3) (.slice yd' m4 yc4)) 35)
 have hZ5:=HZ4.out.still A5
 have HZ5:=hid hZ5
 have HS5:=hid (HS4.out.trans A5)
 have H1':=hid ((H1.out.still A5).less HB4.out)
 have H2':=hid ((H2.out.still A5).less HB4.out)
 have H3':=hid ((H3.out.still A5).less HB4.out)
 have H4':=hid ((H4.out.still A5).less HB4.out)
 have H5':=hid ((H5.out.still A5).less HB4.out)
 have hN5:Wdb (w4.alloc (.cells (wdcs fr' nx' (.slice ya' m1 yc1) (.slice yb' m2 yc2) (.slice yc' m3 yc3) (.slice yd' m4 yc4)) 35)) w4.heap.size fr' nx' (.slice ya' m1 yc1) (.slice yb' m2 yc2) (.slice yc' m3 yc3) (.slice yd' m4 yc4):=newWd_wb w4 fr' nx' (.slice ya' m1 yc1) (.slice yb' m2 yc2) (.slice yc' m3 yc3) (.slice yd' m4 yc4)
 obtain ⟨W5,eW5⟩:∃ X,w4.alloc (.cells (wdcs fr' nx' (.slice ya' m1 yc1) (.slice yb' m2 yc2) (.slice yc' m3 yc3) (.slice yd' m4 yc4)) 35)=X:=⟨_,rfl⟩
 rw [eW5] at HZ5 HS5 H1' H2' H3' H4' H5' hN5 hZ5
 clear q1 q2 q3 q4 hnv h4 c0 c1 c2 c3 c4 c5 c6 c7 cf d0 d1 d2 d3 d4 d5 df f1 f2 f3 f4 f5 f6 f7 A5 H1 H2 H3 H4 H5 HSt HS3 HZ3 HQ3 HW3 HO5 HO6 HS4 HZ4
 obtain ⟨y0,y1,y2,y3,y4,y5,yf⟩:=hN5.cells
 obtain ⟨z0,z1,z2,z3,z4,z5,zf⟩:=hZ5.cells
 clear hN5 hZ5
 go_wp2_with fail
 have ty:=HZ5.out.ty
 refine bodyPost_ret (Wdb.res3 (HZ5.out.put fr' nx' _ _ _ _) rfl _ _ _ rfl rfl rfl) rfl ⟨fun _=>⟨⟨_,_,rfl, ?_, ?_⟩,still_set6 HS5.out (by omega) _ _ _ _ _ _⟩,fun h=>absurd rfl h⟩
 ·rw [HG.out]
  exact ⟨_,_,_,_,by rw [HF.out.1,HF.out.2],H1'.out.set6 ty (by decide) _ _ _ _ _ _,H2'.out.set6 ty (by decide) _ _ _ _ _ _,H3'.out.set6 ty (by decide) _ _ _ _ _ _,H4'.out.set6 ty (by decide) _ _ _ _ _ _⟩
 ·rw [HG.out]
  exact H5'.out.set6 ty (by decide) _ _ _ _ _ _
theorem blen64_one (w:World):Calls Tryz.prog 78 #[.int .u64 1] w fun e w'=>(∃ l:Int,e=.returned (.int .i64 l))/\w'=w:=by
 go_enter Tryz.func78,Tryz.ntmps78
 go_wp2_with fail
 go_ret
 exact ⟨⟨_,rfl⟩,rfl⟩
theorem blen_one (w:World):Calls Tryz.prog 40 #[.int .u64 1] w fun e w'=>(∃ l:Int,e=.returned (.int .i64 l))/\w'=w:=by
 go_enter Tryz.func40,Tryz.ntmps40
 go_wp2_with fail
 refine (blen64_one _).mono ?_
 rintro e w1 ⟨⟨l,rfl⟩,rfl⟩
 go_wp2_with fail
 go_ret
 exact ⟨⟨_,rfl⟩,rfl⟩
theorem xins_one (ao:Option Addr) (cap:Nat) (fv:Value) (w:World):Calls Tryz.prog 69 #[.slice ao 1 cap,.int .i64 0,.int .i64 1,fv] w fun e w'=>e=.returned (.tuple #[])/\w'=w:=by
 go_enter Tryz.func69,Tryz.ntmps69
 go_wp2_with fail
 refine wp_loop_rounds 1 ?_
 rw [rounds_succ]
 go_wp2_with fail
 go_end0
 exact ⟨rfl,rfl⟩
theorem xpdq_one (ao:Option Addr) (cap:Nat) (lim:Int) (fv:Value) (w:World):Calls Tryz.prog 39 #[.slice ao 1 cap,.int .i64 0,.int .i64 1,.int .i64 lim,fv] w fun e w'=>e=.returned (.tuple #[])/\w'=w:=by
 have H:=hid (fun w=>xins_one ao cap fv w)
 go_enter Tryz.func39,Tryz.ntmps39
 go_wp2_with fail
 refine wp_loop_rounds 1 ?_
 rw [rounds_succ]
 go_wp2_with fail
 refine (H.out _).mono ?_
 rintro e w1 ⟨rfl,rfl⟩
 go_wp2_with fail
 (try simp only [Exit.inBlock,Exit.then])
 refine bodyPost_ret (results_none rfl _ _ _) rfl ?_
 exact ⟨rfl,rfl⟩
theorem xsort_one (ao:Option Addr) (cap:Nat) (fv:Value) (w:World):Calls Tryz.prog 22 #[.slice ao 1 cap,fv] w fun e w'=>e=.returned (.tuple #[])/\w'=w:=by
 have H:=hid (fun lim w=>xpdq_one ao cap lim fv w)
 go_enter Tryz.func22,Tryz.ntmps22
 go_wp2_with fail
 refine (blen_one _).mono ?_
 rintro e w1 ⟨⟨l,rfl⟩,rfl⟩
 go_wp2_with fail
 refine (H.out _ _).mono ?_
 rintro e w2 ⟨rfl,rfl⟩
 go_wp2_with fail
 go_end0
 exact ⟨rfl,rfl⟩
theorem bs_xv {o:Oper} {ρ:Operand->Value} {x:Operand} {s:Cm} (ho:o.op=.buildSlice 28 1 #[(0,x)]) (hx:ρ x=xv s) (u:World):(execOp ρ o).run Tryz.prog u=.ok (.value (.slice (some ⟨u.heap.size,0,none⟩) 1 1)) (u.alloc (.cells (xcs s) 60)):=by
 unfold execOp
 rw [ho]
 simp only [List.map_toArray,List.map_cons,List.map_nil,hx]
 go_simp
theorem within64_yes (w:World):Calls Tryz.prog 20 #[.int .i64 1,.int .i64 1,.int .i64 1] w fun e w'=>e=.returned (.bool true)/\w'=w:=by
 go_enter Tryz.func20,Tryz.ntmps20
 go_wp2_with fail
 go_ret
 exact ⟨rfl,rfl⟩
theorem within64_ref (w:World):Calls Tryz.prog 20 #[.int .i64 1,.int .i64 0,.int .i64 4096] w fun e w'=>e=.returned (.bool true)/\w'=w:=by
 go_enter Tryz.func20,Tryz.ntmps20
 go_wp2_with fail
 go_ret
 exact ⟨rfl,rfl⟩
theorem make_one (W:World):(Instr.makeSlice 82 (.int .i64 1) (.int .i64 1)).run Tryz.prog W=.ok (.slice (some ⟨W.heap.size,0,none⟩) 1 1) (W.alloc (.cells #[.slice none 0 0] 28)):=by
 obtain ⟨i,hi,hz,hs,hb⟩:∃ i,Tryz.prog.info? 28=some i/\i.zero=some (.slice none 0 0)/\i.size=1/\i.bytes=24:=⟨_,rfl,rfl,rfl,rfl⟩
 have h:=run_make (P:=Tryz.prog) (w:=W) 82 28 i (.slice none 0 0) Tryz.underlying82 hi hz .i64 .i64 1 1 (by omega) (by omega) (by rw [hb]; omega) (by omega)
 rw [hs,show madeCells (Value.slice none 0 0).cells (Int.toNat 1*1)=#[.slice none 0 0] by kernel_rfl] at h
 exact h
theorem ap_one {o:Oper} {ρ:Operand->Value} {s x:Operand} (u:World) (g:Nat) (y:Cm) (ho:o.op=.call { callee:=.builtin .append,args:=#[s,x],argTypes:=#[28,28] }) (hs:ρ s=.slice none 0 0) (hx:ρ x=.slice (some ⟨g,0,none⟩) 1 1) (hr:u.heap[g]?=some (.cells (xcs y) 60 (0,0))) :
  ∃ v' u',(execOp ρ o).run Tryz.prog u=.ok (.value v') u'/\OwG KX 60 u' u.heap.size v' [y]/\Still u u':=by
 obtain ⟨i,hi,hz,h1,h2⟩:=infoX
 obtain ⟨v',w',hrun,hown,hgr,_⟩:=run_append_own (P:=Tryz.prog) u u.heap.size 28 o.type 60 i (.agg (KX.f KX.d).toArray) KX.k 56 Tryz.underlying28 hi hz h1 h2 (by simp [Value.cells,KX.len]) KX.pos (.slice none 0 0) 0 [] (World.ownsRow_nil u _ _ _) ⟨g,0,none⟩ 1 1 (KX.f y) (by rw [KX.len,Nat.one_mul]) (by
  intro j z hj
  rw [add_plain,Nat.zero_add,cell_of_row _ _ _ _ _ _ hr]
  have hj':(xcs y).toList[j]?=some z:=hj
  rwa [Array.getElem?_toList] at hj') (KX.one y) (by unfold maxLen; omega) (by omega) (Nat.le_refl _)
 refine ⟨v',w', ?_, ?_,⟨hgr.os,hgr.tape,hgr.output,hgr.size,fun k hk _=>hgr.block k hk (by simp [Value.ownBlock])⟩⟩
 ·unfold execOp
  simp only [ho,resolve,invoke,builtin,Sem.run_bind,Sem.run_pure,Result.andThen_ok,List.map_toArray,List.map_cons,List.map_nil,hs,hx,hrun]
 ·unfold OwG
  rw [show KX.row [y]=KX.f y by simp [Kd.row]]
  exact hown
theorem ap_ex {o:Oper} {ρ:Operand->Value} {s x:Operand} {u:World} {g:Nat} {y:Cm} (ho:o.op=.call { callee:=.builtin .append,args:=#[s,x],argTypes:=#[28,28] }) (hs:ρ s=.slice none 0 0) (hx:ρ x=.slice (some ⟨g,0,none⟩) 1 1) (hr:u.heap[g]?=some (.cells (xcs y) 60 (0,0))):∃ v' u',(execOp ρ o).run Tryz.prog u=.ok (.value v') u':=by
 obtain ⟨v',u',h,_⟩:=ap_one u g y ho hs hx hr
 exact ⟨v',u',h⟩
theorem ap_still {o:Oper} {ρ:Operand->Value} {s x:Operand} {u u1:World} {g:Nat} {y:Cm} {v1:Value} (h3:(execOp ρ o).run Tryz.prog u=.ok (.value v1) u1) (ho:o.op=.call { callee:=.builtin .append,args:=#[s,x],argTypes:=#[28,28] }) (hs:ρ s=.slice none 0 0) (hx:ρ x=.slice (some ⟨g,0,none⟩) 1 1) (hr:u.heap[g]?=some (.cells (xcs y) 60 (0,0))):Still u u1:=by
 obtain ⟨v',u',h,_,hq⟩:=ap_one u g y ho hs hx hr
 have h4:=h.symm.trans h3
 simp only [Result.ok.injEq,Next.value.injEq] at h4
 obtain ⟨_,rfl⟩:=h4
 exact hq
theorem ap_skip {o:Oper} {ρ:Operand->Value} {s x:Operand} {u u1:World} {g:Nat} {y:Cm} (h3:(execOp ρ o).run Tryz.prog u=.ok .skip u1) (ho:o.op=.call { callee:=.builtin .append,args:=#[s,x],argTypes:=#[28,28] }) (hs:ρ s=.slice none 0 0) (hx:ρ x=.slice (some ⟨g,0,none⟩) 1 1) (hr:u.heap[g]?=some (.cells (xcs y) 60 (0,0))):False:=by
 obtain ⟨v',u',h,_,hq⟩:=ap_one u g y ho hs hx hr
 have h4:=h.symm.trans h3
 simp at h4
theorem fa_x0 {o:Oper} {ρ:Operand->Value} {x:Operand} {b:Nat} (ho:o.op=.fieldAddr 60 x 0) (hx:ρ x=.pointer (some ⟨b,0,none⟩)) (u:World):(execOp ρ o).run Tryz.prog u=.ok (.value (.pointer (some ⟨b,0,none⟩))) u:=by
 unfold execOp
 rw [ho]
 simp only [hx]
 go_simp
theorem sb_one {o:Oper} {ρ:Operand->Value} {x y:Operand} (ho:o.op=.binOp .sub 2 x y 2) (hx:ρ x=.int .i64 1) (hy:ρ y=.int .i64 1) (u:World):(execOp ρ o).run Tryz.prog u=.ok (.value (.int .i64 0)) u:=by
 unfold execOp
 rw [ho]
 simp only [hx,hy]
 go_simp
 rfl
theorem ix_cs {o:Oper} {ρ:Operand->Value} {x y:Operand} {b:Nat} (ho:o.op=.indexAddr 82 x y) (hx:ρ x=.slice (some ⟨b,0,none⟩) 1 1) (hy:ρ y=.int .i64 0) (u:World):(execOp ρ o).run Tryz.prog u=.ok (.value (.pointer (some ⟨b,0,none⟩))) u:=by
 unfold execOp
 rw [ho]
 simp only [hx,hy]
 go_simp
theorem ld_i64 {o:Oper} {ρ:Operand->Value} {x:Operand} {b k:Nat} {v:Int} (ho:o.op=.load 2 x) (hx:ρ x=.pointer (some ⟨b,k,none⟩)) (u:World) (hc:u.cell? ⟨b,k,none⟩=some (.int .i64 v)):(execOp ρ o).run Tryz.prog u=.ok (.value (.int .i64 v)) u:=by
 unfold execOp
 rw [ho]
 simp only [hx]
 go_simp
theorem ld_cs {o:Oper} {ρ:Operand->Value} {x:Operand} {b k:Nat} {ao:Option Addr} {n c:Nat} (ho:o.op=.load 28 x) (hx:ρ x=.pointer (some ⟨b,k,none⟩)) (u:World) (hc:u.cell? ⟨b,k,none⟩=some (.slice ao n c)):(execOp ρ o).run Tryz.prog u=.ok (.value (.slice ao n c)) u:=by
 unfold execOp
 rw [ho]
 simp only [hx]
 go_simp
theorem byfr_one (pe sq v a b c:Int) (g cap:Nat) (w:World) (B0:Nat) (ho:OwG KX 60 w B0 (.slice (some ⟨g,0,none⟩) 1 cap) [⟨1,pe,sq,v,a,b,c⟩]) :
  Calls Tryz.prog 25 #[.slice (some ⟨g,0,none⟩) 1 cap,.int .i64 1] w fun e w'=>∃ gf co cc,e=.returned (.slice (some ⟨gf,0,none⟩) 1 1)/\w'.cell? ⟨gf,0,none⟩=some (.slice co 1 cc)/\OwG KX 60 w' w.heap.size (.slice co 1 cc) [⟨1,pe,sq,v,a,b,c⟩]/\Still w w':=by
 have hmk:=make_one
 have A1:=Still.alloc w (.cells #[.slice none 0 0] 28)
 have A2:=Still.alloc (w.alloc (.cells #[.slice none 0 0] 28)) (.cells (xcs ⟨1,pe,sq,v,a,b,c⟩) 60)
 have ho1:=ho.still A1
 obtain ⟨q0,q1,q2,q3,q4,q5,q6,qf⟩:=owX ho1 (i:=0) (by simp)
 simp only [Nat.zero_mul,Nat.zero_add,cm,List.getD_cons_zero] at q0 q1 q2 q3 q4 q5 q6
 have f1:=(heap_alloc_new w (.cells #[.slice none 0 0] 28))
 have f2:=A2.kept_still f1
 have x2:Xb ((w.alloc (.cells #[.slice none 0 0] 28)).alloc (.cells (xcs ⟨1,pe,sq,v,a,b,c⟩) 60)) (w.heap.size+1) ⟨1,pe,sq,v,a,b,c⟩:=by
  have:=newX_xb (w.alloc (.cells #[.slice none 0 0] 28)) ⟨1,pe,sq,v,a,b,c⟩
  rw [size_alloc] at this
  exact this
 have HX2:=hid x2
 have HF2:=hid f2
 have HS2:=hid (A1.trans A2)
 obtain ⟨d0,d1,d2,d3,d4,d5,d6,df⟩:=x2.cells
 clear A1 A2 ho1 f1 f2 x2 ho
 go_enter Tryz.func25,Tryz.ntmps25
 go_wp2_with fail
 refine wp_loop_rounds 2 ?_
 rw [rounds_succ]
 go_wp2_with fail
 refine (within64_yes _).mono ?_
 rintro e w3 ⟨he,hw⟩
 rw [he,hw]
 clear he hw w3
 obtain ⟨W2,eW2⟩:∃ X,((w.alloc (.cells #[.slice none 0 0] 28)).alloc (.cells (xcs ⟨1,pe,sq,v,a,b,c⟩) 60))=X:=⟨_,rfl⟩
 rw [eW2] at HX2 HF2 HS2
 go_upto_region 6 with fail
 clear eW2 q0 q1 q2 q3 q4 q5 q6 qf d0 d1 d2 d3 d4 d5 d6 df
 refine region_x 11 2 [1,2,3,5,6,7,8,9] (by kernel_rfl) (by kernel_rfl) (by kernel_rfl) ?_
 apply Exists.intro
 refine And.intro ?_ (And.intro ?_ (And.intro ?_ ?_))
 ·intro u hu
  obtain ⟨d0,d1,d2,d3,d4,d5,d6,df⟩:=(HX2.out.still hu).cells
  have hb:=hu.kept_still HF2.out
  have m0:=Cl.cell (w:=u) (p:=⟨w.heap.size,0,none⟩) (v:=.slice none 0 0) (by rw [cell_of_row _ _ _ _ _ _ hb]; rfl)
  have k0:=Cl.cell d0
  have k1:=Cl.cell d1
  have k2:=Cl.cell d2
  have k3:=Cl.cell d3
  have k4:=Cl.cell d4
  have k5:=Cl.cell d5
  have k6:=Cl.cell d6
  clear d0 d1 d2 d3 d4 d5 d6 df hb
  have hne:=Aft.here u
  simp only [List.take_succ_cons,List.take_zero]
  repeat (go_big_quiet_step (fail))
  exact wpQuiet_nil rfl
 ·intro k o B' u hk ho hR
  obtain rfl | rfl:k=0\/k=1:=by omega
  ·obtain rfl:=Option.some.inj ho
   cases hR with
   | zero hs=>exact .inl ⟨_,_,bs_xv (s:=⟨1,pe,sq,v,a,b,c⟩) rfl rfl u⟩
  ·obtain rfl:=Option.some.inj ho
   cases hR with
   | value h1 h2 h3 =>
    cases h1 with
    | zero hs =>
     obtain rfl:=Option.some.inj h2
     rw [bs_xv (s:=⟨1,pe,sq,v,a,b,c⟩) rfl rfl] at h3
     simp only [Result.ok.injEq,Next.value.injEq] at h3
     obtain ⟨rfl,rfl⟩:=h3
     exact .inl (ap_ex (y:=⟨1,pe,sq,v,a,b,c⟩) rfl rfl rfl (heap_alloc_new _ _))
   | skip h1 h2 h3 =>
    cases h1 with
    | zero hs =>
     obtain rfl:=Option.some.inj h2
     rw [bs_xv (s:=⟨1,pe,sq,v,a,b,c⟩) rfl rfl] at h3
     simp at h3
 ·intro j o t hj hx ho ht k B' u hk0 hk2 hR
  have hst:Still W2 u:=by
   obtain rfl | rfl:k=1\/k=2:=by omega
   ·cases hR with
    | value h1 h2 h3 =>
     cases h1 with
     | zero hs =>
      obtain rfl:=Option.some.inj h2
      rw [bs_xv (s:=⟨1,pe,sq,v,a,b,c⟩) rfl rfl] at h3
      simp only [Result.ok.injEq,Next.value.injEq] at h3
      obtain ⟨_,rfl⟩:=h3
      exact Fr.alloc hs _
    | skip h1 h2 h3 =>
     cases h1 with
     | zero hs =>
      obtain rfl:=Option.some.inj h2
      rw [bs_xv (s:=⟨1,pe,sq,v,a,b,c⟩) rfl rfl] at h3
      simp at h3
   ·cases hR with
    | value h1 h2 h3 =>
     cases h1 with
     | value g1 g2 g3 =>
      cases g1 with
      | zero hs =>
       obtain rfl:=Option.some.inj g2
       obtain rfl:=Option.some.inj h2
       rw [bs_xv (s:=⟨1,pe,sq,v,a,b,c⟩) rfl rfl] at g3
       simp only [Result.ok.injEq,Next.value.injEq] at g3
       obtain ⟨rfl,rfl⟩:=g3
       exact (Fr.alloc hs _).trans (ap_still (y:=⟨1,pe,sq,v,a,b,c⟩) h3 rfl rfl rfl (heap_alloc_new _ _)) (fun _ _ e=>e)
     | skip g1 g2 g3 =>
      cases g1 with
      | zero hs =>
       obtain rfl:=Option.some.inj g2
       rw [bs_xv (s:=⟨1,pe,sq,v,a,b,c⟩) rfl rfl] at g3
       simp at g3
    | skip h1 h2 h3 =>
     cases h1 with
     | value g1 g2 g3 =>
      cases g1 with
      | zero hs =>
       obtain rfl:=Option.some.inj g2
       obtain rfl:=Option.some.inj h2
       rw [bs_xv (s:=⟨1,pe,sq,v,a,b,c⟩) rfl rfl] at g3
       simp only [Result.ok.injEq,Next.value.injEq] at g3
       obtain ⟨rfl,rfl⟩:=g3
       exact (ap_skip (y:=⟨1,pe,sq,v,a,b,c⟩) h3 rfl rfl rfl (heap_alloc_new _ _)).elim
     | skip g1 g2 g3 =>
      cases g1 with
      | zero hs =>
       obtain rfl:=Option.some.inj g2
       rw [bs_xv (s:=⟨1,pe,sq,v,a,b,c⟩) rfl rfl] at g3
       simp at g3
  obtain ⟨d0,d1,d2,d3,d4,d5,d6,df⟩:=(HX2.out.still hst).cells
  have hb:=hst.kept_still HF2.out
  have m0:u.cell? ⟨w.heap.size,0,none⟩=some (.slice none 0 0):=by rw [cell_of_row _ _ _ _ _ _ hb]; rfl
  have hj2:j=1\/j=2\/j=3\/j=5\/j=6\/j=7\/j=8\/j=9:=by simpa using hx
  rcases hj2 with rfl | rfl | rfl | rfl | rfl | rfl | rfl | rfl
  ·obtain rfl:=Option.some.inj ho
   obtain rfl:=Option.some.inj ht
   exact fa_x0 rfl rfl u
  ·obtain rfl:=Option.some.inj ho
   obtain rfl:=Option.some.inj ht
   exact ld_i64 rfl rfl u d0
  ·obtain rfl:=Option.some.inj ho
   obtain rfl:=Option.some.inj ht
   exact sb_one rfl rfl rfl u
  ·obtain rfl:=Option.some.inj ho
   obtain rfl:=Option.some.inj ht
   exact fa_x0 rfl rfl u
  ·obtain rfl:=Option.some.inj ho
   obtain rfl:=Option.some.inj ht
   exact ld_i64 rfl rfl u d0
  ·obtain rfl:=Option.some.inj ho
   obtain rfl:=Option.some.inj ht
   exact sb_one rfl rfl rfl u
  ·obtain rfl:=Option.some.inj ho
   obtain rfl:=Option.some.inj ht
   exact ix_cs rfl rfl rfl u
  ·obtain rfl:=Option.some.inj ho
   obtain rfl:=Option.some.inj ht
   exact ld_cs rfl rfl u m0
 intro w3 h3
 simp only [List.drop_succ_cons,List.drop_zero]
 have A4:=Still.alloc w3 (.cells (xcs ⟨1,pe,sq,v,a,b,c⟩) 60)
 have HY4:Hid ((w3.alloc (.cells (xcs ⟨1,pe,sq,v,a,b,c⟩) 60)).heap[w3.heap.size]?=some (.cells (xcs ⟨1,pe,sq,v,a,b,c⟩) 60 (0,0))):=hid (heap_alloc_new w3 _)
 have HF4:=hid ((h3.trans A4).kept_still HF2.out)
 have HS4:=hid ((HS2.out.trans h3).trans A4)
 have HB4:Hid (w.heap.size<=(w3.alloc (.cells (xcs ⟨1,pe,sq,v,a,b,c⟩) 60)).heap.size):=hid HS4.out.size
 clear h3 A4
 go_wp2_with (
  at_builtin
  refine wpList_appH KX _ rfl _ _ 28 rfl Tryz.underlying28 56 infoX w.heap.size w3.heap.size (.slice none 0 0) [] ⟨1,pe,sq,v,a,b,c⟩ rfl rfl (OwG.nil _ _) HY4.out (by simp) (by simp) HB4.out ?_
  intro v' w' ho' hf'
  have hst:Still (w3.alloc (.cells (xcs ⟨1,pe,sq,v,a,b,c⟩) 60)) w':=hf'.mono (fun k _ e=>by simp [Value.ownBlock] at e)
  have hb:=hst.kept_still HF4.out
  have HFb:=hid hb
  have HSt:=hid (HS4.out.trans hst)
  have HO5:Hid (OwG KX 60 w' w.heap.size v' [⟨1,pe,sq,v,a,b,c⟩]):=hid ho'
  have c0:w'.cell? ⟨w.heap.size,0,none⟩=some (.slice none 0 0):=by rw [cell_of_row _ _ _ _ _ _ hb]; rfl
  have cf:=fun o=>frozen_of_row w' w.heap.size o _ _ hb
  obtain ⟨g',cap',rfl,_,_⟩:=ho'.head (by simp)
  clear hb hst hf' ho')
 refine ⟨rfl, ?_⟩
 go_wp2_with fail
 rw [rounds_succ]
 go_wp2_with fail
 go_ret
 refine ⟨w.heap.size,some ⟨g',0,none⟩,cap',rfl, ?_, ?_, ?_⟩
 ·have h:=heap_setCell_same w' w.heap.size 0 _ _ (.slice (some ⟨g',0,none⟩) 1 cap') HFb.out
  rw [cell_of_row _ _ _ _ _ _ h]
  rfl
 ·exact HO5.out.setO ⟨_,HFb.out⟩ (by decide) _
 ·exact Fr.setCell HSt.out _ _ (.inr (Nat.le_refl _))
theorem nwM_may (st:List (Int × Int)):∀ k i,i<k->May (mm (nwM st k) i)
 | 0,i,h=>by omega
 | k+1,i,h=>by
  have hl:=nwM_len st k
  rw [nwM]
  by_cases e:i=k
  ·subst e
   rw [mm_at (by simp [hl])]
   simp [List.getElem_append_right,hl,may_start]
  ·have hi:i<k:=by omega
   have:=nwM_may st k i hi
   rw [mm_at (by simp [hl]; omega),List.getElem_append_left (by rw [hl]; exact hi)]
   rwa [mm_at (by rw [hl]; exact hi)] at this
theorem good_nw0 {E:Env} {N:Nat} (hs:E.sp.length<=16):Ha.Good N E (nw0 E N):=by
 refine ⟨⟨nwM_len _ _,fun i hi=>nwM_may _ _ i hi,by simp [nw0,nwC],fun i hi=>?_⟩,flo_pw.2 ⟨by simp [nw0],by simp [nw0],by simp [nw0]⟩,by simp [nw0],mayK_pw.2 ⟨⟨by omega,by omega⟩,by simp [nw0],by simp [nw0],by simp [nw0],by simp [nw0]⟩,by simp [nw0],by simp [nw0],by simp [nw0]⟩
 have e:sc (nw0 E N).cs i=zC:=by simp [nw0,nwC,sc,List.getD,hi]
 rw [e]
 exact chkC0.1 (by kernel_rfl)
theorem OwG.sl {α:Type} {K:Kd α} {e:TypeId} {w:World} {B:Nat} {v:Value} {L:List α} (h:OwG K e w B v L) (hm:L.length<=281474976710656):Sl K w v L:=by
 obtain ⟨ao,cap,rfl,_⟩:=h.slice
 refine ⟨ao,cap,rfl,(owG_len h).2,fun e0=>?_,owG_rd h hm⟩
 subst e0
 rcases h.2 with ⟨h1,_⟩ | ⟨g,c,cur,h1,_⟩
 ·injection h1
 ·injection h1 with h2; cases h2
theorem OwW.rd {w:World} {B:Nat} {v:Value} {W:Wd} (h:OwW w B v W) (h1:W.ms.length<=281474976710656) (h2:W.cs.length<=281474976710656) (h3:W.hs.length<=281474976710656) (h4:W.ks.length<=281474976710656):RdW w v W:=by
 obtain ⟨a,b,c,d,rfl,o1,o2,o3,o4⟩:=h
 exact ⟨a,b,c,d,rfl,o1.sl h1,o2.sl h2,o3.sl h3,o4.sl h4⟩
theorem wref_one (N:Nat) (q C R:Int) (s:ByteArray) (lo:Option Addr) (ln lc:Nat) (E:Env) (l:List Int) (w:World) (v0:Int) (Q:Q13 w ⟨(N:Int),q,C,R,s,.slice lo ln lc⟩ v0 E.st E.sp) (D:P13 w ⟨(N:Int),q,C,R,s,.slice lo ln lc⟩ E) (hr:RdI w lo ln lc l) (hc:CfgP (N:Int) v0 E.st.length l) (hs16:E.sp.length<=16) (pe sq cv ca cb cc:Int) (hy:Rgt N ⟨1,pe,sq,cv,ca,cb,cc⟩) (g cap:Nat) (hx:RdG KX w (some ⟨g,0,none⟩) 1 [⟨1,pe,sq,cv,ca,cb,cc⟩]) :
  Calls Tryz.prog 9 #[.agg #[.int .i64 (N:Int),.int .u64 q,.int .i64 C,.int .i64 R,.string s,.slice lo ln lc],.int .i64 1,.slice (some ⟨g,0,none⟩) 1 cap] w fun e w'=>∃ u,e=.returned (.tuple #[u,.int .i64 0])/\OwW w' w.heap.size u (frame E (nw0 E N) [⟨1,pe,sq,cv,ca,cb,cc⟩]).w/\Still w w':=by
 have A0:=Still.alloc w (.cells #[.int .i64 (N:Int),.int .u64 q,.int .i64 C,.int .i64 R,.string s,.slice lo ln lc] 27)
 have A1:=Still.alloc (w.alloc (.cells #[.int .i64 (N:Int),.int .u64 q,.int .i64 C,.int .i64 R,.string s,.slice lo ln lc] 27)) (.cells (wdcs 0 0 (.slice none 0 0) (.slice none 0 0) (.slice none 0 0) (.slice none 0 0)) 35)
 have p0:=(newCf_cb w ⟨(N:Int),q,C,R,s,.slice lo ln lc⟩).still A1
 have z0:=newWd_wb (w.alloc (.cells #[.int .i64 (N:Int),.int .u64 q,.int .i64 C,.int .i64 R,.string s,.slice lo ln lc] 27)) 0 0 (.slice none 0 0) (.slice none 0 0) (.slice none 0 0) (.slice none 0 0)
 rw [size_alloc] at z0
 have HS0:Hid (Still w ((w.alloc (.cells #[.int .i64 (N:Int),.int .u64 q,.int .i64 C,.int .i64 R,.string s,.slice lo ln lc] 27)).alloc (.cells (wdcs 0 0 (.slice none 0 0) (.slice none 0 0) (.slice none 0 0) (.slice none 0 0)) 35))):=hid (A0.trans A1)
 have HP0:Hid (Cfb ((w.alloc (.cells #[.int .i64 (N:Int),.int .u64 q,.int .i64 C,.int .i64 R,.string s,.slice lo ln lc] 27)).alloc (.cells (wdcs 0 0 (.slice none 0 0) (.slice none 0 0) (.slice none 0 0) (.slice none 0 0)) 35)) w.heap.size ⟨(N:Int),q,C,R,s,.slice lo ln lc⟩):=hid p0
 have HZ0:Hid (Wdb ((w.alloc (.cells #[.int .i64 (N:Int),.int .u64 q,.int .i64 C,.int .i64 R,.string s,.slice lo ln lc] 27)).alloc (.cells (wdcs 0 0 (.slice none 0 0) (.slice none 0 0) (.slice none 0 0) (.slice none 0 0)) 35)) (w.heap.size+1) 0 0 (.slice none 0 0) (.slice none 0 0) (.slice none 0 0) (.slice none 0 0)):=hid z0
 have HOp:=hid (open_yes N q C R s lo ln lc E l ((w.alloc (.cells #[.int .i64 (N:Int),.int .u64 q,.int .i64 C,.int .i64 R,.string s,.slice lo ln lc] 27)).alloc (.cells (wdcs 0 0 (.slice none 0 0) (.slice none 0 0) (.slice none 0 0) (.slice none 0 0)) 35)) v0 (Q.still (A0.trans A1)) (hr.still (A0.trans A1)) hc _ _ rfl rfl)
 have HN:=hid (show N<=6/\N<=E.st.length by have:=hc.2.1; have:=hc.2.2.2.1; omega)
 have HD:=hid D
 have HX:=hid hx
 have HY:=hid hy
 have H16:=hid hs16
 obtain ⟨n1,e1⟩:∃ k,E.st.length=k:=⟨_,rfl⟩
 obtain ⟨n2,e2⟩:∃ k,E.sp.length=k:=⟨_,rfl⟩
 rw [e1,e2] at HOp
 clear Q hr hc A0 A1 p0 z0 e1 e2 D hx hy hs16
 obtain ⟨W0,eW0⟩:∃ X,((w.alloc (.cells #[.int .i64 (N:Int),.int .u64 q,.int .i64 C,.int .i64 R,.string s,.slice lo ln lc] 27)).alloc (.cells (wdcs 0 0 (.slice none 0 0) (.slice none 0 0) (.slice none 0 0) (.slice none 0 0)) 35))=X:=⟨_,rfl⟩
 rw [eW0] at HS0 HP0 HZ0 HOp
 obtain ⟨c0,c1,c2,c3,c4,c5,cf⟩:=HP0.out.cells
 go_enter Tryz.func9,Tryz.ntmps9
 go_wp2_with fail
 refine HOp.out.mono ?_
 rintro e w1 ⟨ao,ac,bo,bc,rfl,o1,o2,h1⟩
 have A2:=Still.alloc w1 (.cells #[.int .i64 (N:Int),.int .u64 q,.int .i64 C,.int .i64 R,.string s,.slice lo ln lc,.slice ao n1 ac,.slice bo n2 bc] 68)
 have HS1:Hid (Still w (w1.alloc (.cells #[.int .i64 (N:Int),.int .u64 q,.int .i64 C,.int .i64 R,.string s,.slice lo ln lc,.slice ao n1 ac,.slice bo n2 bc] 68))):=hid ((HS0.out.trans h1).trans A2)
 have HQ1:Hid (Seb (w1.alloc (.cells #[.int .i64 (N:Int),.int .u64 q,.int .i64 C,.int .i64 R,.string s,.slice lo ln lc,.slice ao n1 ac,.slice bo n2 bc] 68)) w1.heap.size ⟨⟨(N:Int),q,C,R,s,.slice lo ln lc⟩,.slice ao n1 ac,.slice bo n2 bc,.slice none 0 0⟩):=hid (heap_alloc_new w1 _)
 have HZ1:Hid (Wdb (w1.alloc (.cells #[.int .i64 (N:Int),.int .u64 q,.int .i64 C,.int .i64 R,.string s,.slice lo ln lc,.slice ao n1 ac,.slice bo n2 bc] 68)) (w.heap.size+1) 0 0 (.slice none 0 0) (.slice none 0 0) (.slice none 0 0) (.slice none 0 0)):=hid ((HZ0.out.still h1).still A2)
 have HO1:Hid (OwG KT 46 (w1.alloc (.cells #[.int .i64 (N:Int),.int .u64 q,.int .i64 C,.int .i64 R,.string s,.slice lo ln lc,.slice ao n1 ac,.slice bo n2 bc] 68)) w.heap.size (.slice ao n1 ac) E.st):=hid ((o1.still A2).less HS0.out.size)
 have HO2:Hid (OwG KT 46 (w1.alloc (.cells #[.int .i64 (N:Int),.int .u64 q,.int .i64 C,.int .i64 R,.string s,.slice lo ln lc,.slice ao n1 ac,.slice bo n2 bc] 68)) w.heap.size (.slice bo n2 bc) E.sp):=hid ((o2.still A2).less HS0.out.size)
 clear eW0 HOp c0 c1 c2 c3 c4 c5 cf o1 o2 h1 A2 HS0 HP0 HZ0
 obtain ⟨W1,eW1⟩:∃ X,w1.alloc (.cells #[.int .i64 (N:Int),.int .u64 q,.int .i64 C,.int .i64 R,.string s,.slice lo ln lc,.slice ao n1 ac,.slice bo n2 bc] 68)=X:=⟨_,rfl⟩
 rw [eW1] at HS1 HQ1 HZ1 HO1 HO2
 obtain ⟨gs,egs⟩:∃ k,w1.heap.size=k:=⟨_,rfl⟩
 rw [egs] at HQ1
 go_wp2_with fail
 refine (within64_ref _).mono ?_
 rintro e w2 ⟨he,hw⟩
 rw [he,hw]
 clear he hw w2
 go_wp2_with fail
 refine (cloneKX_any [⟨1,pe,sq,cv,ca,cb,cc⟩] (some ⟨g,0,none⟩) 1 cap W1 (HX.out.still HS1.out) (fun h=>by cases h) (by omega)).mono ?_
 rintro e w3 ⟨xv1,rfl,ox,h3⟩
 obtain ⟨gx,cx,rfl,_,_⟩:=ox.head (by simp)
 have HOX:=hid ox
 have HS3:=hid (HS1.out.trans h3)
 have HQ3:=hid (HQ1.out.still h3)
 have HZ3:=hid (HZ1.out.still h3)
 have HO3:=hid (HO1.out.still h3)
 have HO4:=hid (HO2.out.still h3)
 clear ox h3 eW1 egs HS1 HQ1 HZ1 HO1 HO2
 obtain ⟨c0,c1,c2,c3,c4,c5,c6,c7,cf⟩:=HQ3.out.cells
 go_wp2_with fail
 refine (xsort_one (some ⟨gx,0,none⟩) cx _ _).mono ?_
 rintro e w4 ⟨he,hw⟩
 rw [he,hw]
 clear he hw w4
 go_wp2_with fail
 refine (mayall_any ⟨⟨(N:Int),q,C,R,s,.slice lo ln lc⟩,.slice ao n1 ac,.slice bo n2 bc,.slice none 0 0⟩ N rfl HN.out.1 [⟨1,pe,sq,cv,ca,cb,cc⟩] (some ⟨gx,0,none⟩) 1 cx w3 (owG_rd HOX.out (by simp))).mono ?_
 rintro e w5 ⟨hb,h5⟩
 obtain rfl:=hb.is_yes (fun i hi=>by
  obtain rfl:i=0:=by simp at hi; omega
  exact ⟨HY.out,fun h=>absurd h (by omega)⟩)
 have HS5:=hid (HS3.out.trans h5)
 have HQ5:=hid (HQ3.out.still h5)
 have HZ5:=hid (HZ3.out.still h5)
 have HO5:=hid (HO3.out.still h5)
 have HO6:=hid (HO4.out.still h5)
 have HOY:=hid (HOX.out.still h5)
 clear hb h5 c0 c1 c2 c3 c4 c5 c6 c7 cf HS3 HQ3 HZ3 HO3 HO4 HOX
 obtain ⟨c0,c1,c2,c3,c4,c5,c6,c7,cf⟩:=HQ5.out.cells
 go_wp2_with fail
 refine (wbegin_any N q C R s lo ln lc ao n1 ac bo n2 bc E w5 w.heap.size HO5.out HN.out.1 HN.out.2).mono ?_
 rintro e w6 ⟨u,rfl,⟨a,b,c,d,rfl,q1,q2,q3,q4⟩,h6⟩
 have HV6:=hid (OwW.rd (show OwW w6 w5.heap.size _ (nw0 E N) from ⟨a,b,c,d,rfl,q1,q2,q3,q4⟩) (by simp [nw0,nwM_len]; have:=HN.out.1; omega) (by simp [nw0,nwC]; have:=HN.out.1; omega) (by simp [nw0]) (by simp [nw0]))
 obtain ⟨xa,ya,rfl,_⟩:=q1.slice
 obtain ⟨xb,yb,rfl,_⟩:=q2.slice
 obtain ⟨xc,yc,rfl,_⟩:=q3.slice
 obtain ⟨xd,yd,rfl,_⟩:=q4.slice
 obtain ⟨m1,f1⟩:∃ k,(nw0 E N).ms.length=k:=⟨_,rfl⟩
 obtain ⟨m2,f2⟩:∃ k,(nw0 E N).cs.length=k:=⟨_,rfl⟩
 obtain ⟨m3,f3⟩:∃ k,(nw0 E N).hs.length=k:=⟨_,rfl⟩
 obtain ⟨m4,f4⟩:∃ k,(nw0 E N).ks.length=k:=⟨_,rfl⟩
 obtain ⟨fr,f5⟩:∃ k,(nw0 E N).fr=k:=⟨_,rfl⟩
 obtain ⟨nx,f6⟩:∃ k,(nw0 E N).nx=k:=⟨_,rfl⟩
 rw [f1,f2,f3,f4,f5,f6] at HV6 ⊢
 have A7:=Still.alloc w6 (.cells (wdcs fr nx (.slice xa m1 ya) (.slice xb m2 yb) (.slice xc m3 yc) (.slice xd m4 yd)) 35)
 have hN7:Wdb (w6.alloc (.cells (wdcs fr nx (.slice xa m1 ya) (.slice xb m2 yb) (.slice xc m3 yc) (.slice xd m4 yd)) 35)) w6.heap.size fr nx (.slice xa m1 ya) (.slice xb m2 yb) (.slice xc m3 yc) (.slice xd m4 yd):=newWd_wb w6 fr nx _ _ _ _
 have h7:=h6.trans A7
 have HB7:=hid HS5.out.size
 have HS7:=hid (HS5.out.trans h7)
 have HQ7:=hid (HQ5.out.still h7)
 have HZ7:=hid (HZ5.out.still h7)
 have HO7:=hid (HO5.out.still h7)
 have HO8:=hid (HO6.out.still h7)
 have HOZ:=hid (HOY.out.still h7)
 have HV7:=hid (HV6.out.still A7)
 have HG7:=hid (show w.heap.size+1<w6.heap.size by have:=block_lt HZ5.out; have:=h6.size; omega)
 clear f1 f2 f3 f4 f5 f6 A7 h6 h7 q1 q2 q3 q4 c0 c1 c2 c3 c4 c5 c6 c7 cf HS5 HQ5 HZ5 HO5 HO6 HOY HV6
 obtain ⟨W7,eW7⟩:∃ X,w6.alloc (.cells (wdcs fr nx (.slice xa m1 ya) (.slice xb m2 yb) (.slice xc m3 yc) (.slice xd m4 yd)) 35)=X:=⟨_,rfl⟩
 rw [eW7] at HS7 HQ7 HZ7 HO7 HO8 HOZ HV7 hN7
 obtain ⟨gw,egw⟩:∃ k,w6.heap.size=k:=⟨_,rfl⟩
 rw [egw] at hN7 HG7
 have HN7:=hid hN7
 clear hN7
 go_wp2_with fail
 refine (byfr_one pe sq cv ca cb cc gx cx W7 _ HOZ.out).mono ?_
 rintro e w8 ⟨gf,co,cc1,rfl,hgf,ho8,h8⟩
 have HS8:=hid (HS7.out.trans h8)
 have HQ8:=hid (HQ7.out.still h8)
 have HZ8:=hid (HZ7.out.still h8)
 have HP8:=hid (HO7.out.still h8)
 have HR8:=hid (HO8.out.still h8)
 have HV8:=hid (HV7.out.still h8)
 have HN8:=hid (HN7.out.still h8)
 have HX8:=hid (owG_rd ho8 (by simp))
 clear ho8 h8 eW7 egw HS7 HQ7 HZ7 HO7 HO8 HOZ HV7 HN7
 obtain ⟨c0,c1,c2,c3,c4,c5,c6,c7,cf⟩:=HQ8.out.cells
 obtain ⟨d0,d1,d2,d3,d4,d5,df⟩:=HN8.out.cells
 have HSt:=hid (wstep_any (N:Int) q C R s lo ln lc ao n1 ac bo n2 bc co 1 cc1 E w8 (HD.out.still HS8.out) w.heap.size (nw0 E N) N [⟨1,pe,sq,cv,ca,cb,cc⟩] HX8.out HP8.out HR8.out HN.out.1 HN.out.2 H16.out (good_nw0 H16.out) (by simp [nw0]) (fun y hy=>by simp at hy; subst hy; exact HY.out) (by omega) _ HV8.out)
 go_wp2_with fail
 refine wp_loop_rounds 2 ?_
 rw [rounds_succ]
 go_wp2_with fail
 refine HSt.out.mono ?_
 rintro e w9 ⟨h9,u,nv,rfl,hW,hnv⟩
 obtain ⟨G,eG⟩:∃ G,frame E (nw0 E N) [⟨1,pe,sq,cv,ca,cb,cc⟩]=G:=⟨_,rfl⟩
 have HG:=hid eG
 rw [eG] at hW hnv
 clear eG
 obtain ⟨a,b,c,d,rfl,q1,q2,q3,q4⟩:=hW
 obtain ⟨ya',yc1,rfl,_⟩:=q1.slice
 obtain ⟨yb',yc2,rfl,_⟩:=q2.slice
 obtain ⟨yc',yc3,rfl,_⟩:=q3.slice
 obtain ⟨yd',yc4,rfl,_⟩:=q4.slice
 obtain ⟨ye',yc5,rfl,_⟩:=hnv.slice
 have HS9:=hid (HS8.out.trans h9)
 have HB9:=hid HS8.out.size
 have HZ9:=hid (HZ8.out.still h9)
 have HN9:=hid (HN8.out.still h9)
 have H1:=hid (q1.less HB9.out)
 have H2:=hid (q2.less HB9.out)
 have H3:=hid (q3.less HB9.out)
 have H4:=hid (q4.less HB9.out)
 obtain ⟨k1,f1⟩:∃ k,G.w.ms.length=k:=⟨_,rfl⟩
 obtain ⟨k2,f2⟩:∃ k,G.w.cs.length=k:=⟨_,rfl⟩
 obtain ⟨k3,f3⟩:∃ k,G.w.hs.length=k:=⟨_,rfl⟩
 obtain ⟨k4,f4⟩:∃ k,G.w.ks.length=k:=⟨_,rfl⟩
 obtain ⟨k5,f5⟩:∃ k,G.ns.length=k:=⟨_,rfl⟩
 obtain ⟨fr',f6⟩:∃ k,G.w.fr=k:=⟨_,rfl⟩
 obtain ⟨nx',f7⟩:∃ k,G.w.nx=k:=⟨_,rfl⟩
 rw [f1,f2,f3,f4,f5,f6,f7]
 rw [f1] at H1
 rw [f2] at H2
 rw [f3] at H3
 rw [f4] at H4
 have HF:=hid (And.intro f6 f7)
 clear q1 q2 q3 q4 hnv h9 c0 c1 c2 c3 c4 c5 c6 c7 cf d0 d1 d2 d3 d4 d5 df f1 f2 f3 f4 f5 f6 f7 HSt HS8 HQ8 HZ8 HP8 HR8 HV8 HN8 HX8 hgf
 obtain ⟨d0,d1,d2,d3,d4,d5,df⟩:=HN9.out.cells
 have ng:w.heap.size+1≠gw:=by have:=HG7.out; omega
 have HM9:=hid (HN9.out.put fr' nx' (.slice ya' k1 yc1) (.slice yb' k2 yc2) (.slice yc' k3 yc3) (.slice yd' k4 yc4))
 have HT9:=hid HN9.out.ty
 have HZ10:=hid ((((((HZ9.out.other (k:=gw) (o:=0) (v:=.int .i64 fr') ng).other (k:=gw) (o:=1) (v:=.slice ya' k1 yc1) ng).other (k:=gw) (o:=2) (v:=.slice yb' k2 yc2) ng).other (k:=gw) (o:=3) (v:=.slice yc' k3 yc3) ng).other (k:=gw) (o:=4) (v:=.slice yd' k4 yc4) ng).other (k:=gw) (o:=5) (v:=.int .i64 nx') ng)
 have HS10:=hid (still_set6 HS9.out (g:=gw) (by have:=HG7.out; omega) (.int .i64 fr') (.slice ya' k1 yc1) (.slice yb' k2 yc2) (.slice yc' k3 yc3) (.slice yd' k4 yc4) (.int .i64 nx'))
 have K1:=hid (H1.out.set6 HT9.out (by decide) (.int .i64 fr') (.slice ya' k1 yc1) (.slice yb' k2 yc2) (.slice yc' k3 yc3) (.slice yd' k4 yc4) (.int .i64 nx'))
 have K2:=hid (H2.out.set6 HT9.out (by decide) (.int .i64 fr') (.slice ya' k1 yc1) (.slice yb' k2 yc2) (.slice yc' k3 yc3) (.slice yd' k4 yc4) (.int .i64 nx'))
 have K3:=hid (H3.out.set6 HT9.out (by decide) (.int .i64 fr') (.slice ya' k1 yc1) (.slice yb' k2 yc2) (.slice yc' k3 yc3) (.slice yd' k4 yc4) (.int .i64 nx'))
 have K4:=hid (H4.out.set6 HT9.out (by decide) (.int .i64 fr') (.slice ya' k1 yc1) (.slice yb' k2 yc2) (.slice yc' k3 yc3) (.slice yd' k4 yc4) (.int .i64 nx'))
 obtain ⟨W9,eW9⟩:∃ X,((((((w9.setCell ⟨gw,0,none⟩ (.int .i64 fr')).setCell ⟨gw,1,none⟩ (.slice ya' k1 yc1)).setCell ⟨gw,2,none⟩ (.slice yb' k2 yc2)).setCell ⟨gw,3,none⟩ (.slice yc' k3 yc3)).setCell ⟨gw,4,none⟩ (.slice yd' k4 yc4)).setCell ⟨gw,5,none⟩ (.int .i64 nx'))=X:=⟨_,rfl⟩
 rw [eW9] at HM9 HZ10 HS10 K1 K2 K3 K4
 obtain ⟨y0,y1,y2,y3,y4,y5,yf⟩:=HM9.out.cells
 obtain ⟨z0,z1,z2,z3,z4,z5,zf⟩:=HZ10.out.cells
 clear HN9 HZ9 HS9 H1 H2 H3 H4 HT9
 go_wp2_with fail
 rw [rounds_succ]
 clear d0 d1 d2 d3 d4 d5 df eW9
 go_wp2_with fail
 have ty:=HZ10.out.ty
 refine bodyPost_ret (Wdb.res2 (HZ10.out.put fr' nx' _ _ _ _) rfl _ _ rfl rfl) rfl ⟨_,rfl, ?_,still_set6 HS10.out (by omega) _ _ _ _ _ _⟩
 rw [HG.out]
 exact ⟨_,_,_,_,by rw [HF.out.1,HF.out.2],K1.out.set6 ty (by decide) _ _ _ _ _ _,K2.out.set6 ty (by decide) _ _ _ _ _ _,K3.out.set6 ty (by decide) _ _ _ _ _ _,K4.out.set6 ty (by decide) _ _ _ _ _ _⟩
end Go.Proofs.YtlibdheihodniaaGreatDoor
