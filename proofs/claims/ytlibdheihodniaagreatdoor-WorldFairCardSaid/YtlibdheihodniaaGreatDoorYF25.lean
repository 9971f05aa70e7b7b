/- Parts of the proof, laid end to end. -/
import Derived.Test.YtlibdheihodniaaGreatDoorYF08
import Derived.Test.YtlibdheihodniaaGreatDoorYF02
import Derived.Test.YtlibdheihodniaaGreatDoorYF01
import Derived.Test.YtlibdheihodniaaGreatDoorYF19
import Derived.Test.YtlibdheihodniaaGreatDoorYF11
set_option maxHeartbeats 4000000
namespace Go.Proofs.YtlibdheihodniaaGreatDoor
open Go.RowKit
open Pu Gp Ap Vp Np Za Ka Ja
set_option maxRecDepth 100000
theorem c1280:clampf 1280 0 2147483647=1280:=by decide
theorem c768:clampf 768 0 2147483647=768:=by decide
theorem hplays_any (m:Mv) (w:World):Calls Tryz.prog 149 #[mv m] w fun e w'=>e=.returned (.bool (m.ou == 0))/\Still w w':=by
 have HS:=hid (Still.alloc w (.cells (mcs m) 48))
 obtain ⟨c0,c1,c2,c3,c4,c5,c6,c7,c8,c9,c10,c11,c12,cf⟩:=(newM_mb w m).cells
 go_enter Tryz.func149,Tryz.ntmps149
 go_wp2_with fail
 go_ret
 exact ⟨rfl,HS.out⟩
theorem hmay_any (m:Mv) (w:World):Calls Tryz.prog 148 #[mv m] w fun e w'=>e=.returned (.bool (mayB m))/\Still w w':=by
 have HS:=hid (Still.alloc w (.cells (mcs m) 48))
 have HC:=hid (fun w=>check8_any m w)
 unfold chkM at HC
 obtain ⟨c0,c1,c2,c3,c4,c5,c6,c7,c8,c9,c10,c11,c12,cf⟩:=(newM_mb w m).cells
 cases hb:mayB m with
 | true =>
  rw [hb] at HC
  clear hb
  go_enter Tryz.func148,Tryz.ntmps148
  go_wp2_with fail
  refine (HC.out _).mono ?_
  rintro e w1 ⟨rfl,h1⟩
  have HS1:=hid (HS.out.trans h1)
  clear h1 HS HC c0 c1 c2 c3 c4 c5 c6 c7 c8 c9 c10 c11 c12 cf
  go_wp2_with fail
  go_ret
  exact ⟨rfl,HS1.out⟩
 | false =>
  rw [hb] at HC
  clear hb
  go_enter Tryz.func148,Tryz.ntmps148
  go_wp2_with fail
  refine (HC.out _).mono ?_
  rintro e w1 ⟨rfl,h1⟩
  have HS1:=hid (HS.out.trans h1)
  clear h1 HS HC c0 c1 c2 c3 c4 c5 c6 c7 c8 c9 c10 c11 c12 cf
  go_wp2_with fail
  go_ret
  exact ⟨rfl,HS1.out⟩
theorem hbody_any (m:Mv) (w:World):Calls Tryz.prog 147 #[mv m] w fun e w'=>e=.returned (bx (subf m.ax 1280) (subf m.ay 1280) (addf m.ax 1280) (addf m.ay 1280))/\Still w w':=by
 have A0:=Still.alloc w (.cells (mcs m) 48)
 have A1:=Still.alloc (newM w m) (.cells #[.int .i64 0,.int .i64 0,.int .i64 0,.int .i64 0] 215)
 have p0:=(newM_mb w m).still A1
 have q0:=newB_bb (newM w m) 0 0 0 0
 simp only [size_alloc] at q0
 have HS0:=hid (A0.trans A1)
 have HA:=hid (fun w=>around_any m.ax m.ay 1280 w)
 rw [c1280] at HA
 obtain ⟨x,ex⟩:∃ x,subf m.ax 1280=x:=⟨_,rfl⟩
 obtain ⟨y,ey⟩:∃ x,subf m.ay 1280=x:=⟨_,rfl⟩
 obtain ⟨z,ez⟩:∃ x,addf m.ax 1280=x:=⟨_,rfl⟩
 obtain ⟨u,eu⟩:∃ x,addf m.ay 1280=x:=⟨_,rfl⟩
 rw [ex,ey,ez,eu] at HA ⊢
 clear A0 A1 ex ey ez eu
 obtain ⟨c0,c1,c2,c3,c4,c5,c6,c7,c8,c9,c10,c11,c12,cf⟩:=p0.cells
 go_enter Tryz.func147,Tryz.ntmps147
 go_wp2_with fail
 refine (HA.out _).mono ?_
 rintro e w1 ⟨rfl,h1⟩
 have q1:=q0.still h1
 have HS1:=hid (HS0.out.trans h1)
 clear h1 HS0 p0 q0 c0 c1 c2 c3 c4 c5 c6 c7 c8 c9 c10 c11 c12 cf HA
 obtain ⟨k0,k1,k2,k3,kf⟩:=q1.cells
 go_wp2_with fail
 refine bodyPost_ret ((q1.set x y z u).res rfl _ rfl) rfl ⟨rfl, ?_⟩
 repeat (first | refine setC_fr ?_ _ _ _ (by omega) | with_reducible exact HS1.out)
theorem htog_any (L:List Mv) (ao:Option Addr) (n cap:Nat) (w:World) (hr:RdG KM w ao n L):Calls Tryz.prog 144 #[.slice ao n cap] w fun e w'=>e=.returned (.bool (togB L))/\Still w w':=by
 have HL:=hid hr.1
 have HR:=hid hr
 by_cases h6:6<n
 ·have HE:Hid (togB L=false):=hid (by
   cases e:togB L with
   | false=>rfl
   | true=>have:=(togB_iff.1 e).1; rw [HL.out] at this; omega)
  have h6':(n:Int) > 6:=by omega
  clear hr
  go_enter Tryz.func144,Tryz.ntmps144
  go_wp2_with fail
  go_ret
  exact ⟨by rw [HE.out]; rfl,Fr.refl _ _⟩
 ·have h6':decide ((6:Int)<(n:Int))=false:=by simp; omega
  have hn6:n<=6:=by omega
  clear hr h6
  go_enter Tryz.func144,Tryz.ntmps144
  go_wp2_with fail
  clear h6'
  go_loopw [10] (fun u wr=>∃ k:Nat,k<=n/\u=.int .i64 (k:Int)/\Hid (∀ i,i<k->mayB (mm L i)=true)/\Still w wr) (fun u _=>n - (intOf u).toNat)
  case atStart=>exact ⟨0,by omega,rfl,hid (fun i hi=>by omega),Fr.refl _ _⟩
  case round =>
   obtain ⟨k,hk,rfl,HF,hs⟩:=hrel
   have HS:=hid hs
   by_cases hkn:k<n
   ·have hlt:(k:Int)<(n:Int):=by omega
    obtain ⟨B,o,rfl⟩:=(HR.out.still HS.out).at (by omega)
    obtain ⟨c0,c1,c2,c3,c4,c5,c6,c7,c8,c9,c10,c11,c12⟩:=rdM (HR.out.still HS.out) hkn
    have HM:=hid (fun w=>hmay_any (mm L k) w)
    have HNo:=hid (fun h=>togB_no (L:=L) (i:=k) (by rw [HL.out]; exact hkn) h)
    have HYes:=hid (show mayB (mm L k)=true->∀ i,i<k+1->mayB (mm L i)=true from fun h i hi=>by
     by_cases e:i=k
     ·subst e; exact h
     ·exact HF.out i (by omega))
    obtain ⟨x,ex⟩:∃ x,mm L k=x:=⟨_,rfl⟩
    rw [ex] at c0 c1 c2 c3 c4 c5 c6 c7 c8 c9 c10 c11 c12 HM HNo HYes
    obtain ⟨b,eb⟩:∃ b,mayB x=b:=⟨_,rfl⟩
    rw [eb] at HM HNo HYes
    clear ex eb
    have HS1:=hid (hs.trans (Still.alloc wr (.cells (mcs x) 48)))
    obtain ⟨d0,d1,d2,d3,d4,d5,d6,d7,d8,d9,d10,d11,d12,df⟩:=(newM_mb wr x).cells
    clear hs HS
    go_wp2_with fail
    refine (HM.out _).mono ?_
    rintro e w2 ⟨rfl,h2⟩
    have HS2:=hid (HS1.out.trans h2)
    clear h2 HS1 c0 c1 c2 c3 c4 c5 c6 c7 c8 c9 c10 c11 c12 HM d0 d1 d2 d3 d4 d5 d6 d7 d8 d9 d10 d11 d12 df
    cases b with
    | true =>
     have HY:=hid (HYes.out rfl)
     clear HYes HNo
     go_wp2_with fail
     go_roundw
     case rel=>exact ⟨k+1,by omega,by go_num,HY,HS2.out⟩
     case measure=>simp [intOf]; omega
    | false =>
     have HN:=hid (HNo.out rfl)
     clear HYes HNo
     go_wp2_with fail
     (first | rw [Exit.noGoto_ret] | skip)
     go_ret
     exact ⟨by rw [HN.out]; rfl,HS2.out⟩
   ·have hge:¬ (k:Int)<(n:Int):=by omega
    have HE:Hid (togB L=true):=hid (togB_iff.2 ⟨by rw [HL.out]; exact hn6,fun i hi=>HF.out i (by have:=HL.out; omega)⟩)
    clear hkn hk hs
    go_wp2_with fail
    go_ret
    exact ⟨by rw [HE.out]; rfl,HS.out⟩
theorem Mb.others {w:World} {g k:Nat} {m:Mv} (h:Mb w g m) (hk:g≠k) (ax:Int) (ay:Int) (sx:Int) (sy:Int) (px:Int) (py:Int) (fc:Int) (hl:Int) (en:Int) (sh:Bool) (co:Int) (ou:Int) (sd:Int):Mb (((((((((((((w.setCell ⟨k,0,none⟩ (.int .i64 ax)).setCell ⟨k,1,none⟩ (.int .i64 ay)).setCell ⟨k,2,none⟩ (.int .i64 sx)).setCell ⟨k,3,none⟩ (.int .i64 sy)).setCell ⟨k,4,none⟩ (.int .i64 px)).setCell ⟨k,5,none⟩ (.int .i64 py)).setCell ⟨k,6,none⟩ (.int .i64 fc)).setCell ⟨k,7,none⟩ (.int .i64 hl)).setCell ⟨k,8,none⟩ (.int .i64 en)).setCell ⟨k,9,none⟩ (.bool sh)).setCell ⟨k,10,none⟩ (.int .i64 co)).setCell ⟨k,11,none⟩ (.int .i64 ou)).setCell ⟨k,12,none⟩ (.int .i64 sd)) g m:=by
 have h1:=h.other k 0 (.int .i64 ax) hk
 have h2:=h1.other k 1 (.int .i64 ay) hk
 have h3:=h2.other k 2 (.int .i64 sx) hk
 have h4:=h3.other k 3 (.int .i64 sy) hk
 have h5:=h4.other k 4 (.int .i64 px) hk
 have h6:=h5.other k 5 (.int .i64 py) hk
 have h7:=h6.other k 6 (.int .i64 fc) hk
 have h8:=h7.other k 7 (.int .i64 hl) hk
 have h9:=h8.other k 8 (.int .i64 en) hk
 have h10:=h9.other k 9 (.bool sh) hk
 have h11:=h10.other k 10 (.int .i64 co) hk
 have h12:=h11.other k 11 (.int .i64 ou) hk
 have h13:=h12.other k 12 (.int .i64 sd) hk
 exact h13
theorem Mb.sp {w:World} {g:Nat} {m:Mv} (h:Mb w g m) (x y:Int):Mb ((w.setCell ⟨g,2,none⟩ (.int .i64 x)).setCell ⟨g,3,none⟩ (.int .i64 y)) g { m with sx:=x,sy:=y }:=by
 have h1:=heap_setCell_same w g 2 _ _ (.int .i64 x) h
 have h2:=heap_setCell_same _ g 3 _ _ (.int .i64 y) h1
 exact h2.trans (by kernel_rfl)
theorem results_cct {fn:Func} {p q r:Tmp} {w:World} {g k:Nat} {a b:Mv} (ha:Mb w g a) (hb:Mb w k b) (h:fn.results=#[.cell p 48,.cell q 48,.tmp r]) (tmps:Array Value) (t:Value) (hp:tmps.getD p undef=.pointer (some ⟨g,0,none⟩)) (hq:tmps.getD q undef=.pointer (some ⟨k,0,none⟩)) (hr:tmps.getD r undef=t) :
  (results fn tmps).run Tryz.prog w=.ok (.tuple #[mv a,mv b,t]) w:=by
 have hp':tmps[p]?.getD undef=.pointer (some ⟨g,0,none⟩):=by simpa using hp
 have hq':tmps[q]?.getD undef=.pointer (some ⟨k,0,none⟩):=by simpa using hq
 have hr':tmps[r]?.getD undef=t:=by simpa using hr
 simp [results,h,hp',hq',hr',asAddr,ha.load,hb.load]
theorem hapart_no1 (a b:Mv) (ha:mayB a=false) (w:World):Calls Tryz.prog 105 #[mv a,mv b] w fun e w'=>e=.returned (.tuple #[mv zM,mv zM,.int .i64 110])/\Still w w':=by
 have A0:=Still.alloc w (.cells (mcs a) 48)
 have A1:=Still.alloc (newM w a) (.cells (mcs b) 48)
 have A2:=Still.alloc (newM (newM w a) b) (.cells (mcs zM) 48)
 have A3:=Still.alloc (newM (newM (newM w a) b) zM) (.cells (mcs zM) 48)
 have p0:=((newM_mb w a).still A1).still A2 |>.still A3
 have q0:=((newM_mb (newM w a) b).still A2).still A3
 have r0:=(newM_mb (newM (newM w a) b) zM).still A3
 have s0:=newM_mb (newM (newM (newM w a) b) zM) zM
 simp only [size_alloc] at q0 r0 s0
 have HS0:=hid (((A0.trans A1).trans A2).trans A3)
 have HMa:=hid (fun w=>hmay_any a w)
 have HMb:=hid (fun w=>hmay_any b w)
 clear A0 A1 A2 A3
 rw [ha] at HMa
 clear ha
 obtain ⟨c0,c1,c2,c3,c4,c5,c6,c7,c8,c9,c10,c11,c12,cf⟩:=p0.cells
 obtain ⟨d0,d1,d2,d3,d4,d5,d6,d7,d8,d9,d10,d11,d12,df⟩:=q0.cells
 go_enter Tryz.func105,Tryz.ntmps105
 go_wp2_with fail
 refine (HMa.out _).mono ?_
 rintro e w1 ⟨rfl,h1⟩
 have p1:=p0.still h1
 have q1:=q0.still h1
 have r1:=r0.still h1
 have s1:=s0.still h1
 have HS1:=hid (HS0.out.trans h1)
 clear h1 HS0 p0 q0 r0 s0 HMa c0 c1 c2 c3 c4 c5 c6 c7 c8 c9 c10 c11 c12 cf d0 d1 d2 d3 d4 d5 d6 d7 d8 d9 d10 d11 d12 df
 obtain ⟨c0,c1,c2,c3,c4,c5,c6,c7,c8,c9,c10,c11,c12,cf⟩:=p1.cells
 obtain ⟨d0,d1,d2,d3,d4,d5,d6,d7,d8,d9,d10,d11,d12,df⟩:=q1.cells
 obtain ⟨k0,k1,k2,k3,k4,k5,k6,k7,k8,k9,k10,k11,k12,kf⟩:=r1.cells
 obtain ⟨l0,l1,l2,l3,l4,l5,l6,l7,l8,l9,l10,l11,l12,lf⟩:=s1.cells
 go_wp2_with fail
 refine bodyPost_ret (results_cct ((r1.put _ _ _ _ _ _ _ _ _ _ _ _ _ ).others (k:=w.heap.size+1+1+1) (by omega) _ _ _ _ _ _ _ _ _ _ _ _ _ ) ((s1.others (k:=w.heap.size+1+1) (by omega) _ _ _ _ _ _ _ _ _ _ _ _ _ ).put _ _ _ _ _ _ _ _ _ _ _ _ _ ) rfl _ _ rfl rfl rfl) rfl ⟨rfl, ?_⟩
 repeat (first | refine setC_fr ?_ _ _ _ (by omega) | with_reducible exact HS1.out)
theorem hapart_no2 (a b:Mv) (ha:mayB a=true) (hb:mayB b=false) (w:World):Calls Tryz.prog 105 #[mv a,mv b] w fun e w'=>e=.returned (.tuple #[mv zM,mv zM,.int .i64 110])/\Still w w':=by
 have A0:=Still.alloc w (.cells (mcs a) 48)
 have A1:=Still.alloc (newM w a) (.cells (mcs b) 48)
 have A2:=Still.alloc (newM (newM w a) b) (.cells (mcs zM) 48)
 have A3:=Still.alloc (newM (newM (newM w a) b) zM) (.cells (mcs zM) 48)
 have p0:=((newM_mb w a).still A1).still A2 |>.still A3
 have q0:=((newM_mb (newM w a) b).still A2).still A3
 have r0:=(newM_mb (newM (newM w a) b) zM).still A3
 have s0:=newM_mb (newM (newM (newM w a) b) zM) zM
 simp only [size_alloc] at q0 r0 s0
 have HS0:=hid (((A0.trans A1).trans A2).trans A3)
 have HMa:=hid (fun w=>hmay_any a w)
 have HMb:=hid (fun w=>hmay_any b w)
 clear A0 A1 A2 A3
 rw [ha] at HMa
 rw [hb] at HMb
 clear ha hb
 obtain ⟨c0,c1,c2,c3,c4,c5,c6,c7,c8,c9,c10,c11,c12,cf⟩:=p0.cells
 obtain ⟨d0,d1,d2,d3,d4,d5,d6,d7,d8,d9,d10,d11,d12,df⟩:=q0.cells
 go_enter Tryz.func105,Tryz.ntmps105
 go_wp2_with fail
 refine (HMa.out _).mono ?_
 rintro e w1 ⟨rfl,h1⟩
 have p1:=p0.still h1
 have q1:=q0.still h1
 have r1:=r0.still h1
 have s1:=s0.still h1
 have HS1:=hid (HS0.out.trans h1)
 clear h1 HS0 p0 q0 r0 s0 HMa c0 c1 c2 c3 c4 c5 c6 c7 c8 c9 c10 c11 c12 cf d0 d1 d2 d3 d4 d5 d6 d7 d8 d9 d10 d11 d12 df
 obtain ⟨c0,c1,c2,c3,c4,c5,c6,c7,c8,c9,c10,c11,c12,cf⟩:=p1.cells
 obtain ⟨d0,d1,d2,d3,d4,d5,d6,d7,d8,d9,d10,d11,d12,df⟩:=q1.cells
 go_wp2_with fail
 refine (HMb.out _).mono ?_
 rintro e w2 ⟨rfl,h2⟩
 have p2:=p1.still h2
 have q2:=q1.still h2
 have r2:=r1.still h2
 have s2:=s1.still h2
 have HS2:=hid (HS1.out.trans h2)
 clear h2 HS1 p1 q1 r1 s1 HMb c0 c1 c2 c3 c4 c5 c6 c7 c8 c9 c10 c11 c12 cf d0 d1 d2 d3 d4 d5 d6 d7 d8 d9 d10 d11 d12 df
 obtain ⟨c0,c1,c2,c3,c4,c5,c6,c7,c8,c9,c10,c11,c12,cf⟩:=p2.cells
 obtain ⟨d0,d1,d2,d3,d4,d5,d6,d7,d8,d9,d10,d11,d12,df⟩:=q2.cells
 obtain ⟨k0,k1,k2,k3,k4,k5,k6,k7,k8,k9,k10,k11,k12,kf⟩:=r2.cells
 obtain ⟨l0,l1,l2,l3,l4,l5,l6,l7,l8,l9,l10,l11,l12,lf⟩:=s2.cells
 go_wp2_with fail
 refine bodyPost_ret (results_cct ((r2.put _ _ _ _ _ _ _ _ _ _ _ _ _ ).others (k:=w.heap.size+1+1+1) (by omega) _ _ _ _ _ _ _ _ _ _ _ _ _ ) ((s2.others (k:=w.heap.size+1+1) (by omega) _ _ _ _ _ _ _ _ _ _ _ _ _ ).put _ _ _ _ _ _ _ _ _ _ _ _ _ ) rfl _ _ rfl rfl rfl) rfl ⟨rfl, ?_⟩
 repeat (first | refine setC_fr ?_ _ _ _ (by omega) | with_reducible exact HS2.out)
theorem hapart_out1 (a b:Mv) (ha:mayB a=true) (hb:mayB b=true) (ho:(a.ou == 0)=false) (w:World):Calls Tryz.prog 105 #[mv a,mv b] w fun e w'=>e=.returned (.tuple #[mv a,mv b,.int .i64 0])/\Still w w':=by
 have A0:=Still.alloc w (.cells (mcs a) 48)
 have A1:=Still.alloc (newM w a) (.cells (mcs b) 48)
 have A2:=Still.alloc (newM (newM w a) b) (.cells (mcs zM) 48)
 have A3:=Still.alloc (newM (newM (newM w a) b) zM) (.cells (mcs zM) 48)
 have p0:=((newM_mb w a).still A1).still A2 |>.still A3
 have q0:=((newM_mb (newM w a) b).still A2).still A3
 have r0:=(newM_mb (newM (newM w a) b) zM).still A3
 have s0:=newM_mb (newM (newM (newM w a) b) zM) zM
 simp only [size_alloc] at q0 r0 s0
 have HS0:=hid (((A0.trans A1).trans A2).trans A3)
 have HMa:=hid (fun w=>hmay_any a w)
 have HMb:=hid (fun w=>hmay_any b w)
 clear A0 A1 A2 A3
 have HPa:=hid (fun w=>hplays_any a w)
 rw [ha] at HMa
 rw [hb] at HMb
 rw [ho] at HPa
 clear ha hb ho
 obtain ⟨c0,c1,c2,c3,c4,c5,c6,c7,c8,c9,c10,c11,c12,cf⟩:=p0.cells
 obtain ⟨d0,d1,d2,d3,d4,d5,d6,d7,d8,d9,d10,d11,d12,df⟩:=q0.cells
 go_enter Tryz.func105,Tryz.ntmps105
 go_wp2_with fail
 refine (HMa.out _).mono ?_
 rintro e w1 ⟨rfl,h1⟩
 have p1:=p0.still h1
 have q1:=q0.still h1
 have r1:=r0.still h1
 have s1:=s0.still h1
 have HS1:=hid (HS0.out.trans h1)
 clear h1 HS0 p0 q0 r0 s0 HMa c0 c1 c2 c3 c4 c5 c6 c7 c8 c9 c10 c11 c12 cf d0 d1 d2 d3 d4 d5 d6 d7 d8 d9 d10 d11 d12 df
 obtain ⟨c0,c1,c2,c3,c4,c5,c6,c7,c8,c9,c10,c11,c12,cf⟩:=p1.cells
 obtain ⟨d0,d1,d2,d3,d4,d5,d6,d7,d8,d9,d10,d11,d12,df⟩:=q1.cells
 go_wp2_with fail
 refine (HMb.out _).mono ?_
 rintro e w2 ⟨rfl,h2⟩
 have p2:=p1.still h2
 have q2:=q1.still h2
 have r2:=r1.still h2
 have s2:=s1.still h2
 have HS2:=hid (HS1.out.trans h2)
 clear h2 HS1 p1 q1 r1 s1 HMb c0 c1 c2 c3 c4 c5 c6 c7 c8 c9 c10 c11 c12 cf d0 d1 d2 d3 d4 d5 d6 d7 d8 d9 d10 d11 d12 df
 obtain ⟨c0,c1,c2,c3,c4,c5,c6,c7,c8,c9,c10,c11,c12,cf⟩:=p2.cells
 obtain ⟨d0,d1,d2,d3,d4,d5,d6,d7,d8,d9,d10,d11,d12,df⟩:=q2.cells
 go_wp2_with fail
 refine (HPa.out _).mono ?_
 rintro e w3 ⟨rfl,h3⟩
 have p3:=p2.still h3
 have q3:=q2.still h3
 have r3:=r2.still h3
 have s3:=s2.still h3
 have HS3:=hid (HS2.out.trans h3)
 clear h3 HS2 p2 q2 r2 s2 HPa c0 c1 c2 c3 c4 c5 c6 c7 c8 c9 c10 c11 c12 cf d0 d1 d2 d3 d4 d5 d6 d7 d8 d9 d10 d11 d12 df
 obtain ⟨c0,c1,c2,c3,c4,c5,c6,c7,c8,c9,c10,c11,c12,cf⟩:=p3.cells
 obtain ⟨d0,d1,d2,d3,d4,d5,d6,d7,d8,d9,d10,d11,d12,df⟩:=q3.cells
 obtain ⟨k0,k1,k2,k3,k4,k5,k6,k7,k8,k9,k10,k11,k12,kf⟩:=r3.cells
 obtain ⟨l0,l1,l2,l3,l4,l5,l6,l7,l8,l9,l10,l11,l12,lf⟩:=s3.cells
 go_upto_region 5 with fail
 have hdr:Still w3 w3.drew:=(Fr.refl _ w3).drew
 have p7:=p3.still hdr
 have q7:=q3.still hdr
 have r7:=r3.still hdr
 have s7:=s3.still hdr
 have HS7:=hid (HS3.out.trans hdr)
 obtain ⟨W7,eW7⟩:∃ W,w3.drew=W:=⟨_,rfl⟩
 rw [eW7] at p7 q7 r7 s7 HS7
 clear hdr c0 c1 c2 c3 c4 c5 c6 c7 c8 c9 c10 c11 c12 cf d0 d1 d2 d3 d4 d5 d6 d7 d8 d9 d10 d11 d12 df k0 k1 k2 k3 k4 k5 k6 k7 k8 k9 k10 k11 k12 kf
 (try clear l0 l1 l2 l3 l4 l5 l6 l7 l8 l9 l10 l11 l12 lf)
 obtain ⟨c0,c1,c2,c3,c4,c5,c6,c7,c8,c9,c10,c11,c12,cf⟩:=p7.cells
 obtain ⟨d0,d1,d2,d3,d4,d5,d6,d7,d8,d9,d10,d11,d12,df⟩:=q7.cells
 obtain ⟨k0,k1,k2,k3,k4,k5,k6,k7,k8,k9,k10,k11,k12,kf⟩:=r7.cells
 have r8:=r7.put (a.ax) (a.ay) (a.sx) (a.sy) (a.px) (a.py) (a.fc) (a.hl) (a.en) (a.sh) (a.co) (a.ou) (a.sd)
 have s8:=s7.others (k:=w.heap.size+1+1) (by omega) (a.ax) (a.ay) (a.sx) (a.sy) (a.px) (a.py) (a.fc) (a.hl) (a.en) (a.sh) (a.co) (a.ou) (a.sd)
 have q8:=q7.others (k:=w.heap.size+1+1) (by omega) (a.ax) (a.ay) (a.sx) (a.sy) (a.px) (a.py) (a.fc) (a.hl) (a.en) (a.sh) (a.co) (a.ou) (a.sd)
 have HS8:=hid (setC_fr (setC_fr (setC_fr (setC_fr (setC_fr (setC_fr (setC_fr (setC_fr (setC_fr (setC_fr (setC_fr (setC_fr (setC_fr (HS7.out) (w.heap.size+1+1) 0 (.int .i64 a.ax) (by omega)) (w.heap.size+1+1) 1 (.int .i64 a.ay) (by omega)) (w.heap.size+1+1) 2 (.int .i64 a.sx) (by omega)) (w.heap.size+1+1) 3 (.int .i64 a.sy) (by omega)) (w.heap.size+1+1) 4 (.int .i64 a.px) (by omega)) (w.heap.size+1+1) 5 (.int .i64 a.py) (by omega)) (w.heap.size+1+1) 6 (.int .i64 a.fc) (by omega)) (w.heap.size+1+1) 7 (.int .i64 a.hl) (by omega)) (w.heap.size+1+1) 8 (.int .i64 a.en) (by omega)) (w.heap.size+1+1) 9 (.bool a.sh) (by omega)) (w.heap.size+1+1) 10 (.int .i64 a.co) (by omega)) (w.heap.size+1+1) 11 (.int .i64 a.ou) (by omega)) (w.heap.size+1+1) 12 (.int .i64 a.sd) (by omega))
 obtain ⟨W8,eW8⟩:∃ W,(((((((((((((W7.setCell ⟨w.heap.size+1+1,0,none⟩ (.int .i64 a.ax)).setCell ⟨w.heap.size+1+1,1,none⟩ (.int .i64 a.ay)).setCell ⟨w.heap.size+1+1,2,none⟩ (.int .i64 a.sx)).setCell ⟨w.heap.size+1+1,3,none⟩ (.int .i64 a.sy)).setCell ⟨w.heap.size+1+1,4,none⟩ (.int .i64 a.px)).setCell ⟨w.heap.size+1+1,5,none⟩ (.int .i64 a.py)).setCell ⟨w.heap.size+1+1,6,none⟩ (.int .i64 a.fc)).setCell ⟨w.heap.size+1+1,7,none⟩ (.int .i64 a.hl)).setCell ⟨w.heap.size+1+1,8,none⟩ (.int .i64 a.en)).setCell ⟨w.heap.size+1+1,9,none⟩ (.bool a.sh)).setCell ⟨w.heap.size+1+1,10,none⟩ (.int .i64 a.co)).setCell ⟨w.heap.size+1+1,11,none⟩ (.int .i64 a.ou)).setCell ⟨w.heap.size+1+1,12,none⟩ (.int .i64 a.sd))=W:=⟨_,rfl⟩
 rw [eW8] at r8 s8 q8 HS8
 obtain ⟨e0,e1,e2,e3,e4,e5,e6,e7,e8,e9,e10,e11,e12,ef⟩:=q8.cells
 obtain ⟨g0,g1,g2,g3,g4,g5,g6,g7,g8,g9,g10,g11,g12,gf⟩:=s8.cells
 go_region
 all_goals
  go_wp2_with fail
  (try simp only [Exit.inBlock,Exit.then])
  refine bodyPost_ret (results_cct (r8.others (k:=w.heap.size+1+1+1) (by omega) _ _ _ _ _ _ _ _ _ _ _ _ _ ) (s8.put _ _ _ _ _ _ _ _ _ _ _ _ _ ) rfl _ _ rfl rfl rfl) rfl ⟨rfl, ?_⟩
  repeat (first | refine setC_fr ?_ _ _ _ (by omega) | with_reducible exact HS8.out)
theorem hapart_out2 (a b:Mv) (ha:mayB a=true) (hb:mayB b=true) (ho:(a.ou == 0)=true) (ho2:(b.ou == 0)=false) (w:World):Calls Tryz.prog 105 #[mv a,mv b] w fun e w'=>e=.returned (.tuple #[mv a,mv b,.int .i64 0])/\Still w w':=by
 have A0:=Still.alloc w (.cells (mcs a) 48)
 have A1:=Still.alloc (newM w a) (.cells (mcs b) 48)
 have A2:=Still.alloc (newM (newM w a) b) (.cells (mcs zM) 48)
 have A3:=Still.alloc (newM (newM (newM w a) b) zM) (.cells (mcs zM) 48)
 have p0:=((newM_mb w a).still A1).still A2 |>.still A3
 have q0:=((newM_mb (newM w a) b).still A2).still A3
 have r0:=(newM_mb (newM (newM w a) b) zM).still A3
 have s0:=newM_mb (newM (newM (newM w a) b) zM) zM
 simp only [size_alloc] at q0 r0 s0
 have HS0:=hid (((A0.trans A1).trans A2).trans A3)
 have HMa:=hid (fun w=>hmay_any a w)
 have HMb:=hid (fun w=>hmay_any b w)
 clear A0 A1 A2 A3
 have HPa:=hid (fun w=>hplays_any a w)
 have HPb:=hid (fun w=>hplays_any b w)
 rw [ha] at HMa
 rw [hb] at HMb
 rw [ho] at HPa
 rw [ho2] at HPb
 clear ha hb ho ho2
 obtain ⟨c0,c1,c2,c3,c4,c5,c6,c7,c8,c9,c10,c11,c12,cf⟩:=p0.cells
 obtain ⟨d0,d1,d2,d3,d4,d5,d6,d7,d8,d9,d10,d11,d12,df⟩:=q0.cells
 go_enter Tryz.func105,Tryz.ntmps105
 go_wp2_with fail
 refine (HMa.out _).mono ?_
 rintro e w1 ⟨rfl,h1⟩
 have p1:=p0.still h1
 have q1:=q0.still h1
 have r1:=r0.still h1
 have s1:=s0.still h1
 have HS1:=hid (HS0.out.trans h1)
 clear h1 HS0 p0 q0 r0 s0 HMa c0 c1 c2 c3 c4 c5 c6 c7 c8 c9 c10 c11 c12 cf d0 d1 d2 d3 d4 d5 d6 d7 d8 d9 d10 d11 d12 df
 obtain ⟨c0,c1,c2,c3,c4,c5,c6,c7,c8,c9,c10,c11,c12,cf⟩:=p1.cells
 obtain ⟨d0,d1,d2,d3,d4,d5,d6,d7,d8,d9,d10,d11,d12,df⟩:=q1.cells
 go_wp2_with fail
 refine (HMb.out _).mono ?_
 rintro e w2 ⟨rfl,h2⟩
 have p2:=p1.still h2
 have q2:=q1.still h2
 have r2:=r1.still h2
 have s2:=s1.still h2
 have HS2:=hid (HS1.out.trans h2)
 clear h2 HS1 p1 q1 r1 s1 HMb c0 c1 c2 c3 c4 c5 c6 c7 c8 c9 c10 c11 c12 cf d0 d1 d2 d3 d4 d5 d6 d7 d8 d9 d10 d11 d12 df
 obtain ⟨c0,c1,c2,c3,c4,c5,c6,c7,c8,c9,c10,c11,c12,cf⟩:=p2.cells
 obtain ⟨d0,d1,d2,d3,d4,d5,d6,d7,d8,d9,d10,d11,d12,df⟩:=q2.cells
 go_wp2_with fail
 refine (HPa.out _).mono ?_
 rintro e w3 ⟨rfl,h3⟩
 have p3:=p2.still h3
 have q3:=q2.still h3
 have r3:=r2.still h3
 have s3:=s2.still h3
 have HS3:=hid (HS2.out.trans h3)
 clear h3 HS2 p2 q2 r2 s2 HPa c0 c1 c2 c3 c4 c5 c6 c7 c8 c9 c10 c11 c12 cf d0 d1 d2 d3 d4 d5 d6 d7 d8 d9 d10 d11 d12 df
 obtain ⟨c0,c1,c2,c3,c4,c5,c6,c7,c8,c9,c10,c11,c12,cf⟩:=p3.cells
 obtain ⟨d0,d1,d2,d3,d4,d5,d6,d7,d8,d9,d10,d11,d12,df⟩:=q3.cells
 go_wp2_with fail
 refine (HPb.out _).mono ?_
 rintro e w4 ⟨rfl,h4⟩
 have p4:=p3.still h4
 have q4:=q3.still h4
 have r4:=r3.still h4
 have s4:=s3.still h4
 have HS4:=hid (HS3.out.trans h4)
 clear h4 HS3 p3 q3 r3 s3 HPb c0 c1 c2 c3 c4 c5 c6 c7 c8 c9 c10 c11 c12 cf d0 d1 d2 d3 d4 d5 d6 d7 d8 d9 d10 d11 d12 df
 obtain ⟨c0,c1,c2,c3,c4,c5,c6,c7,c8,c9,c10,c11,c12,cf⟩:=p4.cells
 obtain ⟨d0,d1,d2,d3,d4,d5,d6,d7,d8,d9,d10,d11,d12,df⟩:=q4.cells
 obtain ⟨k0,k1,k2,k3,k4,k5,k6,k7,k8,k9,k10,k11,k12,kf⟩:=r4.cells
 obtain ⟨l0,l1,l2,l3,l4,l5,l6,l7,l8,l9,l10,l11,l12,lf⟩:=s4.cells
 go_upto_region 5 with fail
 have hdr:Still w4 w4.drew:=(Fr.refl _ w4).drew
 have p7:=p4.still hdr
 have q7:=q4.still hdr
 have r7:=r4.still hdr
 have s7:=s4.still hdr
 have HS7:=hid (HS4.out.trans hdr)
 obtain ⟨W7,eW7⟩:∃ W,w4.drew=W:=⟨_,rfl⟩
 rw [eW7] at p7 q7 r7 s7 HS7
 clear hdr c0 c1 c2 c3 c4 c5 c6 c7 c8 c9 c10 c11 c12 cf d0 d1 d2 d3 d4 d5 d6 d7 d8 d9 d10 d11 d12 df k0 k1 k2 k3 k4 k5 k6 k7 k8 k9 k10 k11 k12 kf
 (try clear l0 l1 l2 l3 l4 l5 l6 l7 l8 l9 l10 l11 l12 lf)
 obtain ⟨c0,c1,c2,c3,c4,c5,c6,c7,c8,c9,c10,c11,c12,cf⟩:=p7.cells
 obtain ⟨d0,d1,d2,d3,d4,d5,d6,d7,d8,d9,d10,d11,d12,df⟩:=q7.cells
 obtain ⟨k0,k1,k2,k3,k4,k5,k6,k7,k8,k9,k10,k11,k12,kf⟩:=r7.cells
 have r8:=r7.put (a.ax) (a.ay) (a.sx) (a.sy) (a.px) (a.py) (a.fc) (a.hl) (a.en) (a.sh) (a.co) (a.ou) (a.sd)
 have s8:=s7.others (k:=w.heap.size+1+1) (by omega) (a.ax) (a.ay) (a.sx) (a.sy) (a.px) (a.py) (a.fc) (a.hl) (a.en) (a.sh) (a.co) (a.ou) (a.sd)
 have q8:=q7.others (k:=w.heap.size+1+1) (by omega) (a.ax) (a.ay) (a.sx) (a.sy) (a.px) (a.py) (a.fc) (a.hl) (a.en) (a.sh) (a.co) (a.ou) (a.sd)
 have HS8:=hid (setC_fr (setC_fr (setC_fr (setC_fr (setC_fr (setC_fr (setC_fr (setC_fr (setC_fr (setC_fr (setC_fr (setC_fr (setC_fr (HS7.out) (w.heap.size+1+1) 0 (.int .i64 a.ax) (by omega)) (w.heap.size+1+1) 1 (.int .i64 a.ay) (by omega)) (w.heap.size+1+1) 2 (.int .i64 a.sx) (by omega)) (w.heap.size+1+1) 3 (.int .i64 a.sy) (by omega)) (w.heap.size+1+1) 4 (.int .i64 a.px) (by omega)) (w.heap.size+1+1) 5 (.int .i64 a.py) (by omega)) (w.heap.size+1+1) 6 (.int .i64 a.fc) (by omega)) (w.heap.size+1+1) 7 (.int .i64 a.hl) (by omega)) (w.heap.size+1+1) 8 (.int .i64 a.en) (by omega)) (w.heap.size+1+1) 9 (.bool a.sh) (by omega)) (w.heap.size+1+1) 10 (.int .i64 a.co) (by omega)) (w.heap.size+1+1) 11 (.int .i64 a.ou) (by omega)) (w.heap.size+1+1) 12 (.int .i64 a.sd) (by omega))
 obtain ⟨W8,eW8⟩:∃ W,(((((((((((((W7.setCell ⟨w.heap.size+1+1,0,none⟩ (.int .i64 a.ax)).setCell ⟨w.heap.size+1+1,1,none⟩ (.int .i64 a.ay)).setCell ⟨w.heap.size+1+1,2,none⟩ (.int .i64 a.sx)).setCell ⟨w.heap.size+1+1,3,none⟩ (.int .i64 a.sy)).setCell ⟨w.heap.size+1+1,4,none⟩ (.int .i64 a.px)).setCell ⟨w.heap.size+1+1,5,none⟩ (.int .i64 a.py)).setCell ⟨w.heap.size+1+1,6,none⟩ (.int .i64 a.fc)).setCell ⟨w.heap.size+1+1,7,none⟩ (.int .i64 a.hl)).setCell ⟨w.heap.size+1+1,8,none⟩ (.int .i64 a.en)).setCell ⟨w.heap.size+1+1,9,none⟩ (.bool a.sh)).setCell ⟨w.heap.size+1+1,10,none⟩ (.int .i64 a.co)).setCell ⟨w.heap.size+1+1,11,none⟩ (.int .i64 a.ou)).setCell ⟨w.heap.size+1+1,12,none⟩ (.int .i64 a.sd))=W:=⟨_,rfl⟩
 rw [eW8] at r8 s8 q8 HS8
 obtain ⟨e0,e1,e2,e3,e4,e5,e6,e7,e8,e9,e10,e11,e12,ef⟩:=q8.cells
 obtain ⟨g0,g1,g2,g3,g4,g5,g6,g7,g8,g9,g10,g11,g12,gf⟩:=s8.cells
 go_region
 all_goals
  go_wp2_with fail
  (try simp only [Exit.inBlock,Exit.then])
  refine bodyPost_ret (results_cct (r8.others (k:=w.heap.size+1+1+1) (by omega) _ _ _ _ _ _ _ _ _ _ _ _ _ ) (s8.put _ _ _ _ _ _ _ _ _ _ _ _ _ ) rfl _ _ rfl rfl rfl) rfl ⟨rfl, ?_⟩
  repeat (first | refine setC_fr ?_ _ _ _ (by omega) | with_reducible exact HS8.out)
theorem hapart_in (a b:Mv) (ha:mayB a=true) (hb:mayB b=true) (ho:(a.ou == 0)=true) (ho2:(b.ou == 0)=true) (w:World):Calls Tryz.prog 105 #[mv a,mv b] w fun e w'=>e=.returned (.tuple #[mv { a with sx:=b.sx,sy:=b.sy },mv { b with sx:=a.sx,sy:=a.sy },.int .i64 0])/\Still w w':=by
 have A0:=Still.alloc w (.cells (mcs a) 48)
 have A1:=Still.alloc (newM w a) (.cells (mcs b) 48)
 have A2:=Still.alloc (newM (newM w a) b) (.cells (mcs zM) 48)
 have A3:=Still.alloc (newM (newM (newM w a) b) zM) (.cells (mcs zM) 48)
 have p0:=((newM_mb w a).still A1).still A2 |>.still A3
 have q0:=((newM_mb (newM w a) b).still A2).still A3
 have r0:=(newM_mb (newM (newM w a) b) zM).still A3
 have s0:=newM_mb (newM (newM (newM w a) b) zM) zM
 simp only [size_alloc] at q0 r0 s0
 have HS0:=hid (((A0.trans A1).trans A2).trans A3)
 have HMa:=hid (fun w=>hmay_any a w)
 have HMb:=hid (fun w=>hmay_any b w)
 clear A0 A1 A2 A3
 have HPa:=hid (fun w=>hplays_any a w)
 have HPb:=hid (fun w=>hplays_any b w)
 rw [ha] at HMa
 rw [hb] at HMb
 rw [ho] at HPa
 rw [ho2] at HPb
 clear ha hb ho ho2
 obtain ⟨c0,c1,c2,c3,c4,c5,c6,c7,c8,c9,c10,c11,c12,cf⟩:=p0.cells
 obtain ⟨d0,d1,d2,d3,d4,d5,d6,d7,d8,d9,d10,d11,d12,df⟩:=q0.cells
 go_enter Tryz.func105,Tryz.ntmps105
 go_wp2_with fail
 refine (HMa.out _).mono ?_
 rintro e w1 ⟨rfl,h1⟩
 have p1:=p0.still h1
 have q1:=q0.still h1
 have r1:=r0.still h1
 have s1:=s0.still h1
 have HS1:=hid (HS0.out.trans h1)
 clear h1 HS0 p0 q0 r0 s0 HMa c0 c1 c2 c3 c4 c5 c6 c7 c8 c9 c10 c11 c12 cf d0 d1 d2 d3 d4 d5 d6 d7 d8 d9 d10 d11 d12 df
 obtain ⟨c0,c1,c2,c3,c4,c5,c6,c7,c8,c9,c10,c11,c12,cf⟩:=p1.cells
 obtain ⟨d0,d1,d2,d3,d4,d5,d6,d7,d8,d9,d10,d11,d12,df⟩:=q1.cells
 go_wp2_with fail
 refine (HMb.out _).mono ?_
 rintro e w2 ⟨rfl,h2⟩
 have p2:=p1.still h2
 have q2:=q1.still h2
 have r2:=r1.still h2
 have s2:=s1.still h2
 have HS2:=hid (HS1.out.trans h2)
 clear h2 HS1 p1 q1 r1 s1 HMb c0 c1 c2 c3 c4 c5 c6 c7 c8 c9 c10 c11 c12 cf d0 d1 d2 d3 d4 d5 d6 d7 d8 d9 d10 d11 d12 df
 obtain ⟨c0,c1,c2,c3,c4,c5,c6,c7,c8,c9,c10,c11,c12,cf⟩:=p2.cells
 obtain ⟨d0,d1,d2,d3,d4,d5,d6,d7,d8,d9,d10,d11,d12,df⟩:=q2.cells
 go_wp2_with fail
 refine (HPa.out _).mono ?_
 rintro e w3 ⟨rfl,h3⟩
 have p3:=p2.still h3
 have q3:=q2.still h3
 have r3:=r2.still h3
 have s3:=s2.still h3
 have HS3:=hid (HS2.out.trans h3)
 clear h3 HS2 p2 q2 r2 s2 HPa c0 c1 c2 c3 c4 c5 c6 c7 c8 c9 c10 c11 c12 cf d0 d1 d2 d3 d4 d5 d6 d7 d8 d9 d10 d11 d12 df
 obtain ⟨c0,c1,c2,c3,c4,c5,c6,c7,c8,c9,c10,c11,c12,cf⟩:=p3.cells
 obtain ⟨d0,d1,d2,d3,d4,d5,d6,d7,d8,d9,d10,d11,d12,df⟩:=q3.cells
 go_wp2_with fail
 refine (HPb.out _).mono ?_
 rintro e w4 ⟨rfl,h4⟩
 have p4:=p3.still h4
 have q4:=q3.still h4
 have r4:=r3.still h4
 have s4:=s3.still h4
 have HS4:=hid (HS3.out.trans h4)
 clear h4 HS3 p3 q3 r3 s3 HPb c0 c1 c2 c3 c4 c5 c6 c7 c8 c9 c10 c11 c12 cf d0 d1 d2 d3 d4 d5 d6 d7 d8 d9 d10 d11 d12 df
 obtain ⟨c0,c1,c2,c3,c4,c5,c6,c7,c8,c9,c10,c11,c12,cf⟩:=p4.cells
 obtain ⟨d0,d1,d2,d3,d4,d5,d6,d7,d8,d9,d10,d11,d12,df⟩:=q4.cells
 obtain ⟨k0,k1,k2,k3,k4,k5,k6,k7,k8,k9,k10,k11,k12,kf⟩:=r4.cells
 obtain ⟨l0,l1,l2,l3,l4,l5,l6,l7,l8,l9,l10,l11,l12,lf⟩:=s4.cells
 have p2:=((p4.sp b.sx b.sy).other (w.heap.size+1) 2 (.int .i64 a.sx) (by omega)).other (w.heap.size+1) 3 (.int .i64 a.sy) (by omega)
 have q2:=((q4.other w.heap.size 2 (.int .i64 b.sx) (by omega)).other w.heap.size 3 (.int .i64 b.sy) (by omega)).sp a.sx a.sy
 have r2:=(((r4.other w.heap.size 2 (.int .i64 b.sx) (by omega)).other w.heap.size 3 (.int .i64 b.sy) (by omega)).other (w.heap.size+1) 2 (.int .i64 a.sx) (by omega)).other (w.heap.size+1) 3 (.int .i64 a.sy) (by omega)
 have s2:=(((s4.other w.heap.size 2 (.int .i64 b.sx) (by omega)).other w.heap.size 3 (.int .i64 b.sy) (by omega)).other (w.heap.size+1) 2 (.int .i64 a.sx) (by omega)).other (w.heap.size+1) 3 (.int .i64 a.sy) (by omega)
 have HS2:=hid (setC_fr (setC_fr (setC_fr (setC_fr HS4.out w.heap.size 2 (.int .i64 b.sx) (Nat.le_refl _)) w.heap.size 3 (.int .i64 b.sy) (Nat.le_refl _)) (w.heap.size+1) 2 (.int .i64 a.sx) (by omega)) (w.heap.size+1) 3 (.int .i64 a.sy) (by omega))
 obtain ⟨W9,eW9⟩:∃ W,(((w4.setCell ⟨w.heap.size,2,none⟩ (.int .i64 b.sx)).setCell ⟨w.heap.size,3,none⟩ (.int .i64 b.sy)).setCell ⟨w.heap.size+1,2,none⟩ (.int .i64 a.sx)).setCell ⟨w.heap.size+1,3,none⟩ (.int .i64 a.sy)=W:=⟨_,rfl⟩
 rw [eW9] at p2 q2 r2 s2 HS2
 go_upto_region 5 with fail
 clear c0 c1 c2 c3 c4 c5 c6 c7 c8 c9 c10 c11 c12 cf d0 d1 d2 d3 d4 d5 d6 d7 d8 d9 d10 d11 d12 df k0 k1 k2 k3 k4 k5 k6 k7 k8 k9 k10 k11 k12 kf l0 l1 l2 l3 l4 l5 l6 l7 l8 l9 l10 l11 l12 lf eW9 p4 q4 r4 s4
 obtain ⟨c0,c1,c2,c3,c4,c5,c6,c7,c8,c9,c10,c11,c12,cf⟩:=p2.cells
 obtain ⟨d0,d1,d2,d3,d4,d5,d6,d7,d8,d9,d10,d11,d12,df⟩:=q2.cells
 obtain ⟨k0,k1,k2,k3,k4,k5,k6,k7,k8,k9,k10,k11,k12,kf⟩:=r2.cells
 obtain ⟨a9,ea9⟩:∃ x:Mv,{ a with sx:=b.sx,sy:=b.sy }=x:=⟨_,rfl⟩
 obtain ⟨b9,eb9⟩:∃ x:Mv,{ b with sx:=a.sx,sy:=a.sy }=x:=⟨_,rfl⟩
 have p2':Mb W9 w.heap.size a9:=by rw [<- ea9]; exact p2
 have q2':Mb W9 (w.heap.size+1) b9:=by rw [<- eb9]; exact q2
 have HEE:=hid (And.intro ea9 eb9)
 clear p2 q2 c0 c1 c2 c3 c4 c5 c6 c7 c8 c9 c10 c11 c12 cf d0 d1 d2 d3 d4 d5 d6 d7 d8 d9 d10 d11 d12 df ea9 eb9
 obtain ⟨c0,c1,c2,c3,c4,c5,c6,c7,c8,c9,c10,c11,c12,cf⟩:=p2'.cells
 obtain ⟨d0,d1,d2,d3,d4,d5,d6,d7,d8,d9,d10,d11,d12,df⟩:=q2'.cells
 have hdr:Still W9 W9.drew:=(Fr.refl _ W9).drew
 have p7:=p2'.still hdr
 have q7:=q2'.still hdr
 have r7:=r2.still hdr
 have s7:=s2.still hdr
 have HS7:=hid (HS2.out.trans hdr)
 obtain ⟨W7,eW7⟩:∃ W,W9.drew=W:=⟨_,rfl⟩
 rw [eW7] at p7 q7 r7 s7 HS7
 clear hdr c0 c1 c2 c3 c4 c5 c6 c7 c8 c9 c10 c11 c12 cf d0 d1 d2 d3 d4 d5 d6 d7 d8 d9 d10 d11 d12 df k0 k1 k2 k3 k4 k5 k6 k7 k8 k9 k10 k11 k12 kf
 (try clear l0 l1 l2 l3 l4 l5 l6 l7 l8 l9 l10 l11 l12 lf)
 obtain ⟨c0,c1,c2,c3,c4,c5,c6,c7,c8,c9,c10,c11,c12,cf⟩:=p7.cells
 obtain ⟨d0,d1,d2,d3,d4,d5,d6,d7,d8,d9,d10,d11,d12,df⟩:=q7.cells
 obtain ⟨k0,k1,k2,k3,k4,k5,k6,k7,k8,k9,k10,k11,k12,kf⟩:=r7.cells
 have r8:=r7.put (a9.ax) (a9.ay) (a9.sx) (a9.sy) (a9.px) (a9.py) (a9.fc) (a9.hl) (a9.en) (a9.sh) (a9.co) (a9.ou) (a9.sd)
 have s8:=s7.others (k:=w.heap.size+1+1) (by omega) (a9.ax) (a9.ay) (a9.sx) (a9.sy) (a9.px) (a9.py) (a9.fc) (a9.hl) (a9.en) (a9.sh) (a9.co) (a9.ou) (a9.sd)
 have q8:=q7.others (k:=w.heap.size+1+1) (by omega) (a9.ax) (a9.ay) (a9.sx) (a9.sy) (a9.px) (a9.py) (a9.fc) (a9.hl) (a9.en) (a9.sh) (a9.co) (a9.ou) (a9.sd)
 have HS8:=hid (setC_fr (setC_fr (setC_fr (setC_fr (setC_fr (setC_fr (setC_fr (setC_fr (setC_fr (setC_fr (setC_fr (setC_fr (setC_fr (HS7.out) (w.heap.size+1+1) 0 (.int .i64 a9.ax) (by omega)) (w.heap.size+1+1) 1 (.int .i64 a9.ay) (by omega)) (w.heap.size+1+1) 2 (.int .i64 a9.sx) (by omega)) (w.heap.size+1+1) 3 (.int .i64 a9.sy) (by omega)) (w.heap.size+1+1) 4 (.int .i64 a9.px) (by omega)) (w.heap.size+1+1) 5 (.int .i64 a9.py) (by omega)) (w.heap.size+1+1) 6 (.int .i64 a9.fc) (by omega)) (w.heap.size+1+1) 7 (.int .i64 a9.hl) (by omega)) (w.heap.size+1+1) 8 (.int .i64 a9.en) (by omega)) (w.heap.size+1+1) 9 (.bool a9.sh) (by omega)) (w.heap.size+1+1) 10 (.int .i64 a9.co) (by omega)) (w.heap.size+1+1) 11 (.int .i64 a9.ou) (by omega)) (w.heap.size+1+1) 12 (.int .i64 a9.sd) (by omega))
 obtain ⟨W8,eW8⟩:∃ W,(((((((((((((W7.setCell ⟨w.heap.size+1+1,0,none⟩ (.int .i64 a9.ax)).setCell ⟨w.heap.size+1+1,1,none⟩ (.int .i64 a9.ay)).setCell ⟨w.heap.size+1+1,2,none⟩ (.int .i64 a9.sx)).setCell ⟨w.heap.size+1+1,3,none⟩ (.int .i64 a9.sy)).setCell ⟨w.heap.size+1+1,4,none⟩ (.int .i64 a9.px)).setCell ⟨w.heap.size+1+1,5,none⟩ (.int .i64 a9.py)).setCell ⟨w.heap.size+1+1,6,none⟩ (.int .i64 a9.fc)).setCell ⟨w.heap.size+1+1,7,none⟩ (.int .i64 a9.hl)).setCell ⟨w.heap.size+1+1,8,none⟩ (.int .i64 a9.en)).setCell ⟨w.heap.size+1+1,9,none⟩ (.bool a9.sh)).setCell ⟨w.heap.size+1+1,10,none⟩ (.int .i64 a9.co)).setCell ⟨w.heap.size+1+1,11,none⟩ (.int .i64 a9.ou)).setCell ⟨w.heap.size+1+1,12,none⟩ (.int .i64 a9.sd))=W:=⟨_,rfl⟩
 rw [eW8] at r8 s8 q8 HS8
 obtain ⟨e0,e1,e2,e3,e4,e5,e6,e7,e8,e9,e10,e11,e12,ef⟩:=q8.cells
 obtain ⟨g0,g1,g2,g3,g4,g5,g6,g7,g8,g9,g10,g11,g12,gf⟩:=s8.cells
 go_region
 all_goals
  go_wp2_with fail
  (try simp only [Exit.inBlock,Exit.then])
  refine bodyPost_ret (results_cct (r8.others (k:=w.heap.size+1+1+1) (by omega) _ _ _ _ _ _ _ _ _ _ _ _ _ ) (s8.put _ _ _ _ _ _ _ _ _ _ _ _ _ ) rfl _ _ rfl rfl rfl) rfl ⟨by rw [HEE.out.1,HEE.out.2]; rfl, ?_⟩
  repeat (first | refine setC_fr ?_ _ _ _ (by omega) | with_reducible exact HS8.out)
theorem hapart_any (a b:Mv) (w:World):Calls Tryz.prog 105 #[mv a,mv b] w fun e w'=>e=.returned (.tuple #[mv (aptA a b),mv (aptA b a),.int .i64 (err11 (aptE a b))])/\Still w w':=by
 have hc:aptE b a=aptE a b:=by unfold aptE; rw [Bool.and_comm]
 cases he:aptE a b with
 | false =>
  have e1:aptA a b=zM:=by unfold aptA; rw [he]; rfl
  have e2:aptA b a=zM:=by unfold aptA; rw [hc,he]; rfl
  rw [e1,e2]
  cases ha:mayB a with
  | false=>exact hapart_no1 a b ha w
  | true =>
   unfold aptE at he
   rw [ha,Bool.true_and] at he
   exact hapart_no2 a b ha he w
 | true =>
  have h:=he
  unfold aptE at h
  rw [Bool.and_eq_true] at h
  by_cases ho:a.ou=0/\b.ou=0
  ·have e1:aptA a b={ a with sx:=b.sx,sy:=b.sy }:=by unfold aptA; rw [if_pos he,if_pos ho]
   have e2:aptA b a={ b with sx:=a.sx,sy:=a.sy }:=by unfold aptA; rw [if_pos (hc.trans he),if_pos ⟨ho.2,ho.1⟩]
   rw [e1,e2]
   exact hapart_in a b h.1 h.2 (by simpa using ho.1) (by simpa using ho.2) w
  ·have e1:aptA a b=a:=by unfold aptA; rw [if_pos he,if_neg ho]
   have e2:aptA b a=b:=by unfold aptA; rw [if_pos (hc.trans he),if_neg (fun h=>ho ⟨h.2,h.1⟩)]
   rw [e1,e2]
   by_cases ha:a.ou=0
   ·exact hapart_out2 a b h.1 h.2 (by simpa using ha) (by have:¬ b.ou=0:=fun hb=>ho ⟨ha,hb⟩; simpa using this) w
   ·exact hapart_out1 a b h.1 h.2 (by simpa using ha) w
end Go.Proofs.YtlibdheihodniaaGreatDoor
namespace Go.Proofs.YtlibdheihodniaaGreatDoor
open Go.RowKit
open Ea
set_option maxRecDepth 100000
theorem shas_hit (x:Scr) (n:Int) (hm:MayC x) (hn:1<=n/\n<=3) (w:World):Calls Tryz.prog 201 #[cv x,.int .i64 n] w fun e w'=>e=.returned (cv ⟨bdC (x.p+n),bdC (x.h+1),x.o,x.k⟩)/\Still w w':=by
 have F0:=F2C.new w x
 obtain ⟨c0,c1,c2,c3,cf⟩:=F0.1.cells
 obtain ⟨hm1,hm2,hm3,hm4⟩:=hm
 have H0:=hid (fun w=>ssum_any (x.h) (1) (by omega) (by omega) w)
 have H1:=hid (fun w=>ssum_any (x.p) (n) (by omega) (by omega) w)
 obtain ⟨U,eU⟩:∃ v,bdC (x.h+1)=v:=⟨_,rfl⟩
 rw [eU] at H0 ⊢
 obtain ⟨V,eV⟩:∃ v,bdC (x.p+n)=v:=⟨_,rfl⟩
 rw [eV] at H1 ⊢
 clear eU eV
 go_enter Tryz.func201,Tryz.ntmps201
 go_upto_region 1 with fail
 change Code.wp Tryz.prog _ _ _ (newC (newC w x) zC)
 obtain ⟨W0,eW0⟩:∃ W,newC (newC w x) zC=W:=⟨_,rfl⟩
 rw [eW0] at F0 c0 c1 c2 c3 cf ⊢
 clear eW0
 go_wp2_with fail
 refine (H0.out _).mono ?_
 rintro e w1 ⟨he,hw⟩
 rw [he,hw]
 clear he hw w1 H0
 have F1:=F0.setA 1 (.int .i64 U) (F0.1.sh U)
 obtain ⟨W1,eW1⟩:∃ W,W0.setCell ⟨w.heap.size,1,none⟩ (.int .i64 U)=W:=⟨_,rfl⟩
 rw [eW1] at F1
 go_upto_region 2 with fail
 clear eW1 F0 c0 c1 c2 c3 cf
 obtain ⟨c0,c1,c2,c3,cf⟩:=F1.1.cells
 go_wp2_with fail
 refine (H1.out _).mono ?_
 rintro e w2 ⟨he,hw⟩
 rw [he,hw]
 clear he hw w2 H1
 have F2:=F1.setA 0 (.int .i64 V) (F1.1.sp V)
 obtain ⟨W2,eW2⟩:∃ W,W1.setCell ⟨w.heap.size,0,none⟩ (.int .i64 V)=W:=⟨_,rfl⟩
 rw [eW2] at F2
 go_upto_region 3 with fail
 clear eW2 F1 c0 c1 c2 c3 cf
 obtain ⟨c0,c1,c2,c3,cf⟩:=F2.1.cells
 have HS:Hid (Still w W2):=hid F2.2.2
 have q:=F2.2.1
 clear F2
 obtain ⟨d0,d1,d2,d3,df⟩:=q.cells
 go_wp2_with fail
 refine bodyPost_ret (Cb.res1 (Cb.put q _ _ _ _) rfl _ rfl) rfl ⟨rfl, ?_⟩
 repeat (first | refine setC_frC ?_ _ _ _ (by omega) | with_reducible exact HS.out)
theorem shas_out (x:Scr) (hm:MayC x) (w:World):Calls Tryz.prog 202 #[cv x] w fun e w'=>e=.returned (cv ⟨bdC (x.p+(10+min x.k 5)),x.h,x.o,bdC (x.k+1)⟩)/\Still w w':=by
 have F0:=F2C.new w x
 obtain ⟨c0,c1,c2,c3,cf⟩:=F0.1.cells
 obtain ⟨hm1,hm2,hm3,hm4⟩:=hm
 have H0:=hid (fun w=>ssum_any (x.p) ((10+min x.k 5)) (by omega) (by omega) w)
 have H1:=hid (fun w=>ssum_any (x.k) (1) (by omega) (by omega) w)
 obtain ⟨V,eV⟩:∃ v,bdC (x.p+(10+min x.k 5))=v:=⟨_,rfl⟩
 rw [eV] at H0 ⊢
 obtain ⟨K,eK⟩:∃ v,bdC (x.k+1)=v:=⟨_,rfl⟩
 rw [eK] at H1 ⊢
 clear eV eK
 go_enter Tryz.func202,Tryz.ntmps202
 go_upto_region 1 with fail
 change Code.wp Tryz.prog _ _ _ (newC (newC w x) zC)
 obtain ⟨W0,eW0⟩:∃ W,newC (newC w x) zC=W:=⟨_,rfl⟩
 rw [eW0] at F0 c0 c1 c2 c3 cf ⊢
 clear eW0
 go_wp2_with fail
 refine (H0.out _).mono ?_
 rintro e w1 ⟨he,hw⟩
 rw [he,hw]
 clear he hw w1 H0
 have F1:=F0.setA 0 (.int .i64 V) (F0.1.sp V)
 obtain ⟨W1,eW1⟩:∃ W,W0.setCell ⟨w.heap.size,0,none⟩ (.int .i64 V)=W:=⟨_,rfl⟩
 rw [eW1] at F1
 go_upto_region 2 with fail
 clear eW1 F0 c0 c1 c2 c3 cf
 obtain ⟨c0,c1,c2,c3,cf⟩:=F1.1.cells
 go_wp2_with fail
 refine (H1.out _).mono ?_
 rintro e w2 ⟨he,hw⟩
 rw [he,hw]
 clear he hw w2 H1
 have F2:=F1.setA 3 (.int .i64 K) (F1.1.sk K)
 obtain ⟨W2,eW2⟩:∃ W,W1.setCell ⟨w.heap.size,3,none⟩ (.int .i64 K)=W:=⟨_,rfl⟩
 rw [eW2] at F2
 go_upto_region 3 with fail
 clear eW2 F1 c0 c1 c2 c3 cf
 obtain ⟨c0,c1,c2,c3,cf⟩:=F2.1.cells
 have HS:Hid (Still w W2):=hid F2.2.2
 have q:=F2.2.1
 clear F2
 obtain ⟨d0,d1,d2,d3,df⟩:=q.cells
 go_wp2_with fail
 refine bodyPost_ret (Cb.res1 (Cb.put q _ _ _ _) rfl _ rfl) rfl ⟨rfl, ?_⟩
 repeat (first | refine setC_frC ?_ _ _ _ (by omega) | with_reducible exact HS.out)
theorem swent_out (x:Scr) (hm:MayC x) (w:World):Calls Tryz.prog 203 #[cv x] w fun e w'=>e=.returned (cv ⟨bdC (x.p+(-2)),x.h,bdC (x.o+1),0⟩)/\Still w w':=by
 have F0:=F2C.new w x
 obtain ⟨c0,c1,c2,c3,cf⟩:=F0.1.cells
 obtain ⟨hm1,hm2,hm3,hm4⟩:=hm
 have H0:=hid (fun w=>ssum_any (x.o) (1) (by omega) (by omega) w)
 have H1:=hid (fun w=>ssum_any (x.p) ((-2)) (by omega) (by omega) w)
 obtain ⟨O,eO⟩:∃ v,bdC (x.o+1)=v:=⟨_,rfl⟩
 rw [eO] at H0 ⊢
 obtain ⟨V,eV⟩:∃ v,bdC (x.p+(-2))=v:=⟨_,rfl⟩
 rw [eV] at H1 ⊢
 clear eO eV
 go_enter Tryz.func203,Tryz.ntmps203
 go_upto_region 1 with fail
 change Code.wp Tryz.prog _ _ _ (newC (newC w x) zC)
 obtain ⟨W0,eW0⟩:∃ W,newC (newC w x) zC=W:=⟨_,rfl⟩
 rw [eW0] at F0 c0 c1 c2 c3 cf ⊢
 clear eW0
 go_wp2_with fail
 refine (H0.out _).mono ?_
 rintro e w1 ⟨he,hw⟩
 rw [he,hw]
 clear he hw w1 H0
 have F1:=F0.setA 2 (.int .i64 O) (F0.1.so O)
 obtain ⟨W1,eW1⟩:∃ W,W0.setCell ⟨w.heap.size,2,none⟩ (.int .i64 O)=W:=⟨_,rfl⟩
 rw [eW1] at F1
 go_upto_region 2 with fail
 clear eW1 F0 c0 c1 c2 c3 cf
 obtain ⟨c0,c1,c2,c3,cf⟩:=F1.1.cells
 have F2:=F1.setA 3 (.int .i64 0) (F1.1.sk 0)
 obtain ⟨W2,eW2⟩:∃ W,W1.setCell ⟨w.heap.size,3,none⟩ (.int .i64 0)=W:=⟨_,rfl⟩
 rw [eW2] at F2
 go_upto_region 3 with fail
 clear eW2 F1 c0 c1 c2 c3 cf
 obtain ⟨c0,c1,c2,c3,cf⟩:=F2.1.cells
 go_wp2_with fail
 refine (H1.out _).mono ?_
 rintro e w3 ⟨he,hw⟩
 rw [he,hw]
 clear he hw w3 H1
 have F3:=F2.setA 0 (.int .i64 V) (F2.1.sp V)
 obtain ⟨W3,eW3⟩:∃ W,W2.setCell ⟨w.heap.size,0,none⟩ (.int .i64 V)=W:=⟨_,rfl⟩
 rw [eW3] at F3
 go_upto_region 4 with fail
 clear eW3 F2 c0 c1 c2 c3 cf
 obtain ⟨c0,c1,c2,c3,cf⟩:=F3.1.cells
 have HS:Hid (Still w W3):=hid F3.2.2
 have q:=F3.2.1
 clear F3
 obtain ⟨d0,d1,d2,d3,df⟩:=q.cells
 go_wp2_with fail
 refine bodyPost_ret (Cb.res1 (Cb.put q _ _ _ _) rfl _ rfl) rfl ⟨rfl, ?_⟩
 repeat (first | refine setC_frC ?_ _ _ _ (by omega) | with_reducible exact HS.out)
theorem shit_may (a b:Scr) (n:Int) (out:Bool) (hm:¬ (MayC a/\MayC b)) (w:World):Calls Tryz.prog 159 #[cv a,cv b,.int .i64 n,.bool out] w fun e w'=>e=.returned (.tuple #[cv zC,cv zC,.int .i64 120])/\Still w w':=by
 by_cases ha:MayC a
 ·have hb:¬ MayC b:=fun h=>hm ⟨ha,h⟩
  have F0:=F4.new w a b
  obtain ⟨c0,c1,c2,c3,cf⟩:=F0.1.cells
  have HA:=hid (fun w=>smay_any a w)
  have HB:=hid (fun w=>smay_any b w)
  rw [mayC_iff.2 ha] at HA
  rw [mayC_no hb] at HB
  clear hm ha hb
  go_enter Tryz.func159,Tryz.ntmps159
  go_wp2_with fail
  refine (HA.out _).mono ?_
  rintro e w1 ⟨rfl,h1⟩
  have F1:=F0.on h1
  clear h1 F0 c0 c1 c2 c3 cf HA
  obtain ⟨d0,d1,d2,d3,df⟩:=F1.2.1.cells
  go_wp2_with fail
  refine (HB.out _).mono ?_
  rintro e w2 ⟨rfl,h2⟩
  have HF2:=hid (F1.on h2)
  have HS2:Hid (Still w w2):=hid HF2.out.2.2.2.2
  clear h2 F1 d0 d1 d2 d3 df HB
  obtain ⟨k0,k1,k2,k3,kf⟩:=HF2.out.2.2.1.cells
  obtain ⟨l0,l1,l2,l3,lf⟩:=HF2.out.2.2.2.1.cells
  go_wp2_with fail
  refine bodyPost_ret (Cb.res2 ((HF2.out.2.2.1.put _ _ _ _).others (k:=w.heap.size+1+1+1) (by omega) _ _ _ _) ((HF2.out.2.2.2.1.others (k:=w.heap.size+1+1) (by omega) _ _ _ _).put _ _ _ _) rfl _ _ rfl rfl rfl) rfl ⟨rfl, ?_⟩
  repeat (first | refine setC_frC ?_ _ _ _ (by omega) | with_reducible exact HS2.out)
 ·have F0:=F4.new w a b
  obtain ⟨c0,c1,c2,c3,cf⟩:=F0.1.cells
  have HA:=hid (fun w=>smay_any a w)
  rw [mayC_no ha] at HA
  clear hm ha
  go_enter Tryz.func159,Tryz.ntmps159
  go_wp2_with fail
  refine (HA.out _).mono ?_
  rintro e w2 ⟨rfl,h2⟩
  have HF2:=hid (F0.on h2)
  have HS2:Hid (Still w w2):=hid HF2.out.2.2.2.2
  clear h2 F0 c0 c1 c2 c3 cf HA
  obtain ⟨k0,k1,k2,k3,kf⟩:=HF2.out.2.2.1.cells
  obtain ⟨l0,l1,l2,l3,lf⟩:=HF2.out.2.2.2.1.cells
  go_wp2_with fail
  refine bodyPost_ret (Cb.res2 ((HF2.out.2.2.1.put _ _ _ _).others (k:=w.heap.size+1+1+1) (by omega) _ _ _ _) ((HF2.out.2.2.2.1.others (k:=w.heap.size+1+1) (by omega) _ _ _ _).put _ _ _ _) rfl _ _ rfl rfl rfl) rfl ⟨rfl, ?_⟩
  repeat (first | refine setC_frC ?_ _ _ _ (by omega) | with_reducible exact HS2.out)
theorem shit_arg (a b:Scr) (n:Int) (out:Bool) (ha:MayC a) (hb:MayC b) (hn:¬ (1<=n/\n<=3)) (w:World):Calls Tryz.prog 159 #[cv a,cv b,.int .i64 n,.bool out] w fun e w'=>e=.returned (.tuple #[cv zC,cv zC,.int .i64 1])/\Still w w':=by
 have F0:=F4.new w a b
 obtain ⟨c0,c1,c2,c3,cf⟩:=F0.1.cells
 have HA:=hid (fun w=>smay_any a w)
 have HB:=hid (fun w=>smay_any b w)
 have HW:=hid (fun w=>xwithin_any n 1 3 w)
 rw [mayC_iff.2 ha] at HA
 rw [mayC_iff.2 hb] at HB
 rw [decide_eq_false hn] at HW
 clear hn ha hb
 go_enter Tryz.func159,Tryz.ntmps159
 go_wp2_with fail
 refine (HA.out _).mono ?_
 rintro e w1 ⟨rfl,h1⟩
 have F1:=F0.on h1
 clear h1 F0 c0 c1 c2 c3 cf HA
 obtain ⟨d0,d1,d2,d3,df⟩:=F1.2.1.cells
 go_wp2_with fail
 refine (HB.out _).mono ?_
 rintro e w2 ⟨rfl,h2⟩
 have HF2:=hid (F1.on h2)
 have HS2:Hid (Still w w2):=hid HF2.out.2.2.2.2
 clear h2 F1 d0 d1 d2 d3 df HB
 go_wp2_with fail
 refine (HW.out _).mono ?_
 rintro e w3 ⟨he,hw⟩
 rw [he,hw]
 clear he hw w3 HW
 obtain ⟨k0,k1,k2,k3,kf⟩:=HF2.out.2.2.1.cells
 obtain ⟨l0,l1,l2,l3,lf⟩:=HF2.out.2.2.2.1.cells
 go_wp2_with fail
 refine bodyPost_ret (Cb.res2 ((HF2.out.2.2.1.put _ _ _ _).others (k:=w.heap.size+1+1+1) (by omega) _ _ _ _) ((HF2.out.2.2.2.1.others (k:=w.heap.size+1+1) (by omega) _ _ _ _).put _ _ _ _) rfl _ _ rfl rfl rfl) rfl ⟨rfl, ?_⟩
 repeat (first | refine setC_frC ?_ _ _ _ (by omega) | with_reducible exact HS2.out)
theorem F4.putA {w0 w:World} {a b x y:Scr} (h:F4 w0 w a b x y) (p q r s:Int):F4 w0 ((((w.setCell ⟨w0.heap.size,0,none⟩ (.int .i64 p)).setCell ⟨w0.heap.size,1,none⟩ (.int .i64 q)).setCell ⟨w0.heap.size,2,none⟩ (.int .i64 r)).setCell ⟨w0.heap.size,3,none⟩ (.int .i64 s)) ⟨p,q,r,s⟩ b x y :=
 ⟨h.1.put _ _ _ _,h.2.1.others (by omega) _ _ _ _,h.2.2.1.others (by omega) _ _ _ _,h.2.2.2.1.others (by omega) _ _ _ _,(((h.2.2.2.2.setCell _ _ (.inr (Nat.le_refl _))).setCell _ _ (.inr (Nat.le_refl _))).setCell _ _ (.inr (Nat.le_refl _))).setCell _ _ (.inr (Nat.le_refl _))⟩
theorem F4.putB {w0 w:World} {a b x y:Scr} (h:F4 w0 w a b x y) (p q r s:Int):F4 w0 ((((w.setCell ⟨w0.heap.size+1,0,none⟩ (.int .i64 p)).setCell ⟨w0.heap.size+1,1,none⟩ (.int .i64 q)).setCell ⟨w0.heap.size+1,2,none⟩ (.int .i64 r)).setCell ⟨w0.heap.size+1,3,none⟩ (.int .i64 s)) a ⟨p,q,r,s⟩ x y :=
 ⟨h.1.others (by omega) _ _ _ _,h.2.1.put _ _ _ _,h.2.2.1.others (by omega) _ _ _ _,h.2.2.2.1.others (by omega) _ _ _ _,(((h.2.2.2.2.setCell _ _ (.inr (by simp))).setCell _ _ (.inr (by simp))).setCell _ _ (.inr (by simp))).setCell _ _ (.inr (by simp))⟩
theorem shit_no (a b a1:Scr) (n:Int) (ha:MayC a) (hb:MayC b) (hn:1<=n/\n<=3) (ea1:(⟨bdC (a.p+n),bdC (a.h+1),a.o,a.k⟩:Scr)=a1) (w:World):Calls Tryz.prog 159 #[cv a,cv b,.int .i64 n,.bool false] w fun e w'=>e=.returned (.tuple #[cv a1,cv b,.int .i64 0])/\Still w w':=by
 have F0:=F4.new w a b
 obtain ⟨c0,c1,c2,c3,cf⟩:=F0.1.cells
 have HA:=hid (fun w=>smay_any a w)
 have HB:=hid (fun w=>smay_any b w)
 have HW:=hid (fun w=>xwithin_any n 1 3 w)
 have HH:=hid (fun w=>shas_hit a n ha hn w)
 rw [ea1] at HH
 rw [mayC_iff.2 ha] at HA
 rw [mayC_iff.2 hb] at HB
 rw [decide_eq_true hn] at HW
 clear hn ha hb ea1
 go_enter Tryz.func159,Tryz.ntmps159
 go_wp2_with fail
 refine (HA.out _).mono ?_
 rintro e w1 ⟨rfl,h1⟩
 have F1:=F0.on h1
 clear h1 F0 c0 c1 c2 c3 cf HA
 obtain ⟨d0,d1,d2,d3,df⟩:=F1.2.1.cells
 go_wp2_with fail
 refine (HB.out _).mono ?_
 rintro e w2 ⟨rfl,h2⟩
 have F2:=F1.on h2
 clear h2 F1 d0 d1 d2 d3 df HB
 go_wp2_with fail
 refine (HW.out _).mono ?_
 rintro e w3 ⟨he,hw⟩
 rw [he,hw]
 clear he hw w3 HW
 obtain ⟨c0,c1,c2,c3,cf⟩:=F2.1.cells
 go_wp2_with fail
 refine (HH.out _).mono ?_
 rintro e w4 ⟨rfl,h4⟩
 have F4':=F2.on h4
 clear h4 F2 c0 c1 c2 c3 cf HH
 obtain ⟨c0,c1,c2,c3,cf⟩:=F4'.1.cells
 have F5:=F4'.putA a1.p a1.h a1.o a1.k
 obtain ⟨W5,eW5⟩:∃ W,(((w4.setCell ⟨w.heap.size,0,none⟩ (.int .i64 a1.p)).setCell ⟨w.heap.size,1,none⟩ (.int .i64 a1.h)).setCell ⟨w.heap.size,2,none⟩ (.int .i64 a1.o)).setCell ⟨w.heap.size,3,none⟩ (.int .i64 a1.k)=W:=⟨_,rfl⟩
 rw [eW5] at F5
 go_upto_region 6 with fail
 clear eW5 F4' c0 c1 c2 c3 cf
 go_upto_region 8 with fail
 have F8:=F5.on ((Fr.refl _ W5).drew)
 obtain ⟨W8,eW8⟩:∃ W,W5.drew=W:=⟨_,rfl⟩
 rw [eW8] at F8
 clear F5
 obtain ⟨c0,c1,c2,c3,cf⟩:=F8.1.cells
 obtain ⟨d0,d1,d2,d3,df⟩:=F8.2.1.cells
 obtain ⟨k0,k1,k2,k3,kf⟩:=F8.2.2.1.cells
 have r9:=F8.2.2.1.put a1.p a1.h a1.o a1.k
 have s9:=F8.2.2.2.1.others (k:=w.heap.size+1+1) (by omega) a1.p a1.h a1.o a1.k
 have q9:=F8.2.1.others (k:=w.heap.size+1+1) (by omega) a1.p a1.h a1.o a1.k
 have HS9:=hid (setC_frC (setC_frC (setC_frC (setC_frC F8.2.2.2.2 (w.heap.size+1+1) 0 (.int .i64 a1.p) (by omega)) (w.heap.size+1+1) 1 (.int .i64 a1.h) (by omega)) (w.heap.size+1+1) 2 (.int .i64 a1.o) (by omega)) (w.heap.size+1+1) 3 (.int .i64 a1.k) (by omega))
 obtain ⟨W9,eW9⟩:∃ W,(((W8.setCell ⟨w.heap.size+1+1,0,none⟩ (.int .i64 a1.p)).setCell ⟨w.heap.size+1+1,1,none⟩ (.int .i64 a1.h)).setCell ⟨w.heap.size+1+1,2,none⟩ (.int .i64 a1.o)).setCell ⟨w.heap.size+1+1,3,none⟩ (.int .i64 a1.k)=W:=⟨_,rfl⟩
 rw [eW9] at r9 s9 q9 HS9
 obtain ⟨e0,e1,e2,e3,ef⟩:=q9.cells
 obtain ⟨g0,g1,g2,g3,gf⟩:=s9.cells
 clear F8
 go_region
 all_goals
  go_wp2_with fail
  (try simp only [Exit.inBlock,Exit.then])
  refine bodyPost_ret (Cb.res2 (r9.others (k:=w.heap.size+1+1+1) (by omega) _ _ _ _) (s9.put _ _ _ _) rfl _ _ rfl rfl rfl) rfl ⟨rfl, ?_⟩
  repeat (first | refine setC_frC ?_ _ _ _ (by omega) | with_reducible exact HS9.out)
theorem shit_out (a b a1 a2 b2:Scr) (n:Int) (ha:MayC a) (hb:MayC b) (hn:1<=n/\n<=3) (ha1:MayC a1) (ea1:(⟨bdC (a.p+n),bdC (a.h+1),a.o,a.k⟩:Scr)=a1) (ea2:(⟨bdC (a1.p+(10+min a1.k 5)),a1.h,a1.o,bdC (a1.k+1)⟩:Scr)=a2) (eb2:(⟨bdC (b.p+(-2)),b.h,bdC (b.o+1),0⟩:Scr)=b2) (w:World):Calls Tryz.prog 159 #[cv a,cv b,.int .i64 n,.bool true] w fun e w'=>e=.returned (.tuple #[cv a2,cv b2,.int .i64 0])/\Still w w':=by
 have F0:=F4.new w a b
 obtain ⟨c0,c1,c2,c3,cf⟩:=F0.1.cells
 have HA:=hid (fun w=>smay_any a w)
 have HB:=hid (fun w=>smay_any b w)
 have HW:=hid (fun w=>xwithin_any n 1 3 w)
 have HH:=hid (fun w=>shas_hit a n ha hn w)
 have HP:=hid (fun w=>shas_out a1 ha1 w)
 have HO:=hid (fun w=>swent_out b hb w)
 rw [ea1] at HH
 rw [ea2] at HP
 rw [eb2] at HO
 rw [mayC_iff.2 ha] at HA
 rw [mayC_iff.2 hb] at HB
 rw [decide_eq_true hn] at HW
 clear hn ha hb ea1 ea2 eb2 ha1
 go_enter Tryz.func159,Tryz.ntmps159
 go_wp2_with fail
 refine (HA.out _).mono ?_
 rintro e w1 ⟨rfl,h1⟩
 have F1:=F0.on h1
 clear h1 F0 c0 c1 c2 c3 cf HA
 obtain ⟨d0,d1,d2,d3,df⟩:=F1.2.1.cells
 go_wp2_with fail
 refine (HB.out _).mono ?_
 rintro e w2 ⟨rfl,h2⟩
 have F2:=F1.on h2
 clear h2 F1 d0 d1 d2 d3 df HB
 go_wp2_with fail
 refine (HW.out _).mono ?_
 rintro e w3 ⟨he,hw⟩
 rw [he,hw]
 clear he hw w3 HW
 obtain ⟨c0,c1,c2,c3,cf⟩:=F2.1.cells
 go_wp2_with fail
 refine (HH.out _).mono ?_
 rintro e w4 ⟨rfl,h4⟩
 have F4':=F2.on h4
 clear h4 F2 c0 c1 c2 c3 cf HH
 obtain ⟨c0,c1,c2,c3,cf⟩:=F4'.1.cells
 have F5:=F4'.putA a1.p a1.h a1.o a1.k
 obtain ⟨W5,eW5⟩:∃ W,(((w4.setCell ⟨w.heap.size,0,none⟩ (.int .i64 a1.p)).setCell ⟨w.heap.size,1,none⟩ (.int .i64 a1.h)).setCell ⟨w.heap.size,2,none⟩ (.int .i64 a1.o)).setCell ⟨w.heap.size,3,none⟩ (.int .i64 a1.k)=W:=⟨_,rfl⟩
 rw [eW5] at F5
 go_upto_region 6 with fail
 clear eW5 F4' c0 c1 c2 c3 cf
 go_upto_region 7 with fail
 obtain ⟨c0,c1,c2,c3,cf⟩:=F5.1.cells
 obtain ⟨d0,d1,d2,d3,df⟩:=F5.2.1.cells
 have q0:=Cl.cell c0
 have q1:=Cl.cell c1
 have q2:=Cl.cell c2
 have q3:=Cl.cell c3
 have r0:=Cl.cell d0
 have r1:=Cl.cell d1
 have r2:=Cl.cell d2
 have r3:=Cl.cell d3
 have hne:=Aft.here W5
 clear c0 c1 c2 c3 cf d0 d1 d2 d3 df
 refine region_rest 4 (by kernel_rfl) (by kernel_rfl) ?_
 simp only [List.take_succ_cons,List.take_zero,List.drop_succ_cons,List.drop_zero]
 repeat (go_big_quiet_step ((first | (go_at_call 202; with_reducible exact Calls.cl (HP.out _)) | (go_at_call 203; with_reducible exact Calls.cl (HO.out _)))))
 refine wpQuiet_nil ?_
 intro w6 h6
 have F6:=F5.on h6
 clear h6 F5 q0 q1 q2 q3 r0 r1 r2 r3 hne HP HO
 obtain ⟨c0,c1,c2,c3,cf⟩:=F6.1.cells
 obtain ⟨d0,d1,d2,d3,df⟩:=F6.2.1.cells
 have F7:=(F6.putA a2.p a2.h a2.o a2.k).putB b2.p b2.h b2.o b2.k
 obtain ⟨W7,eW7⟩:∃ W,(((((((w6.setCell ⟨w.heap.size,0,none⟩ (.int .i64 a2.p)).setCell ⟨w.heap.size,1,none⟩ (.int .i64 a2.h)).setCell ⟨w.heap.size,2,none⟩ (.int .i64 a2.o)).setCell ⟨w.heap.size,3,none⟩ (.int .i64 a2.k)).setCell ⟨w.heap.size+1,0,none⟩ (.int .i64 b2.p)).setCell ⟨w.heap.size+1,1,none⟩ (.int .i64 b2.h)).setCell ⟨w.heap.size+1,2,none⟩ (.int .i64 b2.o)).setCell ⟨w.heap.size+1,3,none⟩ (.int .i64 b2.k)=W:=⟨_,rfl⟩
 rw [eW7] at F7
 go_upto_region 8 with fail
 clear eW7 F6 c0 c1 c2 c3 cf d0 d1 d2 d3 df
 have F8:=F7.on ((Fr.refl _ W7).drew)
 obtain ⟨W8,eW8⟩:∃ W,W7.drew=W:=⟨_,rfl⟩
 rw [eW8] at F8
 clear F7
 obtain ⟨c0,c1,c2,c3,cf⟩:=F8.1.cells
 obtain ⟨d0,d1,d2,d3,df⟩:=F8.2.1.cells
 obtain ⟨k0,k1,k2,k3,kf⟩:=F8.2.2.1.cells
 have r9:=F8.2.2.1.put a2.p a2.h a2.o a2.k
 have s9:=F8.2.2.2.1.others (k:=w.heap.size+1+1) (by omega) a2.p a2.h a2.o a2.k
 have q9:=F8.2.1.others (k:=w.heap.size+1+1) (by omega) a2.p a2.h a2.o a2.k
 have HS9:=hid (setC_frC (setC_frC (setC_frC (setC_frC F8.2.2.2.2 (w.heap.size+1+1) 0 (.int .i64 a2.p) (by omega)) (w.heap.size+1+1) 1 (.int .i64 a2.h) (by omega)) (w.heap.size+1+1) 2 (.int .i64 a2.o) (by omega)) (w.heap.size+1+1) 3 (.int .i64 a2.k) (by omega))
 obtain ⟨W9,eW9⟩:∃ W,(((W8.setCell ⟨w.heap.size+1+1,0,none⟩ (.int .i64 a2.p)).setCell ⟨w.heap.size+1+1,1,none⟩ (.int .i64 a2.h)).setCell ⟨w.heap.size+1+1,2,none⟩ (.int .i64 a2.o)).setCell ⟨w.heap.size+1+1,3,none⟩ (.int .i64 a2.k)=W:=⟨_,rfl⟩
 rw [eW9] at r9 s9 q9 HS9
 obtain ⟨e0,e1,e2,e3,ef⟩:=q9.cells
 obtain ⟨g0,g1,g2,g3,gf⟩:=s9.cells
 clear F8
 go_region
 all_goals
  go_wp2_with fail
  (try simp only [Exit.inBlock,Exit.then])
  refine bodyPost_ret (Cb.res2 (r9.others (k:=w.heap.size+1+1+1) (by omega) _ _ _ _) (s9.put _ _ _ _) rfl _ _ rfl rfl rfl) rfl ⟨rfl, ?_⟩
  repeat (first | refine setC_frC ?_ _ _ _ (by omega) | with_reducible exact HS9.out)
theorem bdC_more {p n m:Int} (hp:-2147483647<=p) (hn:0<=n) (hm:0<=m):bdC (bdC (p+n)+m)=bdC (p+(n+m)):=by
 unfold bdC
 split <;> (try split) <;> (try split) <;> (try split) <;> omega
theorem shit_any (a b:Scr) (n:Int) (out:Bool) (w:World):Calls Tryz.prog 159 #[cv a,cv b,.int .i64 n,.bool out] w fun e w'=>e=.returned (.tuple #[cv (hit1 a b n out),cv (hit2 a b n out),.int .i64 (errC a b n)])/\Still w w':=by
 by_cases hm:MayC a/\MayC b
 ·obtain ⟨ha,hb⟩:=hm
  by_cases hn:1<=n/\n<=3
  ·have e0:=errC_yes ha hb hn
   have e1:hit1 a b n out=hitA a n out:=by unfold hit1; rw [if_pos e0]
   have e2:hit2 a b n out=hitW b out:=by unfold hit2; rw [if_pos e0]
   rw [e1,e2,e0]
   cases out with
   | false =>
    refine shit_no a b (hitA a n false) n ha hb hn ?_ w
    rfl
   | true =>
    obtain ⟨h1,h2,h3,h4⟩:=ha
    refine shit_out a b ⟨bdC (a.p+n),bdC (a.h+1),a.o,a.k⟩ (hitA a n true) (hitW b true) n ⟨h1,h2,h3,h4⟩ hb hn ⟨bdC_in _,⟨bdC_pos (by omega),(bdC_in _).2⟩,h3,h4⟩ rfl ?_ ?_ w
    ·show (⟨bdC (bdC (a.p+n)+(10+min a.k 5)),bdC (a.h+1),a.o,bdC (a.k+1)⟩:Scr)=⟨bdC (a.p+(n+10+(if a.k<5 then a.k else 5))),bdC (a.h+1),a.o,bdC (a.k+1)⟩
     rw [bdC_more h1.1 (by omega) (by omega),show n+(10+min a.k 5)=n+10+(if a.k<5 then a.k else 5) by split <;> omega]
    ·rfl
  ·have e0:=errC_arg ha hb hn
   have e1:hit1 a b n out=zC:=by unfold hit1; rw [e0]; rfl
   have e2:hit2 a b n out=zC:=by unfold hit2; rw [e0]; rfl
   rw [e1,e2,e0]
   exact shit_arg a b n out ha hb hn w
 ·have e0:=errC_may (w:=n) hm
  have e1:hit1 a b n out=zC:=by unfold hit1; rw [e0]; rfl
  have e2:hit2 a b n out=zC:=by unfold hit2; rw [e0]; rfl
  rw [e1,e2,e0]
  exact shit_may a b n out hm w
end Go.Proofs.YtlibdheihodniaaGreatDoor
