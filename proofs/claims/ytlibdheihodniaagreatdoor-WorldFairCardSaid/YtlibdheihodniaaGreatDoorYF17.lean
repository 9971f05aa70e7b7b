/- Parts of the proof, laid end to end. -/
import Derived.Test.YtlibdheihodniaaGreatDoorYF13
import Derived.Deep.RegionWith
import Derived.Deep.DeepCutAuto
import Derived.Test.YtlibdheihodniaaGreatDoorYF01
import Derived.Deep.RegionHeld3
import Derived.Test.YtlibdheihodniaaGreatDoorYF00
set_option maxHeartbeats 4000000
namespace Go.Proofs.YtlibdheihodniaaGreatDoor
open Go.RowKit
open Pu Gp Ap Vp Np
set_option maxRecDepth 100000
theorem act_may (m:Mv) (v a b c:Int) (hm:mayB m=false) (w:World):Calls Tryz.prog 100 #[mv m,od v a b c] w fun e w'=>e=.returned (.tuple #[mv zM,.bool false,.int .i64 80])/\Still w w':=by
 have A0:=Still.alloc w (.cells (mcs m) 48)
 have A1:=Still.alloc (newM w m) (.cells #[.int .i64 v,.int .i64 a,.int .i64 b,.int .i64 c] 58)
 have A2:=Still.alloc (newO (newM w m) v a b c) (.cells (mcs zM) 48)
 have p0:=((newM_mb w m).still A1).still A2
 have o0:=(newO_orb (newM w m) v a b c).still A2
 have q0:=newM_mb (newO (newM w m) v a b c) zM
 simp only [size_alloc] at o0 q0
 have HS0:=hid ((A0.trans A1).trans A2)
 clear A0 A1 A2
 obtain ⟨c0,c1,c2,c3,c4,c5,c6,c7,c8,c9,c10,c11,c12,cf⟩:=p0.cells
 obtain ⟨d0,d1,d2,d3,df⟩:=o0.cells
 have H:=hid (fun w=>check8_any m w)
 rw [show chkM m=80 by unfold chkM; rw [hm]; rfl] at H
 clear hm
 go_enter Tryz.func100,Tryz.ntmps100
 go_wp2_with fail
 refine (H.out _).mono ?_
 rintro e w1 ⟨rfl,h1⟩
 have q1:=q0.still h1
 have HS1:=hid (HS0.out.trans h1)
 clear h1 HS0 p0 o0 q0 c0 c1 c2 c3 c4 c5 c6 c7 c8 c9 c10 c11 c12 cf d0 d1 d2 d3 df
 obtain ⟨k0,k1,k2,k3,k4,k5,k6,k7,k8,k9,k10,k11,k12,kf⟩:=q1.cells
 go_wp2_with fail
 refine bodyPost_ret (Mb.rest3 (Mb.put q1 _ _ _ _ _ _ _ _ _ _ _ _ _) rfl _ _ _ rfl rfl rfl) rfl ⟨rfl, ?_⟩
 repeat (first | refine setC_fr ?_ _ _ _ (by omega) | with_reducible exact HS1.out)
theorem act_ord (m:Mv) (v a b c:Int) (x:Int) (hm:mayB m=true) (hc:chkO v a b c=x) (hx:x≠0) (w:World):Calls Tryz.prog 100 #[mv m,od v a b c] w fun e w'=>e=.returned (.tuple #[mv zM,.bool false,.int .i64 x])/\Still w w':=by
 have hx1:(x != 0)=true:=by simpa using hx
 clear hx
 have A0:=Still.alloc w (.cells (mcs m) 48)
 have A1:=Still.alloc (newM w m) (.cells #[.int .i64 v,.int .i64 a,.int .i64 b,.int .i64 c] 58)
 have A2:=Still.alloc (newO (newM w m) v a b c) (.cells (mcs zM) 48)
 have p0:=((newM_mb w m).still A1).still A2
 have o0:=(newO_orb (newM w m) v a b c).still A2
 have q0:=newM_mb (newO (newM w m) v a b c) zM
 simp only [size_alloc] at o0 q0
 have HS0:=hid ((A0.trans A1).trans A2)
 clear A0 A1 A2
 obtain ⟨c0,c1,c2,c3,c4,c5,c6,c7,c8,c9,c10,c11,c12,cf⟩:=p0.cells
 obtain ⟨d0,d1,d2,d3,df⟩:=o0.cells
 have H:=hid (fun w=>check8_any m w)
 rw [show chkM m=0 by unfold chkM; rw [hm]; rfl] at H
 have HO:=hid (fun u=>vcheck_any v a b c u)
 rw [hc] at HO
 clear hm hc
 go_enter Tryz.func100,Tryz.ntmps100
 go_wp2_with fail
 refine (H.out _).mono ?_
 rintro e w1 ⟨rfl,h1⟩
 have p1:=p0.still h1
 have o1:=o0.still h1
 have q1:=q0.still h1
 have HS1:=hid (HS0.out.trans h1)
 clear h1 HS0 p0 o0 q0 c0 c1 c2 c3 c4 c5 c6 c7 c8 c9 c10 c11 c12 cf d0 d1 d2 d3 df H
 obtain ⟨d0,d1,d2,d3,df⟩:=o1.cells
 go_wp2_with fail
 refine (HO.out _).mono ?_
 rintro e w2 ⟨rfl,h2⟩
 have p2:=p1.still h2
 have o2:=o1.still h2
 have q2:=q1.still h2
 have HS2:=hid (HS1.out.trans h2)
 clear h2 HS1 p1 o1 q1 d0 d1 d2 d3 df HO
 obtain ⟨k0,k1,k2,k3,k4,k5,k6,k7,k8,k9,k10,k11,k12,kf⟩:=q2.cells
 go_wp2_with fail
 refine bodyPost_ret (Mb.rest3 (Mb.put q2 _ _ _ _ _ _ _ _ _ _ _ _ _) rfl _ _ _ rfl rfl rfl) rfl ⟨rfl, ?_⟩
 repeat (first | refine setC_fr ?_ _ _ _ (by omega) | with_reducible exact HS2.out)
theorem act_out (m:Mv) (v a b c:Int) (hm:mayB m=true) (hc:chkO v a b c=0) (h0:(m.ou == 0)=false) (w:World):Calls Tryz.prog 100 #[mv m,od v a b c] w fun e w'=>e=.returned (.tuple #[mv m,.bool false,.int .i64 0])/\Still w w':=by
 have A0:=Still.alloc w (.cells (mcs m) 48)
 have A1:=Still.alloc (newM w m) (.cells #[.int .i64 v,.int .i64 a,.int .i64 b,.int .i64 c] 58)
 have A2:=Still.alloc (newO (newM w m) v a b c) (.cells (mcs zM) 48)
 have p0:=((newM_mb w m).still A1).still A2
 have o0:=(newO_orb (newM w m) v a b c).still A2
 have q0:=newM_mb (newO (newM w m) v a b c) zM
 simp only [size_alloc] at o0 q0
 have HS0:=hid ((A0.trans A1).trans A2)
 clear A0 A1 A2
 obtain ⟨c0,c1,c2,c3,c4,c5,c6,c7,c8,c9,c10,c11,c12,cf⟩:=p0.cells
 obtain ⟨d0,d1,d2,d3,df⟩:=o0.cells
 have H:=hid (fun w=>check8_any m w)
 rw [show chkM m=0 by unfold chkM; rw [hm]; rfl] at H
 have HO:=hid (fun u=>vcheck_any v a b c u)
 rw [hc] at HO
 clear hm hc
 go_enter Tryz.func100,Tryz.ntmps100
 go_wp2_with fail
 refine (H.out _).mono ?_
 rintro e w1 ⟨rfl,h1⟩
 have p1:=p0.still h1
 have o1:=o0.still h1
 have q1:=q0.still h1
 have HS1:=hid (HS0.out.trans h1)
 clear h1 HS0 p0 o0 q0 c0 c1 c2 c3 c4 c5 c6 c7 c8 c9 c10 c11 c12 cf d0 d1 d2 d3 df H
 obtain ⟨d0,d1,d2,d3,df⟩:=o1.cells
 go_wp2_with fail
 refine (HO.out _).mono ?_
 rintro e w2 ⟨rfl,h2⟩
 have p2:=p1.still h2
 have o2:=o1.still h2
 have q2:=q1.still h2
 have HS2:=hid (HS1.out.trans h2)
 clear h2 HS1 p1 o1 q1 d0 d1 d2 d3 df HO
 have AW:=Still.alloc w2 (.cells (mcs m) 142)
 have g2:Wb (w2.alloc (.cells (mcs m) 142)) w2.heap.size m:=newW_wb w2 m
 have HL:=hid (And.intro HS2.out.size q2.lt)
 have HS3:=hid (HS2.out.trans AW)
 have o3:=o2.still AW
 have q3:=q2.still AW
 obtain ⟨c0,c1,c2,c3,c4,c5,c6,c7,c8,c9,c10,c11,c12,cf⟩:=p2.cells
 clear AW HS2 o2 q2
 have HP:=hid (fun w=>inplay_any m w)
 rw [h0] at HP
 clear h0
 obtain ⟨W,eW⟩:∃ W,w2.alloc (.cells (mcs m) 142)=W:=⟨_,rfl⟩
 rw [eW] at g2 HS3 o3 q3
 simp only [mcs] at eW
 go_upto_region 8 with fail
 clear eW p2 c0 c1 c2 c3 c4 c5 c6 c7 c8 c9 c10 c11 c12 cf
 obtain ⟨c0,c1,c2,c3,c4,c5,c6,c7,c8,c9,c10,c11,c12,cf⟩:=g2.cells
 have k0:=Cl.cell c0
 have k1:=Cl.cell c1
 have k2:=Cl.cell c2
 have k3:=Cl.cell c3
 have k4:=Cl.cell c4
 have k5:=Cl.cell c5
 have k6:=Cl.cell c6
 have k7:=Cl.cell c7
 have k8:=Cl.cell c8
 have k9:=Cl.cell c9
 have k10:=Cl.cell c10
 have k11:=Cl.cell c11
 have k12:=Cl.cell c12
 have hne:=Aft.here W
 clear c0 c1 c2 c3 c4 c5 c6 c7 c8 c9 c10 c11 c12 cf
 refine region_all (by kernel_rfl) (by kernel_rfl) ?_
 repeat (go_big_quiet_step ((go_at_call 129; exact Calls.cl (HP.out _))))
 refine wpQuiet_nil ?_
 intro w3 hs
 clear hne k0 k1 k2 k3 k4 k5 k6 k7 k8 k9 k10 k11 k12
 have g4:=g2.still hs
 have q4:=q3.still hs
 have HS4:=hid (HS3.out.trans hs)
 clear hs g2 q3 o3 HS3
 obtain ⟨c0,c1,c2,c3,c4,c5,c6,c7,c8,c9,c10,c11,c12,cf⟩:=g4.cells
 obtain ⟨k0,k1,k2,k3,k4,k5,k6,k7,k8,k9,k10,k11,k12,kf⟩:=q4.cells
 go_wp2_with fail
 refine bodyPost_ret (Mb.rest3 (Mb.put q4 _ _ _ _ _ _ _ _ _ _ _ _ _) rfl _ _ _ rfl rfl rfl) rfl ⟨rfl, ?_⟩
 repeat (first | refine setC_fr ?_ _ _ _ (by omega) | with_reducible exact HS4.out)
theorem act_in (m:Mv) (v a b c:Int) (f:Nat) (D:Bool) (n:Mv) (hm:mayB m=true) (hc:chkO v a b c=0) (h0:(m.ou == 0)=true) (hl8:∀ w bl,Dsb w bl->(Instr.lookup 203 (.map (some bl)) (.int .i64 v) false).run Tryz.prog w=.ok (mth f) w) (ef:∀ args w,(callFunc f args).run Tryz.prog w=.ok (.enter f args) w) (x:World) (hM:∀ w g,Still x w->x.heap.size<=g->Wb w g m->Calls Tryz.prog f #[.pointer (some ⟨g,0,none⟩),od v a b c] w fun e w'=>e=.returned (.bool D)/\Dn g w w' n) (w:World) (hxw:x=w):Calls Tryz.prog 100 #[mv m,od v a b c] w fun e w'=>e=.returned (.tuple #[mv n,.bool D,.int .i64 0])/\Still w w':=by
 have HL8:=hid hl8
 have HM8:=hid hM
 have HX:=hid hxw
 clear hl8 hM hxw
 have A0:=Still.alloc w (.cells (mcs m) 48)
 have A1:=Still.alloc (newM w m) (.cells #[.int .i64 v,.int .i64 a,.int .i64 b,.int .i64 c] 58)
 have A2:=Still.alloc (newO (newM w m) v a b c) (.cells (mcs zM) 48)
 have p0:=((newM_mb w m).still A1).still A2
 have o0:=(newO_orb (newM w m) v a b c).still A2
 have q0:=newM_mb (newO (newM w m) v a b c) zM
 simp only [size_alloc] at o0 q0
 have HS0:=hid ((A0.trans A1).trans A2)
 clear A0 A1 A2
 obtain ⟨c0,c1,c2,c3,c4,c5,c6,c7,c8,c9,c10,c11,c12,cf⟩:=p0.cells
 obtain ⟨d0,d1,d2,d3,df⟩:=o0.cells
 have H:=hid (fun w=>check8_any m w)
 rw [show chkM m=0 by unfold chkM; rw [hm]; rfl] at H
 have HO:=hid (fun u=>vcheck_any v a b c u)
 rw [hc] at HO
 clear hm hc
 go_enter Tryz.func100,Tryz.ntmps100
 go_wp2_with fail
 refine (H.out _).mono ?_
 rintro e w1 ⟨rfl,h1⟩
 have p1:=p0.still h1
 have o1:=o0.still h1
 have q1:=q0.still h1
 have HS1:=hid (HS0.out.trans h1)
 clear h1 HS0 p0 o0 q0 c0 c1 c2 c3 c4 c5 c6 c7 c8 c9 c10 c11 c12 cf d0 d1 d2 d3 df H
 obtain ⟨d0,d1,d2,d3,df⟩:=o1.cells
 go_wp2_with fail
 refine (HO.out _).mono ?_
 rintro e w2 ⟨rfl,h2⟩
 have p2:=p1.still h2
 have o2:=o1.still h2
 have q2:=q1.still h2
 have HS2:=hid (HS1.out.trans h2)
 clear h2 HS1 p1 o1 q1 d0 d1 d2 d3 df HO
 have AW:=Still.alloc w2 (.cells (mcs m) 142)
 have g2:Wb (w2.alloc (.cells (mcs m) 142)) w2.heap.size m:=newW_wb w2 m
 have HL:=hid (And.intro HS2.out.size q2.lt)
 have HS3:=hid (HS2.out.trans AW)
 have o3:=o2.still AW
 have q3:=q2.still AW
 obtain ⟨c0,c1,c2,c3,c4,c5,c6,c7,c8,c9,c10,c11,c12,cf⟩:=p2.cells
 clear AW HS2 o2 q2
 have HP:=hid (fun w=>inplay_any m w)
 rw [h0] at HP
 clear h0
 have HMg:Hid (∀ u,Still w u->Wb u w2.heap.size m->Calls Tryz.prog f #[.pointer (some ⟨w2.heap.size,0,none⟩),od v a b c] u fun e w'=>e=.returned (.bool D)/\Dn w2.heap.size u w' n):=hid (fun u hu hw=>HM8.out u _ (by rw [HX.out]; exact hu) (by rw [HX.out]; exact HL.out.1) hw)
 clear HM8 HX
 obtain ⟨W,eW⟩:∃ W,w2.alloc (.cells (mcs m) 142)=W:=⟨_,rfl⟩
 rw [eW] at g2 HS3 o3 q3
 simp only [mcs] at eW
 go_upto_region 8 with fail
 clear eW p2 c0 c1 c2 c3 c4 c5 c6 c7 c8 c9 c10 c11 c12 cf
 obtain ⟨c0,c1,c2,c3,c4,c5,c6,c7,c8,c9,c10,c11,c12,cf⟩:=g2.cells
 obtain ⟨d0,d1,d2,d3,df⟩:=o3.cells
 go_cut [10] (fun vv wx=>vv=.bool D/\Mb wx (w.heap.size+1+1) zM/\Wb wx w2.heap.size n/\Still w wx)
 case first =>
  go_region_with (first | (go_at_call 129; refine (HP.out _).mono ?_; rintro e w3 ⟨rfl,h3⟩; have g3:=g2.still (Still.undrew h3); have o4:=o3.still (Still.undrew h3); have q4:=q3.still (Still.undrew h3); have HS4:=hid (HS3.out.trans (Still.undrew h3)); clear h3; obtain ⟨i0,i1,i2,i3,jf⟩:=o4.cells) | (go_at_call 141; refine (deeds_any _).mono ?_; rintro e w4 ⟨bl,rfl,hbl,hds,h4⟩; have hl:=HL8.out w4 bl hds; have g5:=g3.still h4; have o5:=o4.still h4; have q5:=q4.still h4; have HS5:=hid (HS4.out.trans h4); clear h4 hbl hds; obtain ⟨j0,j1,j2,j3,jjf⟩:=o5.cells) | (refine (HMg.out w4 HS5.out g5).mono ?_; rintro e w5 ⟨rfl,hd⟩))
  all_goals
   go_wp2_with fail
   go_meet
   have HS6:=hd.over HS5.out HL.out.1
   exact ⟨rfl,hd.2.kept q5 (by have:=HL.out.2; omega),hd.1,HS6⟩
 case rest =>
  obtain ⟨rfl,q6,g6,hs6⟩:=hcut
  have HS6:=hid hs6
  clear hs6 c0 c1 c2 c3 c4 c5 c6 c7 c8 c9 c10 c11 c12 cf d0 d1 d2 d3 df
  obtain ⟨c0,c1,c2,c3,c4,c5,c6,c7,c8,c9,c10,c11,c12,cf⟩:=g6.cells
  obtain ⟨k0,k1,k2,k3,k4,k5,k6,k7,k8,k9,k10,k11,k12,kf⟩:=q6.cells
  go_wp2_with fail
  refine bodyPost_ret (Mb.rest3 (Mb.put q6 _ _ _ _ _ _ _ _ _ _ _ _ _) rfl _ _ _ rfl rfl rfl) rfl ⟨rfl, ?_⟩
  repeat (first | refine setC_fr ?_ _ _ _ (by omega) | with_reducible exact HS6.out)
theorem act_any (m:Mv) (v a b c:Int) (w:World) (ht:Tab w):Calls Tryz.prog 100 #[mv m,od v a b c] w fun e w'=>e=.returned (.tuple #[mv (actM m v a b c),.bool (actD m v a b c),.int .i64 (errA m v a b c)])/\Still w w':=by
 cases hm:mayB m with
 | false =>
  have e:errA m v a b c=80:=by unfold errA; rw [hm]; rfl
  have e2:actD m v a b c=false:=by unfold actD; rw [e]; rfl
  have e3:actM m v a b c=zM:=by unfold actM; rw [e]; rfl
  rw [e,e2,e3]
  exact act_may m v a b c hm w
 | true =>
  have e:errA m v a b c=chkO v a b c:=by unfold errA; rw [hm]; rfl
  by_cases hc:chkO v a b c=0
  ·rw [hc] at e
   by_cases h0:m.ou=0
   ·obtain ⟨g1,g2,g3,g4,g5,g6,g7,g8,g9,g10,g11⟩:=mayB_iff.1 hm
    have e2:actD m v a b c=doneA m v a:=by unfold actD; rw [e]; simp
    have e3:actM m v a b c=dnM m v a b:=by unfold actM dnM; rw [e]; rfl
    rw [e,e2,e3]
    obtain ⟨f,hf⟩:∃ f,∀ g,w.heap.size<=g->Mth w g m v a b c f:=meth8g w m v a b c ht h0 g6.1 g6.2 g7.1 hc
    exact act_in m v a b c f _ _ hm hc (by simpa using h0) (hf _ (Nat.le_refl _)).look (hf _ (Nat.le_refl _)).enter w (fun u g hu hg hw=>(hf g hg).does u hu hw) w rfl
   ·have hz:(m.ou == 0)=false:=by simpa using h0
    have d:doneA m v a=false:=by unfold doneA; rw [hz]; rfl
    have e2:actD m v a b c=false:=by unfold actD; rw [d]; simp
    have e3:actM m v a b c=m:=by unfold actM; rw [e,d]; rfl
    rw [e,e2,e3]
    exact act_out m v a b c hm hc hz w
  ·have e2:actD m v a b c=false:=by unfold actD; rw [e]; simp [hc]
   have e3:actM m v a b c=zM:=by unfold actM; rw [e,if_neg hc]
   rw [e,e2,e3]
   exact act_ord m v a b c _ hm rfl hc w
theorem driven_any (s p SX P:Int) (s1:-1024<=s) (s2:s<=1024) (p1:-256<=p) (p2:p<=256) (eSX:(s*7).tdiv 8=SX) (x1:-1024<=SX) (x2:SX<=1024) (eP:clampf (SX+p) (-1024) 1024=P) (w:World):Calls Tryz.prog 193 #[.int .i64 s,.int .i64 p] w fun e w'=>e=.returned (.int .i64 P)/\w'=w:=by
 have HP:Hid (min (max (SX+p) (-1024)) 1024=P):=hid (by
  rw [<- eP]
  unfold clampf
  rw [bnd_is.2 (show -2147483647<=SX+p/\SX+p<=2147483647 by omega),bnd_is.2 (show -2147483647<=(1024:Int)/\(1024:Int)<=2147483647 by omega),bnd_is.2 (show -2147483647<=(-1024:Int)/\(-1024:Int)<=2147483647 by omega)]
  repeat' split
  all_goals omega)
 clear eP
 go_enter Tryz.func193,Tryz.ntmps193
 go_wp2_with fail
 go_ret
 exact ⟨by rw [<- HP.out]; rfl,rfl⟩
theorem bounced_any (P DP:Int) (e:P.tdiv 2=DP) (d1:-1024<=DP) (d2:DP<=1024) (w:World):Calls Tryz.prog 195 #[.int .i64 P] w fun e w'=>e=.returned (.int .i64 (-DP))/\w'=w:=by
 go_enter Tryz.func195,Tryz.ntmps195
 go_wp2_with fail
 go_ret
 exact ⟨rfl,rfl⟩
theorem Wb.spd {w:World} {g:Nat} {m:Mv} (h:Wb w g m) (x y:Int):Wb ((w.setCell ⟨g,2,none⟩ (.int .i64 x)).setCell ⟨g,3,none⟩ (.int .i64 y)) g { m with sx:=x,sy:=y }:=(h.sx x).sy y
theorem wglide (g : Nat) (m : Mv) (C R : Int) (s : ByteArray) (P Q X Y N DP DQ : Int) (hN : N = 0 \/ N = 1 \/ N = 2 \/ N = 3)
    (H1:Hid (∀ u:World,Calls Tryz.prog 193 #[.int .i64 m.sx,.int .i64 m.px] u fun e w'=>e=.returned (.int .i64 P)/\w'=u)) (H2:Hid (∀ u:World,Calls Tryz.prog 193 #[.int .i64 m.sy,.int .i64 m.py] u fun e w'=>e=.returned (.int .i64 Q)/\w'=u))
    (B1:Hid (∀ u:World,Calls Tryz.prog 195 #[.int .i64 P] u fun e w'=>e=.returned (.int .i64 (-DP))/\w'=u)) (B2:Hid (∀ u:World,Calls Tryz.prog 195 #[.int .i64 Q] u fun e w'=>e=.returned (.int .i64 (-DQ))/\w'=u))
    (HSl:Hid (∀ u:World,Calls Tryz.prog 194 #[ar C R s,pt m.ax m.ay,pt P Q,.int .i64 1280] u fun e w'=>e=.returned (.tuple #[pt X Y,.int .i64 N])/\Still u w')) (w:World) (hw:Wb w g m) :
    Calls Tryz.prog 143 #[.pointer (some ⟨g,0,none⟩),ar C R s] w fun e w'=>e=.returned (.tuple #[])/\Dn g w w' { m with ax:=X,ay:=Y,sx:=if N % 2=1 then -DP else P,sy:=if 2<=N then -DQ else Q }:=by
  have HN:=hid hN
  have A0:=Still.alloc w (.cells #[.int .i64 C,.int .i64 R,.string s] 24)
  have p0:=hw.still A0
  have a0:=newA_ab w C R s
  have HL:=hid hw.lt
  have HF0:=hid (Still.to (F:=fun k=>k=g) A0)
  clear A0 hw hN
  obtain ⟨W,eW⟩:∃ W,w.alloc (.cells #[.int .i64 C,.int .i64 R,.string s] 24)=W:=⟨_,rfl⟩
  have a1:Ab W w.heap.size C R s:=by rw [<- eW]; exact a0
  rw [eW] at p0 HF0
  clear a0
  go_enter Tryz.func143,Tryz.ntmps143
  go_upto_region 1 with fail
  clear eW
  obtain ⟨c0,c1,c2,c3,c4,c5,c6,c7,c8,c9,c10,c11,c12,cf⟩:=p0.cells
  have k2:=Cl.cell c2
  have k3:=Cl.cell c3
  have k4:=Cl.cell c4
  have k5:=Cl.cell c5
  have hne:=Aft.here W
  clear c0 c1 c2 c3 c4 c5 c6 c7 c8 c9 c10 c11 c12 cf
  refine region_rest 31 (by kernel_rfl) (by kernel_rfl) ?_
  simp only [List.take_succ_cons,List.take_zero,List.drop_succ_cons,List.drop_zero]
  repeat (go_big_quiet_step ((first | (go_at_call 193; with_reducible exact Calls.cl_same (H1.out _)) | (go_at_call 193; with_reducible exact Calls.cl_same (H2.out _)))))
  refine wpQuiet_nil ?_
  intro w1 hs
  clear hne k2 k3 k4 k5
  have p1:=p0.still hs
  have a2:=a1.still hs
  have HF1:=hid (Fr.trans HF0.out (Still.to (F:=fun k=>k=g) hs) fun _ _ e=>e)
  clear hs p0 HF0 a1
  obtain ⟨c0,c1,c2,c3,c4,c5,c6,c7,c8,c9,c10,c11,c12,cf⟩:=p1.cells
  have p2:=p1.spd P Q
  have a3:Ab ((w1.setCell ⟨g,2,none⟩ (.int .i64 P)).setCell ⟨g,3,none⟩ (.int .i64 Q)) w.heap.size C R s:=by
    have:=HL.out
    unfold Ab at a2 ⊢
    rw [heap_setCell_other _ _ _ _ (by show w.heap.size≠g; omega),heap_setCell_other _ _ _ _ (by show w.heap.size≠g; omega)]
    exact a2
  have HF2:=hid ((HF1.out.setCell ⟨g,2,none⟩ (.int .i64 P) (.inl rfl)).setCell ⟨g,3,none⟩ (.int .i64 Q) (.inl rfl))
  obtain ⟨W2,eW2⟩:∃ W2,(w1.setCell ⟨g,2,none⟩ (.int .i64 P)).setCell ⟨g,3,none⟩ (.int .i64 Q)=W2:=⟨_,rfl⟩
  rw [eW2] at p2 a3 HF2
  go_upto_region 2 with fail
  clear eW2 p1 a2 HF1 H1 H2 c0 c1 c2 c3 c4 c5 c6 c7 c8 c9 c10 c11 c12 cf
  obtain ⟨c0,c1,c2,c3,c4,c5,c6,c7,c8,c9,c10,c11,c12,cf⟩:=p2.cells
  obtain ⟨i0,i1,i2,jf⟩:=a3.cells
  have HLb:=hid (And.intro p2.lt HF2.out.size)
  have n1:W2.heap.size≠g:=by have:=p2.lt; omega
  have n2:W2.heap.size≠w.heap.size:=by have:=block_lt a3; omega
  go_cut [4,5] (fun v4 v5 wx=>∃ b,v4=.pointer (some ⟨b,0,none⟩)/\v5=.int .i64 N/\Pb wx b X Y/\Wb wx g { m with sx:=P,sy:=Q }/\g≠b/\Fr (fun k=>k=g) w wx)
  case first =>
    go_region_held3 (fun w'=>w'.cell? ⟨w.heap.size,0,none⟩=some (.int .i64 C)/\w'.cell? ⟨w.heap.size,1,none⟩=some (.int .i64 R)/\w'.cell? ⟨w.heap.size,2,none⟩=some (.string s)/\w'.cell? ⟨g,0,none⟩=some (.int .i64 m.ax)/\w'.cell? ⟨g,1,none⟩=some (.int .i64 m.ay)/\w'.cell? ⟨g,2,none⟩=some (.int .i64 P)/\w'.cell? ⟨g,3,none⟩=some (.int .i64 Q)) (go_keep)
      (first
        | (go_at_call 194
           refine (HSl.out _).mono ?_
           rintro e w5 ⟨rfl,h5⟩
           have hX:Still W2 w5:=by first | exact Still.undrew h5 | exact (Still.alloc W2 (.cells #[.int .i64 0,.int .i64 0] 46)).trans (Still.undrew h5)
           have p5:=p2.still hX
           have a5:=a3.still hX
           obtain ⟨y0,y1,y2,y3,_⟩:=p5.cells
           obtain ⟨z0,z1,z2,_⟩:=a5.cells
           (try have x5:Pb w5 W2.heap.size 0 0:=(newP_pb W2 0 0).still (Still.undrew h5))
           (try obtain ⟨e0,e1,ef⟩:=x5.cells)
           have n3:w5.heap.size≠g:=by have:=p5.lt; omega
           have n4:w5.heap.size≠w.heap.size:=by have:=block_lt a5; omega
           have HX:=hid hX
           clear hX h5))
    · go_wp2_with fail
      go_meet
      exact ⟨w5.heap.size,rfl,rfl,newP_pb w5 X Y,p5.still (Still.alloc _ _),by have:=p5.lt; omega,(Fr.trans HF2.out (Still.to (F:=fun k=>k=g) HX.out) fun _ _ e=>e).alloc _⟩
    · go_wp2_with fail
      go_meet
      exact ⟨W2.heap.size,rfl,rfl,x5.set X Y,(p5.other _ 0 _ n1.symm).other _ 1 _ n1.symm,n1.symm,((Fr.trans HF2.out (Still.to (F:=fun k=>k=g) HX.out) fun _ _ e=>e).setCell _ _ (.inr HLb.out.2)).setCell _ _ (.inr HLb.out.2)⟩
  case rest =>
    obtain ⟨b,rfl,rfl,x6,p6,NG,hf6⟩:=hcut
    have HF6:=hid hf6
    have NB:b≠g:=fun e=>NG e.symm
    clear hf6 p2 a3 HF2 HLb n1 n2 i0 i1 i2 jf c0 c1 c2 c3 c4 c5 c6 c7 c8 c9 c10 c11 c12 cf
    obtain ⟨c0,c1,c2,c3,c4,c5,c6,c7,c8,c9,c10,c11,c12,cf⟩:=p6.cells
    obtain ⟨e0,e1,ef⟩:=x6.cells
    have p7:=(p6.ax X).ay Y
    rcases HN.out with rfl | rfl | rfl | rfl
    · go_wp2_with fail
      go_end0
      refine ⟨rfl,p7, ?_⟩
      repeat (first | refine Fr.setCell ?_ _ _ (.inl rfl) | with_reducible exact HF6.out)
    · go_wp2_with fail
      refine (B1.out _).mono ?_
      rintro e w' ⟨he,hw⟩
      rw [he,hw]
      clear he hw w'
      go_wp2_with fail
      go_end0
      refine ⟨rfl,p7.sx _, ?_⟩
      repeat (first | refine Fr.setCell ?_ _ _ (.inl rfl) | with_reducible exact HF6.out)
    · go_wp2_with fail
      refine (B2.out _).mono ?_
      rintro e w' ⟨he,hw⟩
      rw [he,hw]
      clear he hw w'
      go_wp2_with fail
      go_end0
      refine ⟨rfl,p7.sy _, ?_⟩
      repeat (first | refine Fr.setCell ?_ _ _ (.inl rfl) | with_reducible exact HF6.out)
    · go_wp2_with fail
      refine (B1.out _).mono ?_
      rintro e w' ⟨he,hw⟩
      rw [he,hw]
      clear he hw w'
      go_wp2_with fail
      refine (B2.out _).mono ?_
      rintro e w' ⟨he,hw⟩
      rw [he,hw]
      clear he hw w'
      go_wp2_with fail
      go_end0
      refine ⟨rfl,(p7.sx _).sy _, ?_⟩
      repeat (first | refine Fr.setCell ?_ _ _ (.inl rfl) | with_reducible exact HF6.out)
theorem glide_may (m:Mv) (C R:Int) (s:ByteArray) (hm:mayB m=false) (w:World):Calls Tryz.prog 103 #[mv m,ar C R s] w fun e w'=>e=.returned (.tuple #[mv zM,.int .i64 80])/\Still w w':=by
 have A0:=Still.alloc w (.cells (mcs m) 48)
 have A1:=Still.alloc (newM w m) (.cells #[.int .i64 C,.int .i64 R,.string s] 24)
 have A2:=Still.alloc (newA (newM w m) C R s) (.cells (mcs zM) 48)
 have p0:=((newM_mb w m).still A1).still A2
 have o0:=(newA_ab (newM w m) C R s).still A2
 have q0:=newM_mb (newA (newM w m) C R s) zM
 simp only [size_alloc] at o0 q0
 have HS0:=hid ((A0.trans A1).trans A2)
 clear A0 A1 A2
 obtain ⟨c0,c1,c2,c3,c4,c5,c6,c7,c8,c9,c10,c11,c12,cf⟩:=p0.cells
 have H:=hid (fun w=>check8_any m w)
 rw [show chkM m=80 by unfold chkM; rw [hm]; rfl] at H
 clear hm
 go_enter Tryz.func103,Tryz.ntmps103
 go_wp2_with fail
 refine (H.out _).mono ?_
 rintro e w1 ⟨rfl,h1⟩
 have p1:=p0.still h1
 have o1:=o0.still h1
 have q1:=q0.still h1
 have HS1:=hid (HS0.out.trans h1)
 clear h1 HS0 p0 o0 q0 c0 c1 c2 c3 c4 c5 c6 c7 c8 c9 c10 c11 c12 cf H
 obtain ⟨c0,c1,c2,c3,c4,c5,c6,c7,c8,c9,c10,c11,c12,cf⟩:=p1.cells
 obtain ⟨k0,k1,k2,k3,k4,k5,k6,k7,k8,k9,k10,k11,k12,kf⟩:=q1.cells
 go_wp2_with fail
 refine bodyPost_ret (Mb.rest (Mb.put q1 _ _ _ _ _ _ _ _ _ _ _ _ _) rfl _ _ rfl rfl) rfl ⟨rfl, ?_⟩
 repeat (first | refine setC_fr ?_ _ _ _ (by omega) | with_reducible exact HS1.out)
theorem glide_out (m:Mv) (C R:Int) (s:ByteArray) (hm:mayB m=true) (h0:(m.ou == 0)=false) (w:World):Calls Tryz.prog 103 #[mv m,ar C R s] w fun e w'=>e=.returned (.tuple #[mv m,.int .i64 0])/\Still w w':=by
 have A0:=Still.alloc w (.cells (mcs m) 48)
 have A1:=Still.alloc (newM w m) (.cells #[.int .i64 C,.int .i64 R,.string s] 24)
 have A2:=Still.alloc (newA (newM w m) C R s) (.cells (mcs zM) 48)
 have p0:=((newM_mb w m).still A1).still A2
 have o0:=(newA_ab (newM w m) C R s).still A2
 have q0:=newM_mb (newA (newM w m) C R s) zM
 simp only [size_alloc] at o0 q0
 have HS0:=hid ((A0.trans A1).trans A2)
 clear A0 A1 A2
 obtain ⟨c0,c1,c2,c3,c4,c5,c6,c7,c8,c9,c10,c11,c12,cf⟩:=p0.cells
 have H:=hid (fun w=>check8_any m w)
 rw [show chkM m=0 by unfold chkM; rw [hm]; rfl] at H
 clear hm
 have HP:=hid (fun w=>inplay_any m w)
 rw [h0] at HP
 clear h0
 go_enter Tryz.func103,Tryz.ntmps103
 go_wp2_with fail
 refine (H.out _).mono ?_
 rintro e w1 ⟨rfl,h1⟩
 have p1:=p0.still h1
 have o1:=o0.still h1
 have q1:=q0.still h1
 have HS1:=hid (HS0.out.trans h1)
 clear h1 HS0 p0 o0 q0 c0 c1 c2 c3 c4 c5 c6 c7 c8 c9 c10 c11 c12 cf H
 obtain ⟨c0,c1,c2,c3,c4,c5,c6,c7,c8,c9,c10,c11,c12,cf⟩:=p1.cells
 obtain ⟨k0,k1,k2,k3,k4,k5,k6,k7,k8,k9,k10,k11,k12,kf⟩:=q1.cells
 go_wp2_with fail
 have AW:=Still.alloc w1 (.cells (mcs m) 142)
 have g2:Wb (w1.alloc (.cells (mcs m) 142)) w1.heap.size m:=newW_wb w1 m
 have HL:=hid (And.intro HS1.out.size q1.lt)
 have HS2:=hid (HS1.out.trans AW)
 have q2:=q1.still AW
 have o2:=o1.still AW
 refine (HP.out _).mono ?_
 rintro e w3 ⟨rfl,h3⟩
 have g3:=g2.still h3
 have q3:=q2.still h3
 have o3:=o2.still h3
 have HS3:=hid (HS2.out.trans h3)
 clear h3 g2 q2 o2 HS2 AW HS1 p1 q1 o1 c0 c1 c2 c3 c4 c5 c6 c7 c8 c9 c10 c11 c12 cf k0 k1 k2 k3 k4 k5 k6 k7 k8 k9 k10 k11 k12 kf
 obtain ⟨c0,c1,c2,c3,c4,c5,c6,c7,c8,c9,c10,c11,c12,cf⟩:=g3.cells
 obtain ⟨k0,k1,k2,k3,k4,k5,k6,k7,k8,k9,k10,k11,k12,kf⟩:=q3.cells
 obtain ⟨i0,i1,i2,jf⟩:=o3.cells
 go_wp2_with fail
 refine bodyPost_ret (Mb.rest (Mb.put q3 _ _ _ _ _ _ _ _ _ _ _ _ _) rfl _ _ rfl rfl) rfl ⟨rfl, ?_⟩
 repeat (first | refine setC_fr ?_ _ _ _ (by omega) | with_reducible exact HS3.out)
theorem glide_in (m:Mv) (C R:Int) (s:ByteArray) (n:Mv) (hm:mayB m=true) (h0:(m.ou == 0)=true) (hM:∀ w g,Wb w g m->Calls Tryz.prog 143 #[.pointer (some ⟨g,0,none⟩),ar C R s] w fun e w'=>e=.returned (.tuple #[])/\Dn g w w' n) (w:World):Calls Tryz.prog 103 #[mv m,ar C R s] w fun e w'=>e=.returned (.tuple #[mv n,.int .i64 0])/\Still w w':=by
 have HM:=hid hM
 clear hM
 have A0:=Still.alloc w (.cells (mcs m) 48)
 have A1:=Still.alloc (newM w m) (.cells #[.int .i64 C,.int .i64 R,.string s] 24)
 have A2:=Still.alloc (newA (newM w m) C R s) (.cells (mcs zM) 48)
 have p0:=((newM_mb w m).still A1).still A2
 have o0:=(newA_ab (newM w m) C R s).still A2
 have q0:=newM_mb (newA (newM w m) C R s) zM
 simp only [size_alloc] at o0 q0
 have HS0:=hid ((A0.trans A1).trans A2)
 clear A0 A1 A2
 obtain ⟨c0,c1,c2,c3,c4,c5,c6,c7,c8,c9,c10,c11,c12,cf⟩:=p0.cells
 have H:=hid (fun w=>check8_any m w)
 rw [show chkM m=0 by unfold chkM; rw [hm]; rfl] at H
 clear hm
 have HP:=hid (fun w=>inplay_any m w)
 rw [h0] at HP
 clear h0
 go_enter Tryz.func103,Tryz.ntmps103
 go_wp2_with fail
 refine (H.out _).mono ?_
 rintro e w1 ⟨rfl,h1⟩
 have p1:=p0.still h1
 have o1:=o0.still h1
 have q1:=q0.still h1
 have HS1:=hid (HS0.out.trans h1)
 clear h1 HS0 p0 o0 q0 c0 c1 c2 c3 c4 c5 c6 c7 c8 c9 c10 c11 c12 cf H
 obtain ⟨c0,c1,c2,c3,c4,c5,c6,c7,c8,c9,c10,c11,c12,cf⟩:=p1.cells
 obtain ⟨k0,k1,k2,k3,k4,k5,k6,k7,k8,k9,k10,k11,k12,kf⟩:=q1.cells
 go_wp2_with fail
 have AW:=Still.alloc w1 (.cells (mcs m) 142)
 have g2:Wb (w1.alloc (.cells (mcs m) 142)) w1.heap.size m:=newW_wb w1 m
 have HL:=hid (And.intro HS1.out.size q1.lt)
 have HS2:=hid (HS1.out.trans AW)
 have q2:=q1.still AW
 have o2:=o1.still AW
 refine (HP.out _).mono ?_
 rintro e w3 ⟨rfl,h3⟩
 have g3:=g2.still h3
 have q3:=q2.still h3
 have o3:=o2.still h3
 have HS3:=hid (HS2.out.trans h3)
 clear h3 g2 q2 o2 HS2 AW HS1 p1 q1 o1 c0 c1 c2 c3 c4 c5 c6 c7 c8 c9 c10 c11 c12 cf k0 k1 k2 k3 k4 k5 k6 k7 k8 k9 k10 k11 k12 kf
 obtain ⟨c0,c1,c2,c3,c4,c5,c6,c7,c8,c9,c10,c11,c12,cf⟩:=g3.cells
 obtain ⟨k0,k1,k2,k3,k4,k5,k6,k7,k8,k9,k10,k11,k12,kf⟩:=q3.cells
 obtain ⟨i0,i1,i2,jf⟩:=o3.cells
 go_wp2_with fail
 refine (HM.out _ _ g3).mono ?_
 rintro e w4 ⟨rfl,hd⟩
 have HS4:=hid (hd.over HS3.out HL.out.1)
 have q4:Mb w4 (w.heap.size+1+1) zM:=hd.2.kept q3 (by have:=HL.out.2; omega)
 have g4:=hd.1
 clear hd g3 q3 o3 HS3 i0 i1 i2 jf c0 c1 c2 c3 c4 c5 c6 c7 c8 c9 c10 c11 c12 cf k0 k1 k2 k3 k4 k5 k6 k7 k8 k9 k10 k11 k12 kf
 obtain ⟨c0,c1,c2,c3,c4,c5,c6,c7,c8,c9,c10,c11,c12,cf⟩:=g4.cells
 obtain ⟨k0,k1,k2,k3,k4,k5,k6,k7,k8,k9,k10,k11,k12,kf⟩:=q4.cells
 go_wp2_with fail
 refine bodyPost_ret (Mb.rest (Mb.put q4 _ _ _ _ _ _ _ _ _ _ _ _ _) rfl _ _ rfl rfl) rfl ⟨rfl, ?_⟩
 repeat (first | refine setC_fr ?_ _ _ _ (by omega) | with_reducible exact HS4.out)
theorem tdiv_in8 {n d:Int} (hd:1<=d) (k:Int) (h1:-k*d<=n) (h2:n<=k*d):-k<=n.tdiv d/\n.tdiv d<=k:=by
 rcases Int.le_total 0 n with h | h
 ·rw [Int.tdiv_eq_ediv_of_nonneg h]
  have h3:n / d<=k:=by
   have:=Int.ediv_le_ediv (show 0<d by omega) h2
   rwa [Int.mul_ediv_cancel _ (by omega)] at this
  have h4:0<=n / d:=Int.ediv_nonneg h (by omega)
  omega
 ·have e:n.tdiv d=-((-n).tdiv d):=by rw [Int.neg_tdiv]; omega
  rw [e,Int.tdiv_eq_ediv_of_nonneg (by omega)]
  have h3:-n / d<=k:=by
   have:=Int.ediv_le_ediv (show 0<d by omega) (show -n<=k*d by rw [Int.neg_mul] at h1; omega)
   rwa [Int.mul_ediv_cancel _ (by omega)] at this
  have h4:0 <= -n / d:=Int.ediv_nonneg (by omega) (by omega)
  omega
theorem side_in4 (a b c d:Nat):side a b c d=0\/side a b c d=1\/side a b c d=2\/side a b c d=3:=by
 unfold side
 split <;> split <;> omega
theorem glide8_any (m:Mv) (C R:Int) (s:ByteArray) (hz:s.size<=281474976710656) (w:World):Calls Tryz.prog 103 #[mv m,ar C R s] w fun e w'=>e=.returned (.tuple #[mv (gliM (solB C R s) m),.int .i64 (chkM m)])/\Still w w':=by
 unfold gliM chkM
 cases hm:mayB m with
 | false=>exact glide_may m C R s hm w
 | true =>
  obtain ⟨g1,g2,g3,g4,g5,g6,g7,g8,g9,g10,g11⟩:=mayB_iff.1 hm
  simp only [if_true]
  unfold glideM
  by_cases h0:m.ou=0
  ·rw [if_pos h0]
   have t1:=tdiv_in8 (n:=m.sx*7) (d:=8) (by omega) 1024 (by omega) (by omega)
   have t2:=tdiv_in8 (n:=m.sy*7) (d:=8) (by omega) 1024 (by omega) (by omega)
   have s1:=spd_in m.sx m.px
   have s2:=spd_in m.sy m.py
   have t3:=tdiv_in8 (n:=spd m.sx m.px) (d:=2) (by omega) 1024 (by omega) (by omega)
   have t4:=tdiv_in8 (n:=spd m.sy m.py) (d:=2) (by omega) 1024 (by omega) (by omega)
   exact glide_in m C R s _ hm (by simpa using h0) (fun u g hw=>wglide g m C R s (spd m.sx m.px) (spd m.sy m.py) _ _ _ _ _ (side_in4 _ _ _ _)
    (hid (driven_any m.sx m.px _ _ g2.1 g2.2.1 g3.1 g3.2.1 rfl t1.1 t1.2 rfl)) (hid (driven_any m.sy m.py _ _ g2.2.2.1 g2.2.2.2 g3.2.2.1 g3.2.2.2 rfl t2.1 t2.2 rfl))
    (hid (bounced_any _ _ rfl t3.1 t3.2)) (hid (bounced_any _ _ rfl t4.1 t4.2))
    (hid (fun u=>slide_any C R m.ax m.ay (spd m.sx m.px) (spd m.sy m.py) 1280 s hz _ _ _ _ 1280 _ _ _ _ _ _ rfl rfl rfl rfl (by decide) rfl rfl rfl rfl rfl rfl u)) u hw) w
  ·rw [if_neg h0]
   exact glide_out m C R s hm (by simpa using h0) w
theorem start8_any (x y f:Int) (w:World):Calls Tryz.prog 32 #[pt x y,.int .i64 f] w fun e w'=>e=.returned (mv (startM x y f))/\Still w w':=by
 have A0:=Still.alloc w (.cells #[.int .i64 x,.int .i64 y] 46)
 have A1:=Still.alloc (newP w x y) (.cells (mcs zM) 48)
 have p:=(newP_pb w x y).still A1
 have q:=newM_mb (newP w x y) zM
 rw [size_alloc] at q
 have HS0:=hid (A0.trans A1)
 have HT:=hid (fun w=>turn_any f 0 w)
 rw [Int.add_zero] at HT
 clear A0 A1
 obtain ⟨c0,c1,cf⟩:=p.cells
 go_enter Tryz.func32,Tryz.ntmps32
 go_wp2_with fail
 refine (gbound_any x y _).mono ?_
 rintro e w1 ⟨rfl,h1⟩
 have q1:=q.still h1
 have HS1:=hid (HS0.out.trans h1)
 clear h1 q p HS0 c0 c1 cf
 go_wp2_with fail
 refine (HT.out _).mono ?_
 rintro e w2 ⟨he,hw⟩
 rw [he,hw]
 clear he hw w2
 obtain ⟨c0,c1,c2,c3,c4,c5,c6,c7,c8,c9,c10,c11,c12,cf⟩:=q1.cells
 go_wp2_with fail
 have q2:=q1.set (startM x y f)
 have HF:=setM_fr HS1.out (w.heap.size+1) (startM x y f) (.inr (by omega))
 simp only [startM] at q2 HF
 refine bodyPost_ret (q2.res rfl _ rfl) rfl ?_
 exact ⟨rfl,HF⟩
theorem whurt_no (g:Nat) (m:Mv) (h:Int) (h1:1<=h) (h2:h<=100) (hl1:0<=m.hl) (hl2:m.hl<=100) (hs:m.sh=false) (ha:h<m.hl) (w:World) (hw:Wb w g m):Calls Tryz.prog 200 #[.pointer (some ⟨g,0,none⟩),.int .i64 h] w fun e w'=>e=.returned (.bool false)/\Dn g w w' { m with hl:=m.hl - h }:=by
 have HF0:=hid (Fr.refl (fun k=>k=g) w)
 obtain ⟨c0,c1,c2,c3,c4,c5,c6,c7,c8,c9,c10,c11,c12,cf⟩:=hw.cells
 rw [hs] at c9
 go_enter Tryz.func200,Tryz.ntmps200
 go_wp2_with fail
 go_ret
 exact ⟨rfl,hw.hl _,HF0.out.setCell _ _ (.inl rfl)⟩
theorem whurt_no_out (g:Nat) (m:Mv) (h:Int) (h1:1<=h) (h2:h<=100) (hl1:0<=m.hl) (hl2:m.hl<=100) (hs:m.sh=false) (ha:¬ h<m.hl) (w:World) (hw:Wb w g m):Calls Tryz.prog 200 #[.pointer (some ⟨g,0,none⟩),.int .i64 h] w fun e w'=>e=.returned (.bool true)/\Dn g w w' (outM m):=by
 have HF0:=hid (Fr.refl (fun k=>k=g) w)
 obtain ⟨c0,c1,c2,c3,c4,c5,c6,c7,c8,c9,c10,c11,c12,cf⟩:=hw.cells
 rw [hs] at c9
 have HG:Hid (∀ u,Calls Tryz.prog 130 #[mv { m with hl:=m.hl - h,sh:=false },.int .i64 30] u fun e w'=>e=.returned (mv (outM m))/\Still u w'):=hid (fun u=>gone_any { m with hl:=m.hl - h,sh:=false } 30 u)
 obtain ⟨q,eq⟩:∃ q,outM m=q:=⟨_,rfl⟩
 rw [eq] at HG ⊢
 clear eq
 go_enter Tryz.func200,Tryz.ntmps200
 go_wp2_with fail
 have p2:=hw.hl (m.hl - h)
 have HF2:=hid (HF0.out.setCell ⟨g,7,none⟩ (.int .i64 (m.hl - h)) (.inl rfl))
 refine (HG.out _).mono ?_
 rintro e w3 ⟨rfl,h3⟩
 have p3:=p2.still h3
 have HF3:=hid (Fr.trans HF2.out (Still.to (F:=fun k=>k=g) h3) fun _ _ e=>e)
 clear h3 p2 HF2 c0 c1 c2 c3 c4 c5 c6 c7 c8 c9 c10 c11 c12 cf
 obtain ⟨c0,c1,c2,c3,c4,c5,c6,c7,c8,c9,c10,c11,c12,cf⟩:=p3.cells
 go_wp2_with fail
 go_ret
 refine ⟨rfl,Wb.put p3 _ _ _ _ _ _ _ _ _ _ _ _ _, ?_⟩
 repeat (first | refine Fr.setCell ?_ _ _ (.inl rfl) | with_reducible exact HF3.out)
theorem whurt_sh (g:Nat) (m:Mv) (h:Int) (h1:1<=h) (h2:h<=100) (hl1:0<=m.hl) (hl2:m.hl<=100) (hs:m.sh=true) (he1:0<=m.en) (he2:m.en<=100) (T:Int) (eT:min h m.en=T) (t2:T<=h) (ha:h - T<m.hl) (w:World) (hw:Wb w g m):Calls Tryz.prog 200 #[.pointer (some ⟨g,0,none⟩),.int .i64 h] w fun e w'=>e=.returned (.bool false)/\Dn g w w' { m with en:=m.en - T,sh:=decide (T<m.en),hl:=m.hl - (h - T) }:=by
 have HF0:=hid (Fr.refl (fun k=>k=g) w)
 obtain ⟨c0,c1,c2,c3,c4,c5,c6,c7,c8,c9,c10,c11,c12,cf⟩:=hw.cells
 rw [hs] at c9
 have HD:=hid (wdrain g m h he1 he2 (by omega) h2 w hw)
 rw [eT] at HD
 clear eT he1 he2
 go_enter Tryz.func200,Tryz.ntmps200
 go_wp2_with fail
 refine HD.out.mono ?_
 rintro e w1 ⟨rfl,hd⟩
 have p1:Wb w1 g { m with en:=m.en - T,sh:=decide (T<m.en) }:=hd.1
 have HF1:=hid hd.2
 clear hd HD hw c0 c1 c2 c3 c4 c5 c6 c7 c8 c9 c10 c11 c12 cf
 obtain ⟨c0,c1,c2,c3,c4,c5,c6,c7,c8,c9,c10,c11,c12,cf⟩:=p1.cells
 go_wp2_with fail
 go_ret
 exact ⟨rfl,p1.hl _,HF1.out.setCell _ _ (.inl rfl)⟩
theorem whurt_sh_out (g:Nat) (m:Mv) (h:Int) (h1:1<=h) (h2:h<=100) (hl1:0<=m.hl) (hl2:m.hl<=100) (hs:m.sh=true) (he1:0<=m.en) (he2:m.en<=100) (T:Int) (eT:min h m.en=T) (t1:0<=T) (t2:T<=h) (ha:¬ h - T<m.hl) (w:World) (hw:Wb w g m):Calls Tryz.prog 200 #[.pointer (some ⟨g,0,none⟩),.int .i64 h] w fun e w'=>e=.returned (.bool true)/\Dn g w w' (outM m):=by
 have HF0:=hid (Fr.refl (fun k=>k=g) w)
 obtain ⟨c0,c1,c2,c3,c4,c5,c6,c7,c8,c9,c10,c11,c12,cf⟩:=hw.cells
 rw [hs] at c9
 have HG:Hid (∀ u,Calls Tryz.prog 130 #[mv { m with en:=m.en - T,sh:=decide (T<m.en),hl:=m.hl - (h - T) },.int .i64 30] u fun e w'=>e=.returned (mv (outM m))/\Still u w'):=hid (fun u=>gone_any { m with en:=m.en - T,sh:=decide (T<m.en),hl:=m.hl - (h - T) } 30 u)
 obtain ⟨q,eq⟩:∃ q,outM m=q:=⟨_,rfl⟩
 rw [eq] at HG ⊢
 clear eq
 have HD:=hid (wdrain g m h he1 he2 (by omega) h2 w hw)
 rw [eT] at HD
 clear eT he1 he2
 go_enter Tryz.func200,Tryz.ntmps200
 go_wp2_with fail
 refine HD.out.mono ?_
 rintro e w1 ⟨rfl,hd⟩
 have p1:Wb w1 g { m with en:=m.en - T,sh:=decide (T<m.en) }:=hd.1
 have HF1:=hid hd.2
 clear hd HD hw c0 c1 c2 c3 c4 c5 c6 c7 c8 c9 c10 c11 c12 cf
 obtain ⟨c0,c1,c2,c3,c4,c5,c6,c7,c8,c9,c10,c11,c12,cf⟩:=p1.cells
 go_wp2_with fail
 have p2:=p1.hl (m.hl - (h - T))
 have HF2:=hid (HF1.out.setCell ⟨g,7,none⟩ (.int .i64 (m.hl - (h - T))) (.inl rfl))
 refine (HG.out _).mono ?_
 rintro e w3 ⟨rfl,h3⟩
 have p3:=p2.still h3
 have HF3:=hid (Fr.trans HF2.out (Still.to (F:=fun k=>k=g) h3) fun _ _ e=>e)
 clear h3 p2 HF2 c0 c1 c2 c3 c4 c5 c6 c7 c8 c9 c10 c11 c12 cf
 obtain ⟨c0,c1,c2,c3,c4,c5,c6,c7,c8,c9,c10,c11,c12,cf⟩:=p3.cells
 go_wp2_with fail
 go_ret
 refine ⟨rfl,Wb.put p3 _ _ _ _ _ _ _ _ _ _ _ _ _, ?_⟩
 repeat (first | refine Fr.setCell ?_ _ _ (.inl rfl) | with_reducible exact HF3.out)
theorem whurt_any (g:Nat) (m:Mv) (h:Int) (hm:May m) (h0:m.ou=0) (h1:1<=h) (h2:h<=100) (w:World) (hw:Wb w g m):Calls Tryz.prog 200 #[.pointer (some ⟨g,0,none⟩),.int .i64 h] w fun e w'=>e=.returned (.bool (went m h))/\Dn g w w' (hurtM m h):=by
 obtain ⟨g1,g2,g3,g4,g5,g6,g7,g8,g9,g10,g11⟩:=hm
 have hz:(m.ou == 0)=true:=by simpa using h0
 cases hs:m.sh with
 | false =>
  have et:tak m h=0:=by unfold tak; rw [hs]; rfl
  by_cases ha:h<m.hl
  ·have e1:went m h=false:=by unfold went; rw [et,hz]; simp; omega
   have e2:hurtM m h={ m with hl:=m.hl - h }:=by
    unfold hurtM
    rw [if_pos h0,et,if_neg (by omega),hs]
    cases m
    simp_all
   rw [e1,e2]
   exact whurt_no g m h h1 h2 g5.1 g5.2 hs ha w hw
  ·have e1:went m h=true:=by unfold went; rw [et,hz]; simp; omega
   have e2:hurtM m h=outM m:=by unfold hurtM; rw [if_pos h0,et,if_pos (by omega)]
   rw [e1,e2]
   exact whurt_no_out g m h h1 h2 g5.1 g5.2 hs ha w hw
 | true =>
  obtain ⟨T,eT⟩:∃ T,min h m.en=T:=⟨_,rfl⟩
  have et:tak m h=T:=by unfold tak; rw [hs,<- eT,Int.min_comm]; rfl
  have t1:0<=T:=by rw [<- eT]; omega
  have t2:T<=h:=by rw [<- eT]; omega
  by_cases ha:h - T<m.hl
  ·have e1:went m h=false:=by unfold went; rw [et,hz]; simp; omega
   have e2:hurtM m h={ m with en:=m.en - T,sh:=decide (T<m.en),hl:=m.hl - (h - T) }:=by
    unfold hurtM
    rw [if_pos h0,et,if_neg (by omega),hs]
    have:decide (0<m.en - T)=decide (T<m.en):=by rw [decide_eq_decide]; omega
    rw [this]
    rfl
   rw [e1,e2]
   exact whurt_sh g m h h1 h2 g5.1 g5.2 hs g6.1 g6.2 T eT t2 ha w hw
  ·have e1:went m h=true:=by unfold went; rw [et,hz]; simp; omega
   have e2:hurtM m h=outM m:=by unfold hurtM; rw [if_pos h0,et,if_pos (by omega)]
   rw [e1,e2]
   exact whurt_sh_out g m h h1 h2 g5.1 g5.2 hs g6.1 g6.2 T eT t1 t2 ha w hw
theorem hurt_may (m:Mv) (h:Int) (hm:mayB m=false) (w:World):Calls Tryz.prog 157 #[mv m,.int .i64 h] w fun e w'=>e=.returned (.tuple #[mv zM,.bool false,.int .i64 80])/\Still w w':=by
 have A0:=Still.alloc w (.cells (mcs m) 48)
 have A1:=Still.alloc (newM w m) (.cells (mcs zM) 48)
 have p0:=(newM_mb w m).still A1
 have q0:=newM_mb (newM w m) zM
 simp only [size_alloc] at q0
 have HS0:=hid (A0.trans A1)
 clear A0 A1
 obtain ⟨c0,c1,c2,c3,c4,c5,c6,c7,c8,c9,c10,c11,c12,cf⟩:=p0.cells
 have H:=hid (fun w=>check8_any m w)
 rw [show chkM m=80 by unfold chkM; rw [hm]; rfl] at H
 clear hm
 go_enter Tryz.func157,Tryz.ntmps157
 go_wp2_with fail
 refine (H.out _).mono ?_
 rintro e w1 ⟨rfl,h1⟩
 have p1:=p0.still h1
 have q1:=q0.still h1
 have HS1:=hid (HS0.out.trans h1)
 clear h1 HS0 p0 q0 c0 c1 c2 c3 c4 c5 c6 c7 c8 c9 c10 c11 c12 cf H
 obtain ⟨c0,c1,c2,c3,c4,c5,c6,c7,c8,c9,c10,c11,c12,cf⟩:=p1.cells
 obtain ⟨k0,k1,k2,k3,k4,k5,k6,k7,k8,k9,k10,k11,k12,kf⟩:=q1.cells
 go_wp2_with fail
 refine bodyPost_ret (Mb.rest3 (Mb.put q1 _ _ _ _ _ _ _ _ _ _ _ _ _) rfl _ _ _ rfl rfl rfl) rfl ⟨rfl, ?_⟩
 repeat (first | refine setC_fr ?_ _ _ _ (by omega) | with_reducible exact HS1.out)
theorem hurt_arg (m:Mv) (h:Int) (hm:mayB m=true) (ha:amg h 1 100=false) (w:World):Calls Tryz.prog 157 #[mv m,.int .i64 h] w fun e w'=>e=.returned (.tuple #[mv zM,.bool false,.int .i64 1])/\Still w w':=by
 have A0:=Still.alloc w (.cells (mcs m) 48)
 have A1:=Still.alloc (newM w m) (.cells (mcs zM) 48)
 have p0:=(newM_mb w m).still A1
 have q0:=newM_mb (newM w m) zM
 simp only [size_alloc] at q0
 have HS0:=hid (A0.trans A1)
 clear A0 A1
 obtain ⟨c0,c1,c2,c3,c4,c5,c6,c7,c8,c9,c10,c11,c12,cf⟩:=p0.cells
 have H:=hid (fun w=>check8_any m w)
 rw [show chkM m=0 by unfold chkM; rw [hm]; rfl] at H
 have HA:=hid (fun w=>within_any h 1 100 w)
 rw [ha] at HA
 clear hm ha
 go_enter Tryz.func157,Tryz.ntmps157
 go_wp2_with fail
 refine (H.out _).mono ?_
 rintro e w1 ⟨rfl,h1⟩
 have p1:=p0.still h1
 have q1:=q0.still h1
 have HS1:=hid (HS0.out.trans h1)
 clear h1 HS0 p0 q0 c0 c1 c2 c3 c4 c5 c6 c7 c8 c9 c10 c11 c12 cf H
 obtain ⟨c0,c1,c2,c3,c4,c5,c6,c7,c8,c9,c10,c11,c12,cf⟩:=p1.cells
 obtain ⟨k0,k1,k2,k3,k4,k5,k6,k7,k8,k9,k10,k11,k12,kf⟩:=q1.cells
 go_wp2_with fail
 refine (HA.out _).mono ?_
 rintro e w2 ⟨he,hw⟩
 rw [he,hw]
 clear he hw w2
 go_wp2_with fail
 refine bodyPost_ret (Mb.rest3 (Mb.put q1 _ _ _ _ _ _ _ _ _ _ _ _ _) rfl _ _ _ rfl rfl rfl) rfl ⟨rfl, ?_⟩
 repeat (first | refine setC_fr ?_ _ _ _ (by omega) | with_reducible exact HS1.out)
theorem hurt_out (m:Mv) (h:Int) (hm:mayB m=true) (ha:amg h 1 100=true) (h0:(m.ou == 0)=false) (w:World):Calls Tryz.prog 157 #[mv m,.int .i64 h] w fun e w'=>e=.returned (.tuple #[mv m,.bool false,.int .i64 0])/\Still w w':=by
 have A0:=Still.alloc w (.cells (mcs m) 48)
 have A1:=Still.alloc (newM w m) (.cells (mcs zM) 48)
 have p0:=(newM_mb w m).still A1
 have q0:=newM_mb (newM w m) zM
 simp only [size_alloc] at q0
 have HS0:=hid (A0.trans A1)
 clear A0 A1
 obtain ⟨c0,c1,c2,c3,c4,c5,c6,c7,c8,c9,c10,c11,c12,cf⟩:=p0.cells
 have H:=hid (fun w=>check8_any m w)
 rw [show chkM m=0 by unfold chkM; rw [hm]; rfl] at H
 have HA:=hid (fun w=>within_any h 1 100 w)
 rw [ha] at HA
 clear hm ha
 have HP:=hid (fun w=>inplay_any m w)
 rw [h0] at HP
 clear h0
 go_enter Tryz.func157,Tryz.ntmps157
 go_wp2_with fail
 refine (H.out _).mono ?_
 rintro e w1 ⟨rfl,h1⟩
 have p1:=p0.still h1
 have q1:=q0.still h1
 have HS1:=hid (HS0.out.trans h1)
 clear h1 HS0 p0 q0 c0 c1 c2 c3 c4 c5 c6 c7 c8 c9 c10 c11 c12 cf H
 obtain ⟨c0,c1,c2,c3,c4,c5,c6,c7,c8,c9,c10,c11,c12,cf⟩:=p1.cells
 obtain ⟨k0,k1,k2,k3,k4,k5,k6,k7,k8,k9,k10,k11,k12,kf⟩:=q1.cells
 go_wp2_with fail
 refine (HA.out _).mono ?_
 rintro e w2 ⟨he,hw⟩
 rw [he,hw]
 clear he hw w2
 go_wp2_with fail
 have AW:=Still.alloc w1 (.cells (mcs m) 142)
 have g2:Wb (w1.alloc (.cells (mcs m) 142)) w1.heap.size m:=newW_wb w1 m
 have HL:=hid (And.intro HS1.out.size q1.lt)
 have HS2:=hid (HS1.out.trans AW)
 have q2:=q1.still AW
 refine (HP.out _).mono ?_
 rintro e w3 ⟨rfl,h3⟩
 have g3:=g2.still h3
 have q3:=q2.still h3
 have HS3:=hid (HS2.out.trans h3)
 clear h3 g2 q2 HS2 AW HS1 p1 q1 c0 c1 c2 c3 c4 c5 c6 c7 c8 c9 c10 c11 c12 cf k0 k1 k2 k3 k4 k5 k6 k7 k8 k9 k10 k11 k12 kf
 obtain ⟨c0,c1,c2,c3,c4,c5,c6,c7,c8,c9,c10,c11,c12,cf⟩:=g3.cells
 obtain ⟨k0,k1,k2,k3,k4,k5,k6,k7,k8,k9,k10,k11,k12,kf⟩:=q3.cells
 go_wp2_with fail
 refine bodyPost_ret (Mb.rest3 (Mb.put q3 _ _ _ _ _ _ _ _ _ _ _ _ _) rfl _ _ _ rfl rfl rfl) rfl ⟨rfl, ?_⟩
 repeat (first | refine setC_fr ?_ _ _ _ (by omega) | with_reducible exact HS3.out)
theorem hurt_in (m:Mv) (h:Int) (D:Bool) (n:Mv) (hm:mayB m=true) (ha:amg h 1 100=true) (h0:(m.ou == 0)=true) (hM:∀ w g,Wb w g m->Calls Tryz.prog 200 #[.pointer (some ⟨g,0,none⟩),.int .i64 h] w fun e w'=>e=.returned (.bool D)/\Dn g w w' n) (w:World):Calls Tryz.prog 157 #[mv m,.int .i64 h] w fun e w'=>e=.returned (.tuple #[mv n,.bool D,.int .i64 0])/\Still w w':=by
 have A0:=Still.alloc w (.cells (mcs m) 48)
 have A1:=Still.alloc (newM w m) (.cells (mcs zM) 48)
 have p0:=(newM_mb w m).still A1
 have q0:=newM_mb (newM w m) zM
 simp only [size_alloc] at q0
 have HS0:=hid (A0.trans A1)
 clear A0 A1
 obtain ⟨c0,c1,c2,c3,c4,c5,c6,c7,c8,c9,c10,c11,c12,cf⟩:=p0.cells
 have H:=hid (fun w=>check8_any m w)
 rw [show chkM m=0 by unfold chkM; rw [hm]; rfl] at H
 have HA:=hid (fun w=>within_any h 1 100 w)
 rw [ha] at HA
 clear hm ha
 have HM:=hid hM
 have HP:=hid (fun w=>inplay_any m w)
 rw [h0] at HP
 clear h0 hM
 go_enter Tryz.func157,Tryz.ntmps157
 go_wp2_with fail
 refine (H.out _).mono ?_
 rintro e w1 ⟨rfl,h1⟩
 have p1:=p0.still h1
 have q1:=q0.still h1
 have HS1:=hid (HS0.out.trans h1)
 clear h1 HS0 p0 q0 c0 c1 c2 c3 c4 c5 c6 c7 c8 c9 c10 c11 c12 cf H
 obtain ⟨c0,c1,c2,c3,c4,c5,c6,c7,c8,c9,c10,c11,c12,cf⟩:=p1.cells
 obtain ⟨k0,k1,k2,k3,k4,k5,k6,k7,k8,k9,k10,k11,k12,kf⟩:=q1.cells
 go_wp2_with fail
 refine (HA.out _).mono ?_
 rintro e w2 ⟨he,hw⟩
 rw [he,hw]
 clear he hw w2
 go_wp2_with fail
 have AW:=Still.alloc w1 (.cells (mcs m) 142)
 have g2:Wb (w1.alloc (.cells (mcs m) 142)) w1.heap.size m:=newW_wb w1 m
 have HL:=hid (And.intro HS1.out.size q1.lt)
 have HS2:=hid (HS1.out.trans AW)
 have q2:=q1.still AW
 refine (HP.out _).mono ?_
 rintro e w3 ⟨rfl,h3⟩
 have g3:=g2.still h3
 have q3:=q2.still h3
 have HS3:=hid (HS2.out.trans h3)
 clear h3 g2 q2 HS2 AW HS1 p1 q1 c0 c1 c2 c3 c4 c5 c6 c7 c8 c9 c10 c11 c12 cf k0 k1 k2 k3 k4 k5 k6 k7 k8 k9 k10 k11 k12 kf
 obtain ⟨c0,c1,c2,c3,c4,c5,c6,c7,c8,c9,c10,c11,c12,cf⟩:=g3.cells
 obtain ⟨k0,k1,k2,k3,k4,k5,k6,k7,k8,k9,k10,k11,k12,kf⟩:=q3.cells
 go_wp2_with fail
 refine (HM.out _ _ g3).mono ?_
 rintro e w4 ⟨rfl,hd⟩
 have HS4:=hid (hd.over HS3.out HL.out.1)
 have q4:Mb w4 (w.heap.size+1) zM:=hd.2.kept q3 (by have:=HL.out.2; omega)
 have g4:=hd.1
 clear hd g3 q3 HS3 c0 c1 c2 c3 c4 c5 c6 c7 c8 c9 c10 c11 c12 cf k0 k1 k2 k3 k4 k5 k6 k7 k8 k9 k10 k11 k12 kf
 obtain ⟨c0,c1,c2,c3,c4,c5,c6,c7,c8,c9,c10,c11,c12,cf⟩:=g4.cells
 obtain ⟨k0,k1,k2,k3,k4,k5,k6,k7,k8,k9,k10,k11,k12,kf⟩:=q4.cells
 go_wp2_with fail
 refine bodyPost_ret (Mb.rest3 (Mb.put q4 _ _ _ _ _ _ _ _ _ _ _ _ _) rfl _ _ _ rfl rfl rfl) rfl ⟨rfl, ?_⟩
 repeat (first | refine setC_fr ?_ _ _ _ (by omega) | with_reducible exact HS4.out)
theorem hurt8_any (m:Mv) (h:Int) (w:World):Calls Tryz.prog 157 #[mv m,.int .i64 h] w fun e w'=>e=.returned (.tuple #[mv (hurM m h),.bool (hurD m h),.int .i64 (errH m h)])/\Still w w':=by
 cases hm:mayB m with
 | false =>
  have e:errH m h=80:=by unfold errH; rw [hm]; rfl
  have e2:hurD m h=false:=by unfold hurD; rw [e]; rfl
  have e3:hurM m h=zM:=by unfold hurM; rw [e]; rfl
  rw [e,e2,e3]
  exact hurt_may m h hm w
 | true =>
  cases ha:amg h 1 100 with
  | false =>
   have hr:h<1\/100<h:=by unfold amg at ha; simp at ha; omega
   have e:errH m h=1:=by unfold errH; rw [hm]; simp [hr]
   have e2:hurD m h=false:=by unfold hurD; rw [e]; rfl
   have e3:hurM m h=zM:=by unfold hurM; rw [e]; rfl
   rw [e,e2,e3]
   exact hurt_arg m h hm ha w
  | true =>
   have hr:=amg_iff.1 ha
   have e:errH m h=0:=by unfold errH; rw [hm]; simp; omega
   have e2:hurD m h=went m h:=by unfold hurD; rw [e]; simp
   have e3:hurM m h=hurtM m h:=by unfold hurM; rw [e]; rfl
   rw [e,e2,e3]
   by_cases h0:m.ou=0
   ·exact hurt_in m h _ _ hm ha (by simpa using h0) (fun w g hw=>whurt_any g m h (mayB_iff.1 hm) h0 hr.1 hr.2 w hw) w
   ·have hz:(m.ou == 0)=false:=by simpa using h0
    have e4:went m h=false:=by unfold went; rw [hz]; rfl
    have e5:hurtM m h=m:=by unfold hurtM; rw [if_neg h0]
    rw [e4,e5]
    exact hurt_out m h hm ha hz w
theorem wrest_sh (g:Nat) (m:Mv) (hs:m.sh=true) (hc1:0<=m.co) (hc2:m.co<=12) (he1:0<=m.en) (he2:m.en<=100) (w:World) (hw:Wb w g m):Calls Tryz.prog 170 #[.pointer (some ⟨g,0,none⟩)] w fun e w'=>e=.returned (.tuple #[])/\Dn g w w' { m with co:=max (m.co - 1) 0,en:=m.en - min 2 m.en,sh:=decide (min 2 m.en<m.en) }:=by
 have p1:=hw.co (max (m.co - 1) 0)
 have HF1:=hid ((Fr.refl (fun k=>k=g) w).setCell ⟨g,10,none⟩ (.int .i64 (max (m.co - 1) 0)) (.inl rfl))
 have HD:=hid (wdrain g { m with co:=max (m.co - 1) 0 } 2 he1 he2 (by omega) (by omega) _ p1)
 obtain ⟨c0,c1,c2,c3,c4,c5,c6,c7,c8,c9,c10,c11,c12,cf⟩:=hw.cells
 rw [hs] at c9
 clear he1 he2
 go_enter Tryz.func170,Tryz.ntmps170
 go_wp2_with fail
 refine HD.out.mono ?_
 rintro e w1 ⟨rfl,hd⟩
 have HE:=hid hd
 clear hd HD p1 c0 c1 c2 c3 c4 c5 c6 c7 c8 c9 c10 c11 c12 cf
 go_wp2_with fail
 (try simp only [Exit.inBlock,Exit.then])
 refine bodyPost_ret (results_none rfl _ _ _) rfl ?_
 exact ⟨rfl,HE.out.1,Fr.trans HF1.out HE.out.2 fun _ _ e=>e⟩
theorem wrest_no (g:Nat) (m:Mv) (hs:m.sh=false) (hc1:0<=m.co) (hc2:m.co<=12) (he1:0<=m.en) (he2:m.en<=100) (w:World) (hw:Wb w g m):Calls Tryz.prog 170 #[.pointer (some ⟨g,0,none⟩)] w fun e w'=>e=.returned (.tuple #[])/\Dn g w w' { m with co:=max (m.co - 1) 0,en:=min (m.en+1) 100 }:=by
 have HF:=hid (Fr.refl (fun k=>k=g) w)
 obtain ⟨c0,c1,c2,c3,c4,c5,c6,c7,c8,c9,c10,c11,c12,cf⟩:=hw.cells
 rw [hs] at c9
 go_enter Tryz.func170,Tryz.ntmps170
 go_wp2_with fail
 go_end0
 exact ⟨rfl,(hw.co _).en _,(HF.out.setCell _ _ (.inl rfl)).setCell _ _ (.inl rfl)⟩
theorem wrest_any (g:Nat) (m:Mv) (x y:Int) (hm:May m) (h0:m.ou=0) (w:World) (hw:Wb w g m):Calls Tryz.prog 170 #[.pointer (some ⟨g,0,none⟩)] w fun e w'=>e=.returned (.tuple #[])/\Dn g w w' (restM m x y):=by
 obtain ⟨g1,g2,g3,g4,g5,g6,g7,g8,g9,g10,g11⟩:=hm
 have ec:(if 0<m.co then m.co - 1 else m.co)=max (m.co - 1) 0:=by split <;> omega
 cases hs:m.sh with
 | false =>
  have e:restM m x y={ m with co:=max (m.co - 1) 0,en:=min (m.en+1) 100 }:=by
   unfold restM
   rw [if_neg (by omega),if_neg (by omega),ec,hs]
   have e2:(if m.en<100 then m.en+1 else m.en)=min (m.en+1) 100:=by split <;> omega
   simp only [Bool.false_and,e2]
   cases m
   simp_all
  rw [e]
  exact wrest_no g m hs g7.1 g7.2 g6.1 g6.2 w hw
 | true =>
  have e:restM m x y={ m with co:=max (m.co - 1) 0,en:=m.en - min 2 m.en,sh:=decide (min 2 m.en<m.en) }:=by
   unfold restM
   rw [if_neg (by omega),if_neg (by omega),ec,hs]
   have e2:(if m.en - 2<=0 then 0 else m.en - 2)=m.en - min 2 m.en:=by split <;> omega
   have e3:decide (0<m.en - 2)=decide (min 2 m.en<m.en):=by rw [decide_eq_decide]; omega
   simp only [Bool.true_and,if_true,e2,e3]
  rw [e]
  exact wrest_sh g m hs g7.1 g7.2 g6.1 g6.2 w hw
theorem wout_stay (g:Nat) (m:Mv) (x y:Int) (h1:1<m.ou) (h2:m.ou<=30) (w:World) (hw:Wb w g m):Calls Tryz.prog 171 #[.pointer (some ⟨g,0,none⟩),pt x y] w fun e w'=>e=.returned (.bool false)/\Dn g w w' { m with ou:=m.ou - 1 }:=by
 have A0:=Still.alloc w (.cells #[.int .i64 x,.int .i64 y] 46)
 have p0:=hw.still A0
 have HF:=hid (Still.to (F:=fun k=>k=g) A0)
 clear A0
 obtain ⟨c0,c1,c2,c3,c4,c5,c6,c7,c8,c9,c10,c11,c12,cf⟩:=p0.cells
 go_enter Tryz.func171,Tryz.ntmps171
 go_wp2_with fail
 go_ret
 exact ⟨rfl,p0.ou _,HF.out.setCell _ _ (.inl rfl)⟩
theorem wout_back (g:Nat) (m:Mv) (x y:Int) (h1:m.ou=1) (w:World) (hw:Wb w g m):Calls Tryz.prog 171 #[.pointer (some ⟨g,0,none⟩),pt x y] w fun e w'=>e=.returned (.bool true)/\Dn g w w' { startM x y m.fc with sd:=m.sd }:=by
 have A0:=Still.alloc w (.cells #[.int .i64 x,.int .i64 y] 46)
 have p0:=hw.still A0
 have b0:=newP_pb w x y
 have HL:=hid hw.lt
 have HF:=hid (Still.to (F:=fun k=>k=g) A0)
 have HST:=hid (fun u=>start8_any x y m.fc u)
 clear A0 hw
 obtain ⟨c0,c1,c2,c3,c4,c5,c6,c7,c8,c9,c10,c11,c12,cf⟩:=p0.cells
 rw [h1] at c11
 clear h1
 have p1:=p0.ou 0
 have b1:Pb ((w.alloc (.cells #[.int .i64 x,.int .i64 y] 46)).setCell ⟨g,11,none⟩ (.int .i64 0)) w.heap.size x y:=by
  have:=HL.out
  unfold Pb at b0 ⊢
  rw [heap_setCell_other _ _ _ _ (by show w.heap.size≠g; omega)]
  exact b0
 have HF1:=hid (HF.out.setCell ⟨g,11,none⟩ (.int .i64 0) (.inl rfl))
 obtain ⟨W,eW⟩:∃ W,(w.alloc (.cells #[.int .i64 x,.int .i64 y] 46)).setCell ⟨g,11,none⟩ (.int .i64 0)=W:=⟨_,rfl⟩
 have p2:Wb W g { m with ou:=0 }:=by rw [<- eW]; exact p1
 rw [eW] at b1 HF1
 obtain ⟨q,eq⟩:∃ q,startM x y m.fc=q:=⟨_,rfl⟩
 rw [eq] at HST ⊢
 clear eq p1 HF
 obtain ⟨k0,k1,k2,k3,k4,k5,k6,k7,k8,k9,k10,k11,k12,kf⟩:=p2.cells
 go_enter Tryz.func171,Tryz.ntmps171
 go_upto_region 5 with fail
 clear eW p0 b0 c0 c1 c2 c3 c4 c5 c6 c7 c8 c9 c10 c11 c12 cf k0 k1 k2 k3 k4 k5 k6 k7 k8 k9 k10 k11 k12 kf
 obtain ⟨c0,c1,c2,c3,c4,c5,c6,c7,c8,c9,c10,c11,c12,cf⟩:=p2.cells
 obtain ⟨d0,d1,df⟩:=b1.cells
 have k6:=Cl.cell c6
 have x0:=Cl.cell d0
 have x1:=Cl.cell d1
 have hne:=Aft.here W
 clear d0 d1 df b1 c0 c1 c2 c3 c4 c5 c6 c7 c8 c9 c10 c11 c12 cf
 refine region_rest 10 (by kernel_rfl) (by kernel_rfl) ?_
 simp only [List.take_succ_cons,List.take_zero,List.drop_succ_cons,List.drop_zero]
 repeat (go_big_quiet_step ((go_at_call 32; exact Calls.cl (HST.out _))))
 refine wpQuiet_nil ?_
 intro w1 hs
 clear hne k6 x0 x1
 have p3:=p2.still hs
 have HF3:=hid (Fr.trans HF1.out (Still.to (F:=fun k=>k=g) hs) fun _ _ e=>e)
 clear hs p2 HF1
 obtain ⟨c0,c1,c2,c3,c4,c5,c6,c7,c8,c9,c10,c11,c12,cf⟩:=p3.cells
 go_wp2_with fail
 (try simp only [Exit.inBlock,Exit.then])
 go_wp2_with fail
 go_ret
 refine ⟨rfl,Wb.sd (Wb.put p3 _ _ _ _ _ _ _ _ _ _ _ _ _) _, ?_⟩
 repeat (first | refine Fr.setCell ?_ _ _ (.inl rfl) | with_reducible exact HF3.out)
theorem rest_may (m:Mv) (x y:Int) (hm:mayB m=false) (w:World):Calls Tryz.prog 115 #[mv m,pt x y] w fun e w'=>e=.returned (.tuple #[mv zM,.bool false,.int .i64 80])/\Still w w':=by
 have A0:=Still.alloc w (.cells (mcs m) 48)
 have A1:=Still.alloc (newM w m) (.cells #[.int .i64 x,.int .i64 y] 46)
 have A2:=Still.alloc (newP (newM w m) x y) (.cells (mcs zM) 48)
 have p0:=((newM_mb w m).still A1).still A2
 have b0:=(newP_pb (newM w m) x y).still A2
 have q0:=newM_mb (newP (newM w m) x y) zM
 simp only [size_alloc] at b0 q0
 have HS0:=hid ((A0.trans A1).trans A2)
 clear A0 A1 A2
 obtain ⟨c0,c1,c2,c3,c4,c5,c6,c7,c8,c9,c10,c11,c12,cf⟩:=p0.cells
 have H:=hid (fun w=>check8_any m w)
 rw [show chkM m=80 by unfold chkM; rw [hm]; rfl] at H
 clear hm
 go_enter Tryz.func115,Tryz.ntmps115
 go_wp2_with fail
 refine (H.out _).mono ?_
 rintro e w1 ⟨rfl,h1⟩
 have p1:=p0.still h1
 have b1:=b0.still h1
 have q1:=q0.still h1
 have HS1:=hid (HS0.out.trans h1)
 clear h1 HS0 p0 b0 q0 c0 c1 c2 c3 c4 c5 c6 c7 c8 c9 c10 c11 c12 cf H
 obtain ⟨c0,c1,c2,c3,c4,c5,c6,c7,c8,c9,c10,c11,c12,cf⟩:=p1.cells
 obtain ⟨k0,k1,k2,k3,k4,k5,k6,k7,k8,k9,k10,k11,k12,kf⟩:=q1.cells
 go_wp2_with fail
 refine bodyPost_ret (Mb.rest3 (Mb.put q1 _ _ _ _ _ _ _ _ _ _ _ _ _) rfl _ _ _ rfl rfl rfl) rfl ⟨rfl, ?_⟩
 repeat (first | refine setC_fr ?_ _ _ _ (by omega) | with_reducible exact HS1.out)
theorem rest_in (m:Mv) (x y:Int) (n:Mv) (hm:mayB m=true) (h0:(m.ou == 0)=true) (hM:∀ w g,Wb w g m->Calls Tryz.prog 170 #[.pointer (some ⟨g,0,none⟩)] w fun e w'=>e=.returned (.tuple #[])/\Dn g w w' n) (w:World):Calls Tryz.prog 115 #[mv m,pt x y] w fun e w'=>e=.returned (.tuple #[mv n,.bool false,.int .i64 0])/\Still w w':=by
 have A0:=Still.alloc w (.cells (mcs m) 48)
 have A1:=Still.alloc (newM w m) (.cells #[.int .i64 x,.int .i64 y] 46)
 have A2:=Still.alloc (newP (newM w m) x y) (.cells (mcs zM) 48)
 have p0:=((newM_mb w m).still A1).still A2
 have b0:=(newP_pb (newM w m) x y).still A2
 have q0:=newM_mb (newP (newM w m) x y) zM
 simp only [size_alloc] at b0 q0
 have HS0:=hid ((A0.trans A1).trans A2)
 clear A0 A1 A2
 obtain ⟨c0,c1,c2,c3,c4,c5,c6,c7,c8,c9,c10,c11,c12,cf⟩:=p0.cells
 have H:=hid (fun w=>check8_any m w)
 rw [show chkM m=0 by unfold chkM; rw [hm]; rfl] at H
 clear hm
 have HM:=hid hM
 have HP:=hid (fun w=>inplay_any m w)
 rw [h0] at HP
 clear h0 hM
 go_enter Tryz.func115,Tryz.ntmps115
 go_wp2_with fail
 refine (H.out _).mono ?_
 rintro e w1 ⟨rfl,h1⟩
 have p1:=p0.still h1
 have b1:=b0.still h1
 have q1:=q0.still h1
 have HS1:=hid (HS0.out.trans h1)
 clear h1 HS0 p0 b0 q0 c0 c1 c2 c3 c4 c5 c6 c7 c8 c9 c10 c11 c12 cf H
 obtain ⟨c0,c1,c2,c3,c4,c5,c6,c7,c8,c9,c10,c11,c12,cf⟩:=p1.cells
 obtain ⟨k0,k1,k2,k3,k4,k5,k6,k7,k8,k9,k10,k11,k12,kf⟩:=q1.cells
 go_wp2_with fail
 have AW:=Still.alloc w1 (.cells (mcs m) 142)
 have g2:Wb (w1.alloc (.cells (mcs m) 142)) w1.heap.size m:=newW_wb w1 m
 have HL:=hid (And.intro HS1.out.size q1.lt)
 have HS2:=hid (HS1.out.trans AW)
 have q2:=q1.still AW
 have b2:=b1.still AW
 refine (HP.out _).mono ?_
 rintro e w3 ⟨rfl,h3⟩
 have g3:=g2.still h3
 have q3:=q2.still h3
 have b3:=b2.still h3
 have HS3:=hid (HS2.out.trans h3)
 clear h3 g2 q2 b2 HS2 AW HS1 p1 q1 b1 c0 c1 c2 c3 c4 c5 c6 c7 c8 c9 c10 c11 c12 cf k0 k1 k2 k3 k4 k5 k6 k7 k8 k9 k10 k11 k12 kf
 obtain ⟨c0,c1,c2,c3,c4,c5,c6,c7,c8,c9,c10,c11,c12,cf⟩:=g3.cells
 obtain ⟨k0,k1,k2,k3,k4,k5,k6,k7,k8,k9,k10,k11,k12,kf⟩:=q3.cells
 obtain ⟨x0,x1,xf⟩:=b3.cells
 go_wp2_with fail
 refine (HM.out _ _ g3).mono ?_
 rintro e w4 ⟨rfl,hd⟩
 have HS4:=hid (hd.over HS3.out HL.out.1)
 have q4:Mb w4 (w.heap.size+1+1) zM:=hd.2.kept q3 (by have:=HL.out.2; omega)
 have g4:=hd.1
 clear hd g3 q3 b3 HS3 x0 x1 xf c0 c1 c2 c3 c4 c5 c6 c7 c8 c9 c10 c11 c12 cf k0 k1 k2 k3 k4 k5 k6 k7 k8 k9 k10 k11 k12 kf
 obtain ⟨c0,c1,c2,c3,c4,c5,c6,c7,c8,c9,c10,c11,c12,cf⟩:=g4.cells
 obtain ⟨k0,k1,k2,k3,k4,k5,k6,k7,k8,k9,k10,k11,k12,kf⟩:=q4.cells
 go_wp2_with fail
 refine bodyPost_ret (Mb.rest3 (Mb.put q4 _ _ _ _ _ _ _ _ _ _ _ _ _) rfl _ _ _ rfl rfl rfl) rfl ⟨rfl, ?_⟩
 repeat (first | refine setC_fr ?_ _ _ _ (by omega) | with_reducible exact HS4.out)
theorem rest_out (m:Mv) (x y:Int) (D:Bool) (n:Mv) (hm:mayB m=true) (h0:(m.ou == 0)=false) (hM:∀ w g,Wb w g m->Calls Tryz.prog 171 #[.pointer (some ⟨g,0,none⟩),pt x y] w fun e w'=>e=.returned (.bool D)/\Dn g w w' n) (w:World):Calls Tryz.prog 115 #[mv m,pt x y] w fun e w'=>e=.returned (.tuple #[mv n,.bool D,.int .i64 0])/\Still w w':=by
 have A0:=Still.alloc w (.cells (mcs m) 48)
 have A1:=Still.alloc (newM w m) (.cells #[.int .i64 x,.int .i64 y] 46)
 have A2:=Still.alloc (newP (newM w m) x y) (.cells (mcs zM) 48)
 have p0:=((newM_mb w m).still A1).still A2
 have b0:=(newP_pb (newM w m) x y).still A2
 have q0:=newM_mb (newP (newM w m) x y) zM
 simp only [size_alloc] at b0 q0
 have HS0:=hid ((A0.trans A1).trans A2)
 clear A0 A1 A2
 obtain ⟨c0,c1,c2,c3,c4,c5,c6,c7,c8,c9,c10,c11,c12,cf⟩:=p0.cells
 have H:=hid (fun w=>check8_any m w)
 rw [show chkM m=0 by unfold chkM; rw [hm]; rfl] at H
 clear hm
 have HM:=hid hM
 have HP:=hid (fun w=>inplay_any m w)
 rw [h0] at HP
 clear h0 hM
 go_enter Tryz.func115,Tryz.ntmps115
 go_wp2_with fail
 refine (H.out _).mono ?_
 rintro e w1 ⟨rfl,h1⟩
 have p1:=p0.still h1
 have b1:=b0.still h1
 have q1:=q0.still h1
 have HS1:=hid (HS0.out.trans h1)
 clear h1 HS0 p0 b0 q0 c0 c1 c2 c3 c4 c5 c6 c7 c8 c9 c10 c11 c12 cf H
 obtain ⟨c0,c1,c2,c3,c4,c5,c6,c7,c8,c9,c10,c11,c12,cf⟩:=p1.cells
 obtain ⟨k0,k1,k2,k3,k4,k5,k6,k7,k8,k9,k10,k11,k12,kf⟩:=q1.cells
 go_wp2_with fail
 have AW:=Still.alloc w1 (.cells (mcs m) 142)
 have g2:Wb (w1.alloc (.cells (mcs m) 142)) w1.heap.size m:=newW_wb w1 m
 have HL:=hid (And.intro HS1.out.size q1.lt)
 have HS2:=hid (HS1.out.trans AW)
 have q2:=q1.still AW
 have b2:=b1.still AW
 refine (HP.out _).mono ?_
 rintro e w3 ⟨rfl,h3⟩
 have g3:=g2.still h3
 have q3:=q2.still h3
 have b3:=b2.still h3
 have HS3:=hid (HS2.out.trans h3)
 clear h3 g2 q2 b2 HS2 AW HS1 p1 q1 b1 c0 c1 c2 c3 c4 c5 c6 c7 c8 c9 c10 c11 c12 cf k0 k1 k2 k3 k4 k5 k6 k7 k8 k9 k10 k11 k12 kf
 obtain ⟨c0,c1,c2,c3,c4,c5,c6,c7,c8,c9,c10,c11,c12,cf⟩:=g3.cells
 obtain ⟨k0,k1,k2,k3,k4,k5,k6,k7,k8,k9,k10,k11,k12,kf⟩:=q3.cells
 obtain ⟨x0,x1,xf⟩:=b3.cells
 go_wp2_with fail
 refine (HM.out _ _ g3).mono ?_
 rintro e w4 ⟨rfl,hd⟩
 have HS4:=hid (hd.over HS3.out HL.out.1)
 have q4:Mb w4 (w.heap.size+1+1) zM:=hd.2.kept q3 (by have:=HL.out.2; omega)
 have g4:=hd.1
 clear hd g3 q3 b3 HS3 x0 x1 xf c0 c1 c2 c3 c4 c5 c6 c7 c8 c9 c10 c11 c12 cf k0 k1 k2 k3 k4 k5 k6 k7 k8 k9 k10 k11 k12 kf
 obtain ⟨c0,c1,c2,c3,c4,c5,c6,c7,c8,c9,c10,c11,c12,cf⟩:=g4.cells
 obtain ⟨k0,k1,k2,k3,k4,k5,k6,k7,k8,k9,k10,k11,k12,kf⟩:=q4.cells
 go_wp2_with fail
 refine bodyPost_ret (Mb.rest3 (Mb.put q4 _ _ _ _ _ _ _ _ _ _ _ _ _) rfl _ _ _ rfl rfl rfl) rfl ⟨rfl, ?_⟩
 repeat (first | refine setC_fr ?_ _ _ _ (by omega) | with_reducible exact HS4.out)
theorem rest8_any (m:Mv) (x y:Int) (w:World):Calls Tryz.prog 115 #[mv m,pt x y] w fun e w'=>e=.returned (.tuple #[mv (resM m x y),.bool (resD m),.int .i64 (chkM m)])/\Still w w':=by
 cases hm:mayB m with
 | false =>
  have e:chkM m=80:=by unfold chkM; rw [hm]; rfl
  have e2:resD m=false:=by unfold resD; rw [hm]; rfl
  have e3:resM m x y=zM:=by unfold resM; rw [hm]; rfl
  rw [e,e2,e3]
  exact rest_may m x y hm w
 | true =>
  have e:chkM m=0:=by unfold chkM; rw [hm]; rfl
  have e2:resD m=(m.ou == 1):=by unfold resD; rw [hm]; rfl
  have e3:resM m x y=restM m x y:=by unfold resM; rw [hm]; rfl
  rw [e,e2,e3]
  have hM:=mayB_iff.1 hm
  obtain ⟨g1,g2,g3,g4,g5,g6,g7,g8,g9,g10,g11⟩:=hM
  by_cases h0:m.ou=0
  ·rw [show (m.ou == 1)=false by simp; omega]
   exact rest_in m x y _ hm (by simpa using h0) (fun w g hw=>wrest_any g m x y (mayB_iff.1 hm) h0 w hw) w
  ·have hz:(m.ou == 0)=false:=by simpa using h0
   by_cases h1:m.ou=1
   ·have e4:restM m x y={ startM x y m.fc with sd:=m.sd }:=by unfold restM; rw [if_pos h1]
    rw [show (m.ou == 1)=true by simpa using h1,e4]
    exact rest_out m x y true _ hm hz (fun w g hw=>wout_back g m x y h1 w hw) w
   ·have e4:restM m x y={ m with ou:=m.ou - 1 }:=by unfold restM; rw [if_neg h1,if_pos (by omega)]
    rw [show (m.ou == 1)=false by simpa using h1,e4]
    exact rest_out m x y false _ hm hz (fun w g hw=>wout_stay g m x y (by omega) g8.2 w hw) w
end Go.Proofs.YtlibdheihodniaaGreatDoor
