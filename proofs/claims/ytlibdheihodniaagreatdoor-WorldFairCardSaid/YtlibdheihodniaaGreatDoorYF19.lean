/- Parts of the proof, laid end to end. -/
import Derived.Test.YtlibdheihodniaaGreatDoorYF02
import Derived.Test.YtlibdheihodniaaGreatDoorYF01
import Derived.Deep.RegionHeld3
import Derived.Deep.DeepCutAuto
set_option maxHeartbeats 4000000
namespace Go.Proofs.YtlibdheihodniaaGreatDoor
open Go.RowKit
open Pu Gp Ap Vp Np Za
set_option maxRecDepth 100000
theorem swithin_any (n l h:Int) (w:World):Calls Tryz.prog 136 #[.int .i64 n,.int .i64 l,.int .i64 h] w fun e w'=>e=.returned (.bool (amg n l h))/\w'=w:=by
 unfold amg
 by_cases h1:l<=n
 ·go_enter Tryz.func136,Tryz.ntmps136
  go_wp2_with fail
  go_ret
  exact ⟨by simp [h1],rfl⟩
 ·have e:decide (l<=n)=false:=by simpa using h1
  rw [e]
  go_enter Tryz.func136,Tryz.ntmps136
  go_wp2_with fail
  go_ret
  exact ⟨rfl,rfl⟩
theorem ispow_any (n:Int) (w:World):Calls Tryz.prog 135 #[.int .i64 n] w fun e w'=>e=.returned (.bool (amg n 1 3))/\w'=w:=by
 have H:=hid (fun w=>swithin_any n 1 3 w)
 obtain ⟨b,eb⟩:∃ b,amg n 1 3=b:=⟨_,rfl⟩
 rw [eb] at H ⊢
 clear eb
 go_enter Tryz.func135,Tryz.ntmps135
 go_wp2_with fail
 refine (H.out _).mono ?_
 rintro e w2 ⟨he,hw⟩
 rw [he,hw]
 clear he hw w2
 go_wp2_with fail
 go_ret
 exact ⟨rfl,rfl⟩
theorem isown_any (n:Int) (w:World):Calls Tryz.prog 134 #[.int .i64 n] w fun e w'=>e=.returned (.bool (amg n 0 5))/\w'=w:=by
 have H:=hid (fun w=>swithin_any n 0 5 w)
 obtain ⟨b,eb⟩:∃ b,amg n 0 5=b:=⟨_,rfl⟩
 rw [eb] at H ⊢
 clear eb
 go_enter Tryz.func134,Tryz.ntmps134
 go_wp2_with fail
 refine (H.out _).mono ?_
 rintro e w2 ⟨he,hw⟩
 rw [he,hw]
 clear he hw w2
 go_wp2_with fail
 go_ret
 exact ⟨rfl,rfl⟩
theorem isno9_any (n:Int) (w:World):Calls Tryz.prog 133 #[.int .i64 n] w fun e w'=>e=.returned (.bool (amg n 1 1099511627776))/\w'=w:=by
 have H:=hid (fun w=>swithin_any n 1 1099511627776 w)
 obtain ⟨b,eb⟩:∃ b,amg n 1 1099511627776=b:=⟨_,rfl⟩
 rw [eb] at H ⊢
 clear eb
 go_enter Tryz.func133,Tryz.ntmps133
 go_wp2_with fail
 refine (H.out _).mono ?_
 rintro e w2 ⟨he,hw⟩
 rw [he,hw]
 clear he hw w2
 go_wp2_with fail
 go_ret
 exact ⟨rfl,rfl⟩
def Pl (w:World) (g:Nat) (m:Sh):Prop:=w.heap[g]?=some (.cells (scs m) 145 (0,0))
theorem Pl.still {w w':World} {g:Nat} {m:Sh} (h:Pl w g m) (hs:Still w w'):Pl w' g m:=hs.kept_still h
theorem Pl.cells {w:World} {g:Nat} {m:Sh} (h:Pl w g m):w.cell? ⟨g,0,none⟩=some (.int .i64 m.no)/\w.cell? ⟨g,1,none⟩=some (.int .i64 m.ow)/\w.cell? ⟨g,2,none⟩=some (.int .i64 m.pw)/\w.cell? ⟨g,3,none⟩=some (.int .i64 m.ax)/\w.cell? ⟨g,4,none⟩=some (.int .i64 m.ay)/\w.cell? ⟨g,5,none⟩=some (.int .i64 m.sx)/\w.cell? ⟨g,6,none⟩=some (.int .i64 m.sy)/\w.cell? ⟨g,7,none⟩=some (.int .i64 m.lf)/\∀ o,w.frozen? ⟨g,o,none⟩=false:=by
 refine ⟨?_, ?_, ?_, ?_, ?_, ?_, ?_, ?_,fun o=>frozen_of_row w g o _ _ h⟩ <;> (rw [cell_of_row _ _ _ _ _ _ h]; rfl)
abbrev newL (w:World) (m:Sh):World:=w.alloc (.cells (scs m) 145)
theorem newL_pl (w:World) (m:Sh):Pl (newL w m) w.heap.size m:=heap_alloc_new w _
theorem Pl.step {w:World} {g:Nat} {m:Sh} (h:Pl w g m) (x y k:Int):Pl (((w.setCell ⟨g,3,none⟩ (.int .i64 x)).setCell ⟨g,4,none⟩ (.int .i64 y)).setCell ⟨g,7,none⟩ (.int .i64 k)) g { m with ax:=x,ay:=y,lf:=k }:=by
 have h1:=heap_setCell_same w g 3 _ _ (.int .i64 x) h
 have h2:=heap_setCell_same _ g 4 _ _ (.int .i64 y) h1
 have h3:=heap_setCell_same _ g 7 _ _ (.int .i64 k) h2
 exact h3.trans (by kernel_rfl)
abbrev fcs (s:Sh) (C R:Int) (b:ByteArray):Array Value:=#[.int .i64 s.no,.int .i64 s.ow,.int .i64 s.pw,.int .i64 s.ax,.int .i64 s.ay,.int .i64 s.sx,.int .i64 s.sy,.int .i64 s.lf,.int .i64 C,.int .i64 R,.string b]
def Fb (w:World) (g:Nat) (m:Sh) (C R:Int) (b:ByteArray):Prop:=w.heap[g]?=some (.cells (fcs m C R b) 221 (0,0))
theorem Fb.still {w w':World} {g:Nat} {m:Sh} {C R:Int} {b:ByteArray} (h:Fb w g m C R b) (hs:Still w w'):Fb w' g m C R b:=hs.kept_still h
theorem Fb.cells {w:World} {g:Nat} {m:Sh} {C R:Int} {b:ByteArray} (h:Fb w g m C R b):w.cell? ⟨g,0,none⟩=some (.int .i64 m.no)/\w.cell? ⟨g,1,none⟩=some (.int .i64 m.ow)/\w.cell? ⟨g,2,none⟩=some (.int .i64 m.pw)/\w.cell? ⟨g,3,none⟩=some (.int .i64 m.ax)/\w.cell? ⟨g,4,none⟩=some (.int .i64 m.ay)/\w.cell? ⟨g,5,none⟩=some (.int .i64 m.sx)/\w.cell? ⟨g,6,none⟩=some (.int .i64 m.sy)/\w.cell? ⟨g,7,none⟩=some (.int .i64 m.lf)/\w.cell? ⟨g,8,none⟩=some (.int .i64 C)/\w.cell? ⟨g,9,none⟩=some (.int .i64 R)/\w.cell? ⟨g,10,none⟩=some (.string b)/\∀ o,w.frozen? ⟨g,o,none⟩=false:=by
 refine ⟨?_, ?_, ?_, ?_, ?_, ?_, ?_, ?_, ?_, ?_, ?_,fun o=>frozen_of_row w g o _ _ h⟩ <;> (rw [cell_of_row _ _ _ _ _ _ h]; rfl)
abbrev newF (w:World) (m:Sh) (C R:Int) (b:ByteArray):World:=w.alloc (.cells (fcs m C R b) 221)
theorem newF_fb (w:World) (m:Sh) (C R:Int) (b:ByteArray):Fb (newF w m C R b) w.heap.size m C R b:=heap_alloc_new w _
theorem mayS_amg (s:Sh):maySB s=(amg s.no 1 1099511627776 && amg s.ow 0 5 && amg s.pw 1 3 && (bnd s.ax == s.ax && bnd s.ay == s.ay) && amg s.sx (-1536) 1536 && amg s.sy (-1536) 1536 && amg s.lf 1 40):=by
 rw [Bool.eq_iff_iff,maySB_iff]
 unfold amg MayS
 simp only [Bool.and_eq_true,beq_iff_eq,bnd_is,decide_eq_true_eq]
 omega
theorem mayBe_at (s:Sh) (b0 b1 b2 b3 b4 b5 b6 r:Bool) (HE:∀ w,(binOp .eql 46 (pt (bnd s.ax) (bnd s.ay)) (pt s.ax s.ay)).run Tryz.prog w=.ok (.bool b3) w)
  (H0:Hid (∀ w,Calls Tryz.prog 133 #[.int .i64 s.no] w fun e w'=>e=.returned (.bool b0)/\w'=w))
  (H1:Hid (∀ w,Calls Tryz.prog 134 #[.int .i64 s.ow] w fun e w'=>e=.returned (.bool b1)/\w'=w))
  (H2:Hid (∀ w,Calls Tryz.prog 135 #[.int .i64 s.pw] w fun e w'=>e=.returned (.bool b2)/\w'=w))
  (H4:Hid (∀ w,Calls Tryz.prog 136 #[.int .i64 s.sx,.int .i64 (-1536),.int .i64 1536] w fun e w'=>e=.returned (.bool b4)/\w'=w))
  (H5:Hid (∀ w,Calls Tryz.prog 136 #[.int .i64 s.sy,.int .i64 (-1536),.int .i64 1536] w fun e w'=>e=.returned (.bool b5)/\w'=w))
  (H6:Hid (∀ w,Calls Tryz.prog 136 #[.int .i64 s.lf,.int .i64 1,.int .i64 40] w fun e w'=>e=.returned (.bool b6)/\w'=w))
  (h:(b0=false/\r=false)\/(b0=true/\b1=false/\r=false)\/(b0=true/\b1=true/\b2=false/\r=false)\/(b0=true/\b1=true/\b2=true/\b3=false/\r=false)\/(b0=true/\b1=true/\b2=true/\b3=true/\b4=false/\r=false)\/(b0=true/\b1=true/\b2=true/\b3=true/\b4=true/\b5=false/\r=false)\/(b0=true/\b1=true/\b2=true/\b3=true/\b4=true/\b5=true/\r=b6)) (w:World) :
  Calls Tryz.prog 93 #[sv s] w fun e w'=>e=.returned (.bool r)/\Still w w':=by
 obtain ⟨W,eW⟩:∃ W,W=newL w s:=⟨_,rfl⟩
 have p:Pl W w.heap.size s:=by rw [eW]; exact newL_pl w s
 have HS0:=hid (show Still w W by rw [eW]; exact Still.alloc w _)
 have HW:=hid eW
 clear eW
 have G1:=guard_pt
 have HG:=hid (fun w=>gbound_any s.ax s.ay w)
 obtain ⟨c0,c1,c2,c3,c4,c5,c6,c7,cf⟩:=p.cells
 have k0:=Cl.cell c0
 have k1:=Cl.cell c1
 have k2:=Cl.cell c2
 have k3:=Cl.cell c3
 have k4:=Cl.cell c4
 have k5:=Cl.cell c5
 have k6:=Cl.cell c6
 have k7:=Cl.cell c7
 have hne:=Aft.here W
 clear c0 c1 c2 c3 c4 c5 c6 c7 cf p
 rcases h with ⟨rfl,rfl⟩ | ⟨rfl,rfl,rfl⟩ | ⟨rfl,rfl,rfl,rfl⟩ | ⟨rfl,rfl,rfl,rfl,rfl⟩ | ⟨rfl,rfl,rfl,rfl,rfl,rfl⟩ | ⟨rfl,rfl,rfl,rfl,rfl,rfl,rfl⟩ | ⟨rfl,rfl,rfl,rfl,rfl,rfl,rfl⟩
 all_goals
  go_enter Tryz.func93,Tryz.ntmps93
  go_wp2_with fail
  have e:=HW.out
  simp only [newL] at e
  rw [<- e]
  clear e HW
  refine region_all (by kernel_rfl) (by kernel_rfl) ?_
  repeat (go_big_quiet_step ((first | (go_at_call 47; exact Calls.cl (HG.out _)) | (go_at_call 133; with_reducible exact Calls.cl_same (H0.out _)) | (go_at_call 134; with_reducible exact Calls.cl_same (H1.out _)) | (go_at_call 135; with_reducible exact Calls.cl_same (H2.out _)) | (go_at_call 136; with_reducible exact Calls.cl_same (H4.out _)) | (go_at_call 136; with_reducible exact Calls.cl_same (H5.out _)) | (go_at_call 136; with_reducible exact Calls.cl_same (H6.out _)))))
  refine wpQuiet_nil ?_
  intro w1 hs
  go_wp2_with fail
  go_ret
  exact ⟨rfl,HS0.out.trans hs⟩
theorem mayBe_any (s:Sh) (w:World):Calls Tryz.prog 93 #[sv s] w fun e w'=>e=.returned (.bool (maySB s))/\Still w w':=by
 refine mayBe_at s (amg s.no 1 1099511627776) (amg s.ow 0 5) (amg s.pw 1 3) ((bnd s.ax == s.ax && bnd s.ay == s.ay)) (amg s.sx (-1536) 1536) (amg s.sy (-1536) 1536) (amg s.lf 1 40) (maySB s) (eql_pt (bnd s.ax) (bnd s.ay) s.ax s.ay) (hid (isno9_any _)) (hid (isown_any _)) (hid (ispow_any _)) (hid (swithin_any _ _ _)) (hid (swithin_any _ _ _)) (hid (swithin_any _ _ _)) ?_ w
 rw [mayS_amg]
 generalize amg s.no 1 1099511627776=b0
 generalize amg s.ow 0 5=b1
 generalize amg s.pw 1 3=b2
 generalize (bnd s.ax == s.ax && bnd s.ay == s.ay)=b3
 generalize amg s.sx (-1536) 1536=b4
 generalize amg s.sy (-1536) 1536=b5
 generalize amg s.lf 1 40=b6
 revert b0 b1 b2 b3 b4 b5 b6
 decide
theorem chks_any (s:Sh) (w:World):Calls Tryz.prog 54 #[sv s] w fun e w'=>e=.returned (.int .i64 (chkS s))/\Still w w':=by
 have p0:=newS_sb w s
 have HS0:=hid (Still.alloc w (.cells (scs s) 52))
 have H1:=hid (fun w=>mayBe_any s w)
 have HC:Hid (chkS s=if maySB s then 0 else 90):=hid rfl
 obtain ⟨a,ea⟩:∃ b,maySB s=b:=⟨_,rfl⟩
 rw [ea] at H1 HC
 clear ea
 obtain ⟨c0,c1,c2,c3,c4,c5,c6,c7,cf⟩:=p0.cells
 go_enter Tryz.func54,Tryz.ntmps54
 go_wp2_with fail
 refine (H1.out _).mono ?_
 rintro e w1 ⟨rfl,h1⟩
 have HS1:=hid (HS0.out.trans h1)
 clear h1 HS0 p0 c0 c1 c2 c3 c4 c5 c6 c7 cf
 cases a with
 | false =>
  go_wp2_with fail
  go_ret
  exact ⟨by rw [HC.out]; rfl,HS1.out⟩
 | true =>
  go_wp2_with fail
  go_ret
  exact ⟨by rw [HC.out]; rfl,HS1.out⟩
theorem dmgs_any (p:Int) (w:World):Calls Tryz.prog 158 #[.int .i64 p] w fun e w'=>e=.returned (.int .i64 (dmg p))/\w'=w:=by
 have H1:=hid (fun w=>ispow_any p w)
 cases ha:amg p 1 3 with
 | false =>
  have e:dmg p=0:=by
   unfold dmg
   by_cases h:1<=p/\p<=3
   ·rw [amg_iff.2 h] at ha; cases ha
   ·rw [if_pos (by omega)]
  rw [e]
  rw [ha] at H1
  clear ha e
  go_enter Tryz.func158,Tryz.ntmps158
  go_wp2_with fail
  refine (H1.out _).mono ?_
  rintro e w2 ⟨he,hw⟩
  rw [he,hw]
  clear he hw w2
  go_wp2_with fail
  go_ret
  exact ⟨rfl,rfl⟩
 | true =>
  obtain ⟨h1,h2⟩:=amg_iff.1 ha
  have e:dmg p=15*p:=by unfold dmg; rw [if_neg (by omega)]
  rw [e]
  rw [ha] at H1
  clear ha e
  go_enter Tryz.func158,Tryz.ntmps158
  go_wp2_with fail
  refine (H1.out _).mono ?_
  rintro e w2 ⟨he,hw⟩
  rw [he,hw]
  clear he hw w2
  go_wp2_with fail
  go_ret
  exact ⟨rfl,rfl⟩
theorem fire_may (m:Mv) (ow pw no:Int) (hm:mayB m=false) (w:World):Calls Tryz.prog 142 #[mv m,.int .i64 ow,.int .i64 pw,.int .i64 no] w fun e w'=>e=.returned (.tuple #[sv zS,.int .i64 80])/\Still w w':=by
 have A0:=Still.alloc w (.cells (mcs m) 48)
 have A1:=Still.alloc (newM w m) (.cells (scs zS) 52)
 have p0:=(newM_mb w m).still A1
 have q0:=newS_sb (newM w m) zS
 simp only [size_alloc] at q0
 have HS0:=hid (A0.trans A1)
 clear A0 A1
 obtain ⟨c0,c1,c2,c3,c4,c5,c6,c7,c8,c9,c10,c11,c12,cf⟩:=p0.cells
 have H:=hid (fun w=>check8_any m w)
 rw [show chkM m=80 by unfold chkM; rw [hm]; rfl] at H
 clear hm
 go_enter Tryz.func142,Tryz.ntmps142
 go_wp2_with fail
 refine (H.out _).mono ?_
 rintro e w1 ⟨rfl,h1⟩
 have p1:=p0.still h1
 have q1:=q0.still h1
 have HS1:=hid (HS0.out.trans h1)
 clear h1 HS0 p0 q0 c0 c1 c2 c3 c4 c5 c6 c7 c8 c9 c10 c11 c12 cf H
 obtain ⟨c0,c1,c2,c3,c4,c5,c6,c7,c8,c9,c10,c11,c12,cf⟩:=p1.cells
 obtain ⟨k0,k1,k2,k3,k4,k5,k6,k7,kf⟩:=q1.cells
 go_wp2_with fail
 refine bodyPost_ret (Sb.rest (Sb.put q1 _ _ _ _ _ _ _ _) rfl _ _ rfl rfl) rfl ⟨rfl, ?_⟩
 repeat (first | refine setC_fr ?_ _ _ _ (by omega) | with_reducible exact HS1.out)
theorem fire_arg (m:Mv) (ow pw no:Int) (hm:mayB m=true) (ha:argB ow pw no=false) (w:World):Calls Tryz.prog 142 #[mv m,.int .i64 ow,.int .i64 pw,.int .i64 no] w fun e w'=>e=.returned (.tuple #[sv zS,.int .i64 1])/\Still w w':=by
 have HO:=hid (fun w=>isown_any ow w)
 have HP:=hid (fun w=>ispow_any pw w)
 have HN:=hid (fun w=>isno9_any no w)
 have e0:(amg ow 0 5 && amg pw 1 3 && amg no 1 1099511627776)=false:=by
  rw [<- ha]; unfold argB amg; simp only [Bool.and_assoc]
 obtain ⟨bo,eo⟩:∃ b,amg ow 0 5=b:=⟨_,rfl⟩
 obtain ⟨bp,ep⟩:∃ b,amg pw 1 3=b:=⟨_,rfl⟩
 obtain ⟨bn,en⟩:∃ b,amg no 1 1099511627776=b:=⟨_,rfl⟩
 rw [eo] at HO e0
 rw [ep] at HP e0
 rw [en] at HN e0
 clear eo ep en ha
 have A0:=Still.alloc w (.cells (mcs m) 48)
 have A1:=Still.alloc (newM w m) (.cells (scs zS) 52)
 have p0:=(newM_mb w m).still A1
 have q0:=newS_sb (newM w m) zS
 simp only [size_alloc] at q0
 have HS0:=hid (A0.trans A1)
 clear A0 A1
 obtain ⟨c0,c1,c2,c3,c4,c5,c6,c7,c8,c9,c10,c11,c12,cf⟩:=p0.cells
 have H:=hid (fun w=>check8_any m w)
 rw [show chkM m=0 by unfold chkM; rw [hm]; rfl] at H
 clear hm
 have HB:=hid e0
 clear e0
 go_enter Tryz.func142,Tryz.ntmps142
 go_wp2_with fail
 refine (H.out _).mono ?_
 rintro e w1 ⟨rfl,h1⟩
 have p1:=p0.still h1
 have q1:=q0.still h1
 have HS1:=hid (HS0.out.trans h1)
 clear h1 HS0 p0 q0 c0 c1 c2 c3 c4 c5 c6 c7 c8 c9 c10 c11 c12 cf H
 obtain ⟨c0,c1,c2,c3,c4,c5,c6,c7,c8,c9,c10,c11,c12,cf⟩:=p1.cells
 obtain ⟨k0,k1,k2,k3,k4,k5,k6,k7,kf⟩:=q1.cells
 go_wp2_with fail
 refine (HO.out _).mono ?_
 rintro e w2 ⟨he,hw⟩
 rw [he,hw]
 clear he hw w2
 cases bo with
 | false =>
  go_wp2_with fail
  refine bodyPost_ret (Sb.rest (Sb.put q1 _ _ _ _ _ _ _ _) rfl _ _ rfl rfl) rfl ⟨rfl, ?_⟩
  repeat (first | refine setC_fr ?_ _ _ _ (by omega) | with_reducible exact HS1.out)
 | true =>
  go_wp2_with fail
  refine (HP.out _).mono ?_
  rintro e w2 ⟨he,hw⟩
  rw [he,hw]
  clear he hw w2
  cases bp with
  | false =>
   go_wp2_with fail
   refine bodyPost_ret (Sb.rest (Sb.put q1 _ _ _ _ _ _ _ _) rfl _ _ rfl rfl) rfl ⟨rfl, ?_⟩
   repeat (first | refine setC_fr ?_ _ _ _ (by omega) | with_reducible exact HS1.out)
  | true =>
   cases bn with
   | true=>exact absurd HB.out (by decide)
   | false =>
    go_wp2_with fail
    refine (HN.out _).mono ?_
    rintro e w2 ⟨he,hw⟩
    rw [he,hw]
    clear he hw w2
    go_wp2_with fail
    refine bodyPost_ret (Sb.rest (Sb.put q1 _ _ _ _ _ _ _ _) rfl _ _ rfl rfl) rfl ⟨rfl, ?_⟩
    repeat (first | refine setC_fr ?_ _ _ _ (by omega) | with_reducible exact HS1.out)
theorem fire_ok (m:Mv) (ow pw no:Int) (hm:mayB m=true) (ha:argB ow pw no=true) (U V:Int) (eU:ux (dir m.fc)=U) (eV:uy (dir m.fc)=V) (w:World) (ht:Tab w):Calls Tryz.prog 142 #[mv m,.int .i64 ow,.int .i64 pw,.int .i64 no] w fun e w'=>e=.returned (.tuple #[sv ⟨no,ow,pw,addf m.ax (mulf U 1792),addf m.ay (mulf V 1792),mulf U (256*(7 - pw)),mulf V (256*(7 - pw)),40⟩,.int .i64 0])/\Still w w':=by
 have ha2:=argB_iff.1 ha
 have HO:=hid (fun w=>isown_any ow w)
 have HP:=hid (fun w=>ispow_any pw w)
 have HN:=hid (fun w=>isno9_any no w)
 rw [amg_iff.2 ha2.1] at HO
 rw [amg_iff.2 ha2.2.1] at HP
 rw [amg_iff.2 ha2.2.2] at HN
 obtain ⟨a2,a3⟩:=ha2.2.1
 clear ha ha2
 obtain ⟨X,eX⟩:∃ X,addf m.ax (mulf U 1792)=X:=⟨_,rfl⟩
 obtain ⟨Y,eY⟩:∃ Y,addf m.ay (mulf V 1792)=Y:=⟨_,rfl⟩
 obtain ⟨P,eP⟩:∃ P,mulf U (256*(7 - pw))=P:=⟨_,rfl⟩
 obtain ⟨Q,eQ⟩:∃ Q,mulf V (256*(7 - pw))=Q:=⟨_,rfl⟩
 have HAd:=hid (fun u=>gadd_any m.ax m.ay (mulf U 1792) (mulf V 1792) u)
 have HSa:=hid (fun u=>gscale_any U V 1792 u)
 have HSb:=hid (fun u=>gscale_any U V ((7 - pw)*256) u)
 rw [Int.mul_comm] at eP eQ
 rw [eX,eY] at HAd
 rw [eP,eQ] at HSb
 rw [eX,eY,show mulf U (256*(7 - pw))=P from by rw [Int.mul_comm]; exact eP,show mulf V (256*(7 - pw))=Q from by rw [Int.mul_comm]; exact eQ]
 clear eX eY eP eQ
 have A0:=Still.alloc w (.cells (mcs m) 48)
 have A1:=Still.alloc (newM w m) (.cells (scs zS) 52)
 have p0:=(newM_mb w m).still A1
 have q0:=newS_sb (newM w m) zS
 simp only [size_alloc] at q0
 have HS0:=hid (A0.trans A1)
 clear A0 A1
 obtain ⟨c0,c1,c2,c3,c4,c5,c6,c7,c8,c9,c10,c11,c12,cf⟩:=p0.cells
 have H:=hid (fun w=>check8_any m w)
 rw [show chkM m=0 by unfold chkM; rw [hm]; rfl] at H
 have HU:=hid (fun u (hu:Still w u)=>unit_any m.fc u (ht.still hu))
 rw [eU,eV] at HU
 clear hm ht eU eV
 go_enter Tryz.func142,Tryz.ntmps142
 go_wp2_with fail
 refine (H.out _).mono ?_
 rintro e w1 ⟨rfl,h1⟩
 have p1:=p0.still h1
 have q1:=q0.still h1
 have HS1:=hid (HS0.out.trans h1)
 clear h1 HS0 p0 q0 c0 c1 c2 c3 c4 c5 c6 c7 c8 c9 c10 c11 c12 cf H
 obtain ⟨c0,c1,c2,c3,c4,c5,c6,c7,c8,c9,c10,c11,c12,cf⟩:=p1.cells
 obtain ⟨k0,k1,k2,k3,k4,k5,k6,k7,kf⟩:=q1.cells
 go_wp2_with fail
 refine (HO.out _).mono ?_
 rintro e w2 ⟨he,hw⟩
 rw [he,hw]
 clear he hw w2
 go_wp2_with fail
 refine (HP.out _).mono ?_
 rintro e w2 ⟨he,hw⟩
 rw [he,hw]
 clear he hw w2
 go_wp2_with fail
 refine (HN.out _).mono ?_
 rintro e w2 ⟨he,hw⟩
 rw [he,hw]
 clear he hw w2
 go_wp2_with fail
 refine (HU.out _ HS1.out).mono ?_
 rintro e w2 ⟨rfl,h2⟩
 have A2:=Still.alloc w2 (.cells #[.int .i64 U,.int .i64 V] 46)
 have p2:=(p1.still h2).still A2
 have q2:=(q1.still h2).still A2
 have u2:Pb (w2.alloc (.cells #[.int .i64 U,.int .i64 V] 46)) w2.heap.size U V:=newP_pb w2 U V
 have HS2:=hid ((HS1.out.trans h2).trans A2)
 clear h2 A2 HS1 p1 q1 HU c0 c1 c2 c3 c4 c5 c6 c7 c8 c9 c10 c11 c12 cf k0 k1 k2 k3 k4 k5 k6 k7 kf
 obtain ⟨W,eW⟩:∃ W,w2.alloc (.cells #[.int .i64 U,.int .i64 V] 46)=W:=⟨_,rfl⟩
 rw [eW] at p2 q2 u2 HS2
 go_upto_region 7 with fail
 clear eW
 obtain ⟨c0,c1,c2,c3,c4,c5,c6,c7,c8,c9,c10,c11,c12,cf⟩:=p2.cells
 obtain ⟨d0,d1,df⟩:=u2.cells
 have k0:=Cl.cell c0
 have k1:=Cl.cell c1
 have k2:=Cl.cell d0
 have k3:=Cl.cell d1
 have hne:=Aft.here W
 clear d0 d1 df c0 c1 c2 c3 c4 c5 c6 c7 c8 c9 c10 c11 c12 cf
 refine region_rest 14 (by kernel_rfl) (by kernel_rfl) ?_
 simp only [List.take_succ_cons,List.take_zero,List.drop_succ_cons,List.drop_zero]
 repeat (go_big_quiet_step ((first | (go_at_call 192; with_reducible exact Calls.cl (HSa.out _)) | (go_at_call 192; with_reducible exact Calls.cl (HSb.out _)) | (go_at_call 191; with_reducible exact Calls.cl (HAd.out _)))))
 refine wpQuiet_nil ?_
 intro w6 hs
 clear hne k0 k1 k2 k3
 have q6:=q2.still hs
 have HS6:=hid (HS2.out.trans hs)
 clear hs q2 HS2 p2 u2
 obtain ⟨k0,k1,k2,k3,k4,k5,k6,k7,kf⟩:=q6.cells
 go_wp2_with fail
 (try simp only [Exit.inBlock,Exit.then])
 refine bodyPost_ret (Sb.rest (Sb.put q6 _ _ _ _ _ _ _ _) rfl _ _ rfl rfl) rfl ⟨rfl, ?_⟩
 repeat (first | refine setC_fr ?_ _ _ _ (by omega) | with_reducible exact HS6.out)
theorem fire_any (m:Mv) (ow pw no:Int) (w:World) (ht:Tab w):Calls Tryz.prog 142 #[mv m,.int .i64 ow,.int .i64 pw,.int .i64 no] w fun e w'=>e=.returned (.tuple #[sv (firS m ow pw no),.int .i64 (errF m ow pw no)])/\Still w w':=by
 cases hm:mayB m with
 | false =>
  have e:errF m ow pw no=80:=by unfold errF; rw [hm]; rfl
  have e2:firS m ow pw no=zS:=by unfold firS; rw [e]; rfl
  rw [e,e2]
  exact fire_may m ow pw no hm w
 | true =>
  cases ha:argB ow pw no with
  | false =>
   have e:errF m ow pw no=1:=by unfold errF; rw [hm,ha]; rfl
   have e2:firS m ow pw no=zS:=by unfold firS; rw [e]; rfl
   rw [e,e2]
   exact fire_arg m ow pw no hm ha w
  | true =>
   have e:errF m ow pw no=0:=by unfold errF; rw [hm,ha]; rfl
   have e2:firS m ow pw no=fired m ow pw no:=by unfold firS; rw [e]; rfl
   rw [e,e2]
   exact fire_ok m ow pw no hm ha _ _ rfl rfl w ht
theorem ends_any (s:Sh) (w:World):Calls Tryz.prog 151 #[sv s] w fun e w'=>e=.returned (.bool (s.lf == 1))/\Still w w':=by
 have p:=newL_pl w s
 have HS0:=hid (Still.alloc w (.cells (scs s) 145))
 obtain ⟨c0,c1,c2,c3,c4,c5,c6,c7,cf⟩:=p.cells
 go_enter Tryz.func151,Tryz.ntmps151
 go_wp2_with fail
 go_ret
 exact ⟨rfl,HS0.out⟩
theorem came_any (s:Sh) (X Y:Int) (l1:1<=s.lf) (l2:s.lf<=40) (w:World):Calls Tryz.prog 152 #[sv s,pt X Y] w fun e w'=>e=.returned (sv { s with ax:=X,ay:=Y,lf:=s.lf - 1 })/\Still w w':=by
 obtain ⟨W,eW⟩:∃ W,W=newS (newP (newL w s) X Y) zS:=⟨_,rfl⟩
 have A0:=Still.alloc w (.cells (scs s) 145)
 have A1:=Still.alloc (newL w s) (.cells #[.int .i64 X,.int .i64 Y] 46)
 have A2:=Still.alloc (newP (newL w s) X Y) (.cells (scs zS) 52)
 have p2:=((newL_pl w s).still A1).still A2
 have x2:=(newP_pb (newL w s) X Y).still A2
 have q2:=newS_sb (newP (newL w s) X Y) zS
 simp only [size_alloc] at x2 q2
 have HS2:=hid ((A0.trans A1).trans A2)
 simp only [newS,newP,newL] at eW p2 x2 q2 HS2
 rw [<- eW] at p2 x2 q2 HS2
 clear A0 A1 A2
 have HW:=hid eW
 clear eW
 go_enter Tryz.func152,Tryz.ntmps152
 go_upto_region 1 with fail
 have e:=HW.out
 simp only [zS] at e
 rw [<- e]
 clear e HW
 have p3:=p2.step X Y (s.lf - 1)
 have q3:=((q2.other w.heap.size 3 (.int .i64 X) (by omega)).other w.heap.size 4 (.int .i64 Y) (by omega)).other w.heap.size 7 (.int .i64 (s.lf - 1)) (by omega)
 have HS3:=hid (setC_fr (setC_fr (setC_fr HS2.out w.heap.size 3 (.int .i64 X) (Nat.le_refl _)) w.heap.size 4 (.int .i64 Y) (Nat.le_refl _)) w.heap.size 7 (.int .i64 (s.lf - 1)) (Nat.le_refl _))
 obtain ⟨W3,eW3⟩:∃ W3,((W.setCell ⟨w.heap.size,3,none⟩ (.int .i64 X)).setCell ⟨w.heap.size,4,none⟩ (.int .i64 Y)).setCell ⟨w.heap.size,7,none⟩ (.int .i64 (s.lf - 1))=W3:=⟨_,rfl⟩
 rw [eW3] at p3 q3 HS3
 obtain ⟨c0,c1,c2,c3,c4,c5,c6,c7,cf⟩:=p2.cells
 obtain ⟨d0,d1,df⟩:=x2.cells
 go_upto_region 3 with fail
 clear eW3 p2 q2 x2 HS2 d0 d1 df c0 c1 c2 c3 c4 c5 c6 c7 cf
 obtain ⟨c0,c1,c2,c3,c4,c5,c6,c7,cf⟩:=p3.cells
 obtain ⟨k0,k1,k2,k3,k4,k5,k6,k7,kf⟩:=q3.cells
 go_wp2_with fail
 refine bodyPost_ret (Sb.res (Sb.put q3 _ _ _ _ _ _ _ _) rfl _ rfl) rfl ⟨rfl, ?_⟩
 repeat (first | refine setC_fr ?_ _ _ _ (by omega) | with_reducible exact HS3.out)
def Wa (w:World) (b:Nat) (C R:Int) (s:ByteArray):Prop:=w.heap[b]?=some (.cells #[.int .i64 C,.int .i64 R,.string s] 219 (0,0))
theorem Wa.still {w w':World} {b:Nat} {C R:Int} {s:ByteArray} (h:Wa w b C R s) (hs:Still w w'):Wa w' b C R s:=hs.kept_still h
theorem Wa.cells {w:World} {b:Nat} {C R:Int} {s:ByteArray} (h:Wa w b C R s):w.cell? ⟨b,0,none⟩=some (.int .i64 C)/\w.cell? ⟨b,1,none⟩=some (.int .i64 R)/\w.cell? ⟨b,2,none⟩=some (.string s)/\∀ o,w.frozen? ⟨b,o,none⟩=false:=by
 refine ⟨?_, ?_, ?_,fun o=>frozen_of_row w b o _ _ h⟩ <;> (rw [cell_of_row _ _ _ _ _ _ h]; rfl)
abbrev newWa (w:World) (C R:Int) (s:ByteArray):World:=w.alloc (.cells #[.int .i64 C,.int .i64 R,.string s] 219)
theorem newWa_wa (w:World) (C R:Int) (s:ByteArray):Wa (newWa w C R s) w.heap.size C R s:=heap_alloc_new w _
theorem wray_any (C R x y p q X Y:Int) (b:ByteArray) (t:Bool) (hR:∀ u,Calls Tryz.prog 199 #[ar C R b,pt x y,pt p q] u fun e w'=>e=.returned (.tuple #[pt X Y,.bool t])/\Still u w') (w:World):Calls Tryz.prog 150 #[ar C R b,pt x y,pt p q] w fun e w'=>e=.returned (.tuple #[pt X Y,.bool t])/\Still w w':=by
 have A0:=Still.alloc w (.cells #[.int .i64 C,.int .i64 R,.string b] 219)
 have A1:=Still.alloc (newWa w C R b) (.cells #[.int .i64 x,.int .i64 y] 46)
 have A2:=Still.alloc (newP (newWa w C R b) x y) (.cells #[.int .i64 p,.int .i64 q] 46)
 have A3:=Still.alloc (newP (newP (newWa w C R b) x y) p q) (.cells #[.int .i64 0,.int .i64 0] 46)
 have a0:=(((newWa_wa w C R b).still A1).still A2).still A3
 have b0:=((newP_pb (newWa w C R b) x y).still A2).still A3
 have e0:=(newP_pb (newP (newWa w C R b) x y) p q).still A3
 have d0:=newP_pb (newP (newP (newWa w C R b) x y) p q) 0 0
 simp only [size_alloc] at b0 e0 d0
 have HS0:=hid (((A0.trans A1).trans A2).trans A3)
 clear A0 A1 A2 A3
 have HR:=hid hR
 clear hR
 obtain ⟨i0,i1,i2,jf⟩:=a0.cells
 obtain ⟨g0,g1,gf⟩:=b0.cells
 obtain ⟨r0,r1,rf⟩:=e0.cells
 go_enter Tryz.func150,Tryz.ntmps150
 go_wp2_with fail
 refine (HR.out _).mono ?_
 rintro e w1 ⟨rfl,h1⟩
 have d1:=d0.still h1
 have HS1:=hid (HS0.out.trans h1)
 clear h1 a0 b0 e0 d0 HS0 HR i0 i1 i2 jf g0 g1 gf r0 r1 rf
 obtain ⟨k0,k1,kf⟩:=d1.cells
 go_wp2_with fail
 refine bodyPost_ret (Pb.rest (d1.set X Y) rfl _ _ rfl rfl) rfl ⟨rfl, ?_⟩
 exact setP_fr HS1.out _ X Y (.inr (by omega))
theorem fly_may (s:Sh) (C R:Int) (b:ByteArray) (hm:maySB s=false) (w:World):Calls Tryz.prog 106 #[sv s,ar C R b] w fun e w'=>e=.returned (.tuple #[sv zS,.bool false,.int .i64 90])/\Still w w':=by
 have A0:=Still.alloc w (.cells (scs s) 52)
 have A1:=Still.alloc (newS w s) (.cells #[.int .i64 C,.int .i64 R,.string b] 24)
 have A2:=Still.alloc (newA (newS w s) C R b) (.cells (scs zS) 52)
 have A3:=Still.alloc (newS (newA (newS w s) C R b) zS) (.cells (fcs s C R b) 221)
 have p0:=((newS_sb w s).still A1).still A2
 have o0:=(newA_ab (newS w s) C R b).still A2
 have q0:=(newS_sb (newA (newS w s) C R b) zS).still A3
 have f0:=newF_fb (newS (newA (newS w s) C R b) zS) s C R b
 simp only [size_alloc] at o0 q0 f0
 have HS0:=hid (((A0.trans A1).trans A2).trans A3)
 clear A0 A1 A2 A3
 obtain ⟨c0,c1,c2,c3,c4,c5,c6,c7,cf⟩:=p0.cells
 obtain ⟨i0,i1,i2,jf⟩:=o0.cells
 obtain ⟨m0,m1,m2,m3,m4,m5,m6,m7,m8,m9,m10,mf⟩:=f0.cells
 have H:=hid (fun w=>mayBe_any s w)
 rw [hm] at H
 clear hm
 go_enter Tryz.func106,Tryz.ntmps106
 go_wp2_with fail
 refine (H.out _).mono ?_
 rintro e w1 ⟨rfl,h1⟩
 have f1:=f0.still h1
 have q1:=q0.still h1
 have HS1:=hid (HS0.out.trans h1)
 clear h1 HS0 p0 o0 q0 f0 c0 c1 c2 c3 c4 c5 c6 c7 cf H i0 i1 i2 jf m0 m1 m2 m3 m4 m5 m6 m7 m8 m9 m10 mf
 obtain ⟨m0,m1,m2,m3,m4,m5,m6,m7,m8,m9,m10,mf⟩:=f1.cells
 obtain ⟨k0,k1,k2,k3,k4,k5,k6,k7,kf⟩:=q1.cells
 go_wp2_with fail
 refine bodyPost_ret (Sb.rest3 (Sb.put q1 _ _ _ _ _ _ _ _) rfl _ _ _ rfl rfl rfl) rfl ⟨rfl, ?_⟩
 repeat (first | refine setC_fr ?_ _ _ _ (by omega) | with_reducible exact HS1.out)
theorem fly_wall (s:Sh) (C R:Int) (b:ByteArray) (X Y:Int) (hm:maySB s=true) (hR:∀ u,Calls Tryz.prog 150 #[ar C R b,pt s.ax s.ay,pt s.sx s.sy] u fun e w'=>e=.returned (.tuple #[pt X Y,.bool true])/\Still u w') (w:World):Calls Tryz.prog 106 #[sv s,ar C R b] w fun e w'=>e=.returned (.tuple #[sv zS,.bool false,.int .i64 0])/\Still w w':=by
 have A0:=Still.alloc w (.cells (scs s) 52)
 have A1:=Still.alloc (newS w s) (.cells #[.int .i64 C,.int .i64 R,.string b] 24)
 have A2:=Still.alloc (newA (newS w s) C R b) (.cells (scs zS) 52)
 have A3:=Still.alloc (newS (newA (newS w s) C R b) zS) (.cells (fcs s C R b) 221)
 have p0:=((newS_sb w s).still A1).still A2
 have o0:=(newA_ab (newS w s) C R b).still A2
 have q0:=(newS_sb (newA (newS w s) C R b) zS).still A3
 have f0:=newF_fb (newS (newA (newS w s) C R b) zS) s C R b
 simp only [size_alloc] at o0 q0 f0
 have HS0:=hid (((A0.trans A1).trans A2).trans A3)
 clear A0 A1 A2 A3
 obtain ⟨c0,c1,c2,c3,c4,c5,c6,c7,cf⟩:=p0.cells
 obtain ⟨i0,i1,i2,jf⟩:=o0.cells
 obtain ⟨m0,m1,m2,m3,m4,m5,m6,m7,m8,m9,m10,mf⟩:=f0.cells
 have H:=hid (fun w=>mayBe_any s w)
 rw [hm] at H
 have HR:=hid hR
 clear hm hR
 go_enter Tryz.func106,Tryz.ntmps106
 go_wp2_with fail
 refine (H.out _).mono ?_
 rintro e w1 ⟨rfl,h1⟩
 have f1:=f0.still h1
 have q1:=q0.still h1
 have HS1:=hid (HS0.out.trans h1)
 clear h1 HS0 p0 o0 q0 f0 c0 c1 c2 c3 c4 c5 c6 c7 cf H i0 i1 i2 jf m0 m1 m2 m3 m4 m5 m6 m7 m8 m9 m10 mf
 obtain ⟨m0,m1,m2,m3,m4,m5,m6,m7,m8,m9,m10,mf⟩:=f1.cells
 obtain ⟨k0,k1,k2,k3,k4,k5,k6,k7,kf⟩:=q1.cells
 go_wp2_with fail
 refine (HR.out _).mono ?_
 rintro e w2 ⟨rfl,h2⟩
 have A3:=Still.alloc w2 (.cells #[.int .i64 X,.int .i64 Y] 46)
 have f2:=(f1.still h2).still A3
 have q2:=(q1.still h2).still A3
 have x2:Pb (w2.alloc (.cells #[.int .i64 X,.int .i64 Y] 46)) w2.heap.size X Y:=newP_pb w2 X Y
 have HS2:=hid ((HS1.out.trans h2).trans A3)
 clear h2 A3 HS1 f1 q1 HR k0 k1 k2 k3 k4 k5 k6 k7 kf m0 m1 m2 m3 m4 m5 m6 m7 m8 m9 m10 mf
 obtain ⟨m0,m1,m2,m3,m4,m5,m6,m7,m8,m9,m10,mf⟩:=f2.cells
 obtain ⟨k0,k1,k2,k3,k4,k5,k6,k7,kf⟩:=q2.cells
 obtain ⟨d0,d1,df⟩:=x2.cells
 go_wp2_with fail
 refine bodyPost_ret (Sb.rest3 (Sb.put q2 _ _ _ _ _ _ _ _) rfl _ _ _ rfl rfl rfl) rfl ⟨rfl, ?_⟩
 repeat (first | refine setC_fr ?_ _ _ _ (by omega) | with_reducible exact HS2.out)
theorem fly_last (s:Sh) (C R:Int) (b:ByteArray) (X Y:Int) (hm:maySB s=true) (hR:∀ u,Calls Tryz.prog 150 #[ar C R b,pt s.ax s.ay,pt s.sx s.sy] u fun e w'=>e=.returned (.tuple #[pt X Y,.bool false])/\Still u w') (hl:(s.lf == 1)=true) (w:World):Calls Tryz.prog 106 #[sv s,ar C R b] w fun e w'=>e=.returned (.tuple #[sv zS,.bool false,.int .i64 0])/\Still w w':=by
 have A0:=Still.alloc w (.cells (scs s) 52)
 have A1:=Still.alloc (newS w s) (.cells #[.int .i64 C,.int .i64 R,.string b] 24)
 have A2:=Still.alloc (newA (newS w s) C R b) (.cells (scs zS) 52)
 have A3:=Still.alloc (newS (newA (newS w s) C R b) zS) (.cells (fcs s C R b) 221)
 have p0:=((newS_sb w s).still A1).still A2
 have o0:=(newA_ab (newS w s) C R b).still A2
 have q0:=(newS_sb (newA (newS w s) C R b) zS).still A3
 have f0:=newF_fb (newS (newA (newS w s) C R b) zS) s C R b
 simp only [size_alloc] at o0 q0 f0
 have HS0:=hid (((A0.trans A1).trans A2).trans A3)
 clear A0 A1 A2 A3
 obtain ⟨c0,c1,c2,c3,c4,c5,c6,c7,cf⟩:=p0.cells
 obtain ⟨i0,i1,i2,jf⟩:=o0.cells
 obtain ⟨m0,m1,m2,m3,m4,m5,m6,m7,m8,m9,m10,mf⟩:=f0.cells
 have H:=hid (fun w=>mayBe_any s w)
 rw [hm] at H
 have HR:=hid hR
 have HE:=hid (fun w=>ends_any s w)
 rw [hl] at HE
 clear hm hR hl
 go_enter Tryz.func106,Tryz.ntmps106
 go_wp2_with fail
 refine (H.out _).mono ?_
 rintro e w1 ⟨rfl,h1⟩
 have f1:=f0.still h1
 have q1:=q0.still h1
 have HS1:=hid (HS0.out.trans h1)
 clear h1 HS0 p0 o0 q0 f0 c0 c1 c2 c3 c4 c5 c6 c7 cf H i0 i1 i2 jf m0 m1 m2 m3 m4 m5 m6 m7 m8 m9 m10 mf
 obtain ⟨m0,m1,m2,m3,m4,m5,m6,m7,m8,m9,m10,mf⟩:=f1.cells
 obtain ⟨k0,k1,k2,k3,k4,k5,k6,k7,kf⟩:=q1.cells
 go_wp2_with fail
 refine (HR.out _).mono ?_
 rintro e w2 ⟨rfl,h2⟩
 have A3:=Still.alloc w2 (.cells #[.int .i64 X,.int .i64 Y] 46)
 have f2:=(f1.still h2).still A3
 have q2:=(q1.still h2).still A3
 have x2:Pb (w2.alloc (.cells #[.int .i64 X,.int .i64 Y] 46)) w2.heap.size X Y:=newP_pb w2 X Y
 have HS2:=hid ((HS1.out.trans h2).trans A3)
 clear h2 A3 HS1 f1 q1 HR k0 k1 k2 k3 k4 k5 k6 k7 kf m0 m1 m2 m3 m4 m5 m6 m7 m8 m9 m10 mf
 obtain ⟨m0,m1,m2,m3,m4,m5,m6,m7,m8,m9,m10,mf⟩:=f2.cells
 obtain ⟨k0,k1,k2,k3,k4,k5,k6,k7,kf⟩:=q2.cells
 obtain ⟨d0,d1,df⟩:=x2.cells
 go_wp2_with fail
 refine (HE.out _).mono ?_
 rintro e w3 ⟨rfl,h3⟩
 have f3:=f2.still h3
 have q3:=q2.still h3
 have x3:=x2.still h3
 have HS3:=hid (HS2.out.trans h3)
 clear h3 HS2 f2 q2 x2 HE k0 k1 k2 k3 k4 k5 k6 k7 kf m0 m1 m2 m3 m4 m5 m6 m7 m8 m9 m10 mf d0 d1 df
 obtain ⟨m0,m1,m2,m3,m4,m5,m6,m7,m8,m9,m10,mf⟩:=f3.cells
 obtain ⟨k0,k1,k2,k3,k4,k5,k6,k7,kf⟩:=q3.cells
 obtain ⟨d0,d1,df⟩:=x3.cells
 go_wp2_with fail
 refine bodyPost_ret (Sb.rest3 (Sb.put q3 _ _ _ _ _ _ _ _) rfl _ _ _ rfl rfl rfl) rfl ⟨rfl, ?_⟩
 repeat (first | refine setC_fr ?_ _ _ _ (by omega) | with_reducible exact HS3.out)
theorem fly_on (s:Sh) (C R:Int) (b:ByteArray) (X Y:Int) (hm:maySB s=true) (hR:∀ u,Calls Tryz.prog 150 #[ar C R b,pt s.ax s.ay,pt s.sx s.sy] u fun e w'=>e=.returned (.tuple #[pt X Y,.bool false])/\Still u w') (hl:(s.lf == 1)=false) (l1:1<=s.lf) (l2:s.lf<=40) (w:World):Calls Tryz.prog 106 #[sv s,ar C R b] w fun e w'=>e=.returned (.tuple #[sv { s with ax:=X,ay:=Y,lf:=s.lf - 1 },.bool true,.int .i64 0])/\Still w w':=by
 have A0:=Still.alloc w (.cells (scs s) 52)
 have A1:=Still.alloc (newS w s) (.cells #[.int .i64 C,.int .i64 R,.string b] 24)
 have A2:=Still.alloc (newA (newS w s) C R b) (.cells (scs zS) 52)
 have A3:=Still.alloc (newS (newA (newS w s) C R b) zS) (.cells (fcs s C R b) 221)
 have p0:=((newS_sb w s).still A1).still A2
 have o0:=(newA_ab (newS w s) C R b).still A2
 have q0:=(newS_sb (newA (newS w s) C R b) zS).still A3
 have f0:=newF_fb (newS (newA (newS w s) C R b) zS) s C R b
 simp only [size_alloc] at o0 q0 f0
 have HS0:=hid (((A0.trans A1).trans A2).trans A3)
 clear A0 A1 A2 A3
 obtain ⟨c0,c1,c2,c3,c4,c5,c6,c7,cf⟩:=p0.cells
 obtain ⟨i0,i1,i2,jf⟩:=o0.cells
 obtain ⟨m0,m1,m2,m3,m4,m5,m6,m7,m8,m9,m10,mf⟩:=f0.cells
 have H:=hid (fun w=>mayBe_any s w)
 rw [hm] at H
 have HR:=hid hR
 have HE:=hid (fun w=>ends_any s w)
 rw [hl] at HE
 have HC:=hid (fun w=>came_any s X Y l1 l2 w)
 clear hm hR hl
 go_enter Tryz.func106,Tryz.ntmps106
 go_wp2_with fail
 refine (H.out _).mono ?_
 rintro e w1 ⟨rfl,h1⟩
 have f1:=f0.still h1
 have q1:=q0.still h1
 have HS1:=hid (HS0.out.trans h1)
 clear h1 HS0 p0 o0 q0 f0 c0 c1 c2 c3 c4 c5 c6 c7 cf H i0 i1 i2 jf m0 m1 m2 m3 m4 m5 m6 m7 m8 m9 m10 mf
 obtain ⟨m0,m1,m2,m3,m4,m5,m6,m7,m8,m9,m10,mf⟩:=f1.cells
 obtain ⟨k0,k1,k2,k3,k4,k5,k6,k7,kf⟩:=q1.cells
 go_wp2_with fail
 refine (HR.out _).mono ?_
 rintro e w2 ⟨rfl,h2⟩
 have A3:=Still.alloc w2 (.cells #[.int .i64 X,.int .i64 Y] 46)
 have f2:=(f1.still h2).still A3
 have q2:=(q1.still h2).still A3
 have x2:Pb (w2.alloc (.cells #[.int .i64 X,.int .i64 Y] 46)) w2.heap.size X Y:=newP_pb w2 X Y
 have HS2:=hid ((HS1.out.trans h2).trans A3)
 clear h2 A3 HS1 f1 q1 HR k0 k1 k2 k3 k4 k5 k6 k7 kf m0 m1 m2 m3 m4 m5 m6 m7 m8 m9 m10 mf
 obtain ⟨m0,m1,m2,m3,m4,m5,m6,m7,m8,m9,m10,mf⟩:=f2.cells
 obtain ⟨k0,k1,k2,k3,k4,k5,k6,k7,kf⟩:=q2.cells
 obtain ⟨d0,d1,df⟩:=x2.cells
 go_wp2_with fail
 refine (HE.out _).mono ?_
 rintro e w3 ⟨rfl,h3⟩
 have f3:=f2.still h3
 have q3:=q2.still h3
 have x3:=x2.still h3
 have HS3:=hid (HS2.out.trans h3)
 clear h3 HS2 f2 q2 x2 HE k0 k1 k2 k3 k4 k5 k6 k7 kf m0 m1 m2 m3 m4 m5 m6 m7 m8 m9 m10 mf d0 d1 df
 obtain ⟨m0,m1,m2,m3,m4,m5,m6,m7,m8,m9,m10,mf⟩:=f3.cells
 obtain ⟨k0,k1,k2,k3,k4,k5,k6,k7,kf⟩:=q3.cells
 obtain ⟨d0,d1,df⟩:=x3.cells
 go_wp2_with fail
 refine (HC.out _).mono ?_
 rintro e w4 ⟨rfl,h4⟩
 have q4:=q3.still h4
 have HS4:=hid (HS3.out.trans h4)
 clear h4 HS3 f3 q3 x3 HC k0 k1 k2 k3 k4 k5 k6 k7 kf m0 m1 m2 m3 m4 m5 m6 m7 m8 m9 m10 mf d0 d1 df
 obtain ⟨k0,k1,k2,k3,k4,k5,k6,k7,kf⟩:=q4.cells
 go_wp2_with fail
 refine bodyPost_ret (Sb.rest3 (Sb.put q4 _ _ _ _ _ _ _ _) rfl _ _ _ rfl rfl rfl) rfl ⟨rfl, ?_⟩
 repeat (first | refine setC_fr ?_ _ _ _ (by omega) | with_reducible exact HS4.out)
theorem fly_any (s:Sh) (C R:Int) (b:ByteArray) (hz:b.size<=281474976710656) (w:World):Calls Tryz.prog 106 #[sv s,ar C R b] w fun e w'=>e=.returned (.tuple #[sv (flyS (solB C R b) s),.bool (goes (solB C R b) s),.int .i64 (chkS s)])/\Still w w':=by
 cases hm:maySB s with
 | false =>
  have e:chkS s=90:=by unfold chkS; rw [hm]; rfl
  have e1:goes (solB C R b) s=false:=by unfold goes; rw [hm]; rfl
  have e2:flyS (solB C R b) s=zS:=by unfold flyS; rw [e1]; rfl
  rw [e,e1,e2]
  exact fly_may s C R b hm w
 | true =>
  have e:chkS s=0:=by unfold chkS; rw [hm]; rfl
  have hR:=fun u=>ray_any C R s.ax s.ay s.sx s.sy b hz _ _ _ _ (rn s) (rk (solB C R b) s) rfl rfl rfl rfl rfl rfl u
  cases hw:decide (rk (solB C R b) s<rn s) with
  | true =>
   have e1:goes (solB C R b) s=false:=by unfold goes; rw [hw]; simp
   have e2:flyS (solB C R b) s=zS:=by unfold flyS; rw [e1]; rfl
   rw [hw] at hR
   rw [e,e1,e2]
   exact fly_wall s C R b _ _ hm (wray_any _ _ _ _ _ _ _ _ _ _ hR) w
  | false =>
   rw [hw] at hR
   cases hl:s.lf == 1 with
   | true =>
    have e1:goes (solB C R b) s=false:=by unfold goes; rw [hl]; simp
    have e2:flyS (solB C R b) s=zS:=by unfold flyS; rw [e1]; rfl
    rw [e,e1,e2]
    exact fly_last s C R b _ _ hm (wray_any _ _ _ _ _ _ _ _ _ _ hR) hl w
   | false =>
    have e1:goes (solB C R b) s=true:=by unfold goes; rw [hm,hw,hl]; rfl
    have e2:flyS (solB C R b) s=flown (solB C R b) s:=by unfold flyS; rw [e1]; rfl
    rw [e,e1,e2]
    have h:=(maySB_iff.1 hm).2.2.2.2.2
    exact fly_on s C R b _ _ hm (wray_any _ _ _ _ _ _ _ _ _ _ hR) hl h.1 h.2 w
end Go.Proofs.YtlibdheihodniaaGreatDoor
