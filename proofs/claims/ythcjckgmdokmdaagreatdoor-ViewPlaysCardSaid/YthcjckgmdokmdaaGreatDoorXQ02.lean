import Derived.Tactics2
import Derived.Test.YthcjckgmdokmdaaGreatDoorXQ01
import Derived.Deep.DeepCutAuto
import Derived.Test.YthcjckgmdokmdaaGreatDoorProg
import Derived.OwnWalk
set_option maxRecDepth 100000
set_option maxHeartbeats 4000000
namespace Go.Proofs.YthcjckgmdokmdaaGreatDoor.Vp
def nmL:List ByteArray:=[⟨#[115,116,101,101,114]⟩,⟨#[104,97,108,116]⟩,⟨#[97,105,109]⟩,⟨#[102,105,114,101]⟩,⟨#[115,104,105,101,108,100]⟩,⟨#[100,97,115,104]⟩,⟨#[115,97,121]⟩]
def fsL:List ByteArray:=[⟨#[120]⟩,⟨#[]⟩,⟨#[116,111]⟩,⟨#[112,111,119,101,114]⟩,⟨#[111,110]⟩,⟨#[116,111]⟩,⟨#[119,104,97,116]⟩]
def loL:List Int:=[-8,0,0,1,0,0,0]
def hiL:List Int:=[8,0,15,3,1,15,255]
def fsB (i:Nat):ByteArray:=fsL.getD i ByteArray.empty
def lo (i:Nat):Int:=loL.getD i 0
def hi (i:Nat):Int:=hiL.getD i 0
def isV (v:Int):Bool:=decide (1<=v) && decide (v<=7)
def opV (v:Int):List (ByteArray × Int × Int) :=
 if isV v && v != 2 then (fsB (v - 1).toNat,lo (v - 1).toNat,hi (v - 1).toNat) :: (if v=1 then [(⟨#[121]⟩,-8,8)] else []) else []
def okO (v a b c:Int):Bool:=decide (lo (v - 1).toNat<=a) && decide (a<=hi (v - 1).toNat) && (if v=1 then decide (-8<=b) && decide (b<=8) else decide (b=0)) && decide (c=0)
def Zc (v a b c:Int):Int:=if isV v then (if okO v a b c then 0 else 71) else 70
theorem isV_iff {v:Int}:isV v=true ↔ 1<=v/\v<=7:=by unfold isV; simp
theorem isV_no {v:Int}:isV v=false ↔ v<1\/7<v:=by
 unfold isV;simp;omega
theorem KJ {v:Int} (h:isV v=true):v=1\/v=2\/v=3\/v=4\/v=5\/v=6\/v=7:=by
 have:=isV_iff.1 h;omega
def dg (n:Nat):UInt8:=UInt8.ofNat (48+n % 10)
end Go.Proofs.YthcjckgmdokmdaaGreatDoor.Vp
namespace Go.Proofs.YthcjckgmdokmdaaGreatDoor.Np
open Pu Gp Ap Vp
structure Mv where
 ax:Int
 ay:Int
 sx:Int
 sy:Int
 px:Int
 py:Int
 fc:Int
 hl:Int
 en:Int
 sh:Bool
 co:Int
 ou:Int
 sd:Int
def May (m:Mv):Prop :=
 (-2147483647<=m.ax/\m.ax<=2147483647/\-2147483647<=m.ay/\m.ay<=2147483647)/\(-1024<=m.sx/\m.sx<=1024/\-1024<=m.sy/\m.sy<=1024)/\(-256<=m.px/\m.px<=256/\-256<=m.py/\m.py<=256) /\
 (0<=m.fc/\m.fc<=15)/\(0<=m.hl/\m.hl<=100)/\(0<=m.en/\m.en<=100)/\(0<=m.co/\m.co<=12)/\(0<=m.ou/\m.ou<=30)/\(0<=m.sd/\m.sd<=255) /\
 (m.ou=0->1<=m.hl)/\(m.ou≠0->m.sx=0/\m.sy=0/\m.px=0/\m.py=0/\m.hl=0/\m.en=0/\m.sh=false/\m.co=0)
def GK (m:Mv):Decidable (May m):=by unfold May; infer_instance
def Yq (m:Mv):Bool:=@decide (May m) (GK m)
theorem mayB_iff {m:Mv}:Yq m=true ↔ May m:=@decide_eq_true_iff (May m) (GK m)
def zM:Mv:=⟨0,0,0,0,0,0,0,0,0,false,0,0,0⟩
def XO (x y f:Int):Mv:=⟨bnd x,bnd y,0,0,0,0,f % 16,100,50,false,0,0,0⟩
def Yi (m:Mv):Int:=if Yq m then 0 else 80
def Y6 (m:Mv) (v a:Int):Bool:=(m.ou == 0) && (if v=4 then (m.co == 0) && decide (10*a<=m.en) else if v=5 then (a == 0) || decide (0<m.en) else if v=6 then decide (20<=m.en) else true)
def JD (m:Mv) (v a b:Int):Mv :=
 if v=1 then { m with px:=32*a,py:=32*b } else if v=2 then { m with px:=0,py:=0 } else if v=3 then { m with fc:=a } else if v=4 then { m with en:=m.en - 10*a,co:=4*a }
 else if v=5 then { m with sh:=a == 1 } else if v=6 then { m with en:=m.en - 20,sx:=Yw (ux (a % 16).toNat) 1024,sy:=Yw (uy (a % 16).toNat) 1024 } else { m with sd:=a }
def X7 (m:Mv) (v a b c:Int):Int:=if Yq m then Zc v a b c else 80
def Ua (m:Mv) (v a b c:Int):Bool:=(X7 m v a b c == 0) && Y6 m v a
def ZZ (m:Mv) (v a b c:Int):Mv:=if X7 m v a b c=0 then (if Y6 m v a then JD m v a b else m) else zM
def GL (sol:Int->Int->Bool) (x y p:Int):Int:=Yj (bnd x) (sgn (stp p)*(kX sol 1280 (bnd x) (bnd y) (stp p):Int))
def GM (sol:Int->Int->Bool) (x y p q:Int):Nat:=kY sol 1280 (GL sol x y p) (Yj (bnd y) 0) (stp q)
def Nw (sol:Int->Int->Bool) (x y p q:Int):Int:=Yj (Yj (bnd y) 0) (sgn (stp q)*(GM sol x y p q:Int))
def GN (sol:Int->Int->Bool) (x y p q:Int):Int:=V3 (kX sol 1280 (bnd x) (bnd y) (stp p)) (stp p).natAbs (GM sol x y p q) (stp q).natAbs
def spd (s p:Int):Int:=YB ((s*7).tdiv 8+p) (-1024) 1024
def KK (sol:Int->Int->Bool) (m:Mv):Mv :=
  if m.ou=0 then
    { m with ax := Yj (GL sol m.ax m.ay (spd m.sx m.px)) 0, ay := Nw sol m.ax m.ay (spd m.sx m.px) (spd m.sy m.py),
             sx:=if GN sol m.ax m.ay (spd m.sx m.px) (spd m.sy m.py) % 2=1 then -((spd m.sx m.px).tdiv 2) else spd m.sx m.px,
             sy:=if 2<=GN sol m.ax m.ay (spd m.sx m.px) (spd m.sy m.py) then -((spd m.sy m.py).tdiv 2) else spd m.sy m.py }
  else m
def X8 (sol:Int->Int->Bool) (m:Mv):Mv:=if Yq m then KK sol m else zM
def tak (m:Mv) (h:Int):Int:=if m.sh then min m.en h else 0
def JE (m:Mv):Mv:=⟨m.ax,m.ay,0,0,0,0,m.fc,0,0,false,0,30,m.sd⟩
def GO (m:Mv) (h:Int):Bool:=(m.ou == 0) && decide (m.hl - (h - tak m h)<=0)
def X9 (m:Mv) (h:Int):Int:=if Yq m then (if h<1\/100<h then 1 else 0) else 80
def KL (m:Mv) (h:Int):Mv:=if m.ou=0 then (if m.hl - (h - tak m h)<=0 then JE m else { m with en:=m.en - tak m h,sh:=m.sh && decide (0<m.en - tak m h),hl:=m.hl - (h - tak m h) }) else m
def V5 (m:Mv) (h:Int):Mv:=if X9 m h=0 then KL m h else zM
def Vm (m:Mv) (h:Int):Bool:=(X9 m h == 0) && GO m h
def KO (m:Mv) (x y:Int):Mv :=
 if m.ou=1 then { XO x y m.fc with sd:=m.sd } else if 1<m.ou then { m with ou:=m.ou - 1 }
 else { m with co:=if 0<m.co then m.co - 1 else m.co,en:=if m.sh then (if m.en - 2<=0 then 0 else m.en - 2) else if m.en<100 then m.en+1 else m.en,sh:=m.sh && decide (0<m.en - 2) }
def V6 (m:Mv) (x y:Int):Mv:=if Yq m then KO m x y else zM
def UZ (m:Mv):Bool:=Yq m && (m.ou == 1)
theorem bnd_in (n:Int):-2147483647<=bnd n/\bnd n<=2147483647:=by
 unfold bnd;repeat' split
 all_goals omega
theorem bnd_id {n:Int} (h1:-2147483647<=n) (h2:n<=2147483647):bnd n=n:=by
 unfold bnd;rw [if_neg (by omega),if_neg (by omega)]
theorem GP (x y f:Int):May (XO x y f):=by
 have h1:=bnd_in x;have h2:=bnd_in y;unfold May XO;simp only;refine ⟨⟨h1.1,h1.2,h2.1,h2.2⟩, ?_⟩;simp;omega
theorem JF {v a b c:Int} (h:Zc v a b c=0):(v=1/\-8<=a/\a<=8/\-8<=b/\b<=8)\/v=2\/(v=3/\0<=a/\a<=15)\/(v=4/\1<=a/\a<=3)\/(v=5/\0<=a/\a<=1)\/(v=6/\0<=a/\a<=15)\/(v=7/\0<=a/\a<=255):=by
 unfold Zc at h;split at h
 ·rename_i hv;split at h
  ·rename_i ho;unfold okO at ho;simp only [Bool.and_eq_true,decide_eq_true_eq] at ho;obtain ⟨⟨⟨h1,h2⟩,h3⟩,h4⟩:=ho;rcases KJ hv with rfl | rfl | rfl | rfl | rfl | rfl | rfl <;> simp [lo,hi,loL,hiL] at h1 h2 h3 ⊢ <;> omega
  ·cases h
 ·cases h
theorem Nx:∀ d:Nat,d<16->(-1024<=Yw (ux d) 1024/\Yw (ux d) 1024<=1024)/\(-1024<=Yw (uy d) 1024/\Yw (uy d) 1024<=1024):=by decide
theorem Ny {m:Mv} {v a b c:Int} (hm:May m) (hc:Zc v a b c=0) (hd:Y6 m v a=true):May (JD m v a b):=by
 have hu:=Nx (a % 16).toNat (by omega);have hr:=JF hc;unfold Y6 at hd;simp only [Bool.and_eq_true,beq_iff_eq] at hd;obtain ⟨h0,hd⟩:=hd;obtain ⟨g1,g2,g3,g4,g5,g6,g7,g8,g9,g10,g11⟩:=hm;have h1:=g10 h0;clear g10 g11;unfold JD;rcases hr with ⟨rfl,hr⟩ | rfl | ⟨rfl,hr⟩ | ⟨rfl,hr⟩ | ⟨rfl,hr⟩ | ⟨rfl,hr⟩ | ⟨rfl,hr⟩ <;> simp at hd ⊢ <;> refine ⟨?_, ?_, ?_, ?_, ?_, ?_, ?_, ?_, ?_, ?_, ?_⟩ <;> simp only <;> first | omega | (intro hh; omega)
theorem Nz {m:Mv} {v a b c:Int} (he:X7 m v a b c=0):May (ZZ m v a b c):=by
 have hm:May m:=by
  unfold X7 at he;split at he
  ·exact mayB_iff.1 (by assumption)
  ·cases he
 have hc:Zc v a b c=0:=by
  unfold X7 at he;rw [if_pos (mayB_iff.2 hm)] at he;exact he
 unfold ZZ;rw [if_pos he];split
 ·exact Ny hm hc (by assumption)
 ·exact hm
theorem JG (s p:Int):-1024<=spd s p/\spd s p<=1024:=by
 unfold spd YB;have h1:bnd (-1024)=-1024:=by decide
 have h2:bnd 1024=1024:=by decide
 rw [h1,h2];repeat' split
 all_goals omega
theorem GQ {n:Int} (h1:-1024<=n) (h2:n<=1024):-1024 <= -(n.tdiv 2)/\-(n.tdiv 2)<=1024:=by
 rcases Int.le_total 0 n with h | h
 ·rw [Int.tdiv_eq_ediv_of_nonneg h]; omega
 ·have e:n.tdiv 2=-((-n).tdiv 2):=by rw [Int.neg_tdiv]; omega
  rw [e,Int.tdiv_eq_ediv_of_nonneg (by omega)]; omega
theorem N5 {m:Mv} (sol:Int->Int->Bool) (hm:May m):May (X8 sol m):=by
 unfold X8;rw [if_pos (mayB_iff.2 hm)];unfold KK;split
 ·rename_i h0;obtain ⟨g1,g2,g3,g4,g5,g6,g7,g8,g9,g10,g11⟩:=hm;have hs:=JG m.sx m.px;have ht:=JG m.sy m.py;have hs2:=GQ hs.1 hs.2;have ht2:=GQ ht.1 ht.2;refine ⟨?_, ?_,g3,g4,g5,g6,g7,g8,g9,g10,fun h=>absurd h0 h⟩
  ·exact ⟨(bnd_in _).1,(bnd_in _).2,(bnd_in _).1,(bnd_in _).2⟩
  ·simp only;refine ⟨?_, ?_, ?_, ?_⟩ <;> split <;> omega
 ·exact hm
theorem N6 {m:Mv} {h:Int} (hm:May m) (h1:1<=h):0<=tak m h/\tak m h<=m.en/\tak m h<=h:=by
 have:=hm.2.2.2.2.2.1;unfold tak;split <;> omega
theorem N7 {m:Mv} {h:Int} (he:X9 m h=0):May (V5 m h):=by
 have hm:May m:=by
  unfold X9 at he;split at he
  ·exact mayB_iff.1 (by assumption)
  ·cases he
 have hh:1<=h/\h<=100:=by
  unfold X9 at he;rw [if_pos (mayB_iff.2 hm)] at he;split at he
  ·cases he
  ·omega
 unfold V5;rw [if_pos he];have ht:=N6 hm hh.1;have hm0:=hm;obtain ⟨g1,g2,g3,g4,g5,g6,g7,g8,g9,g10,g11⟩:=hm;unfold KL;split
 ·rename_i h0;split
  ·unfold JE May;simp only;refine ⟨g1, ?_⟩;simp;omega
  ·refine ⟨g1,g2,g3,g4, ?_, ?_,g7,g8,g9, ?_,fun h=>absurd h0 h⟩ <;> simp only <;> omega
 ·exact hm0
theorem N8 {m:Mv} (x y:Int) (hm:May m):May (V6 m x y):=by
 unfold V6;rw [if_pos (mayB_iff.2 hm)];have hm0:=hm;obtain ⟨g1,g2,g3,g4,g5,g6,g7,g8,g9,g10,g11⟩:=hm;unfold KO;split
 ·have:=GP x y m.fc;obtain ⟨k1,k2,k3,k4,k5,k6,k7,k8,k9,k10,k11⟩:=this;exact ⟨k1,k2,k3,k4,k5,k6,k7,k8,g9,k10,k11⟩
 ·split
  ·obtain ⟨e1,e2,e3,e4,e5,e6,e7,e8⟩:=g11 (by omega);refine ⟨g1,g2,g3,g4,g5,g6,g7, ?_,g9, ?_,fun _=>⟨e1,e2,e3,e4,e5,e6,e7,e8⟩⟩ <;> simp only <;> omega
  ·have h0:m.ou=0:=by omega
   refine ⟨g1,g2,g3,g4,g5, ?_, ?_,g8,g9,g10,fun h=>absurd h0 h⟩ <;> simp only
   ·repeat' split
    all_goals omega
   ·split <;> omega
end Go.Proofs.YthcjckgmdokmdaaGreatDoor.Np
namespace Go.Proofs.YthcjckgmdokmdaaGreatDoor
open Go.RowKit
open Pu Gp Ap Vp Np
set_option maxRecDepth 100000
abbrev mcs (m:Mv):Array Value:=#[.int .i64 m.ax,.int .i64 m.ay,.int .i64 m.sx,.int .i64 m.sy,.int .i64 m.px,.int .i64 m.py,.int .i64 m.fc,.int .i64 m.hl,.int .i64 m.en,.bool m.sh,.int .i64 m.co,.int .i64 m.ou,.int .i64 m.sd]
abbrev mv (m:Mv):Value:=.agg (mcs m)
def Mb (w:World) (g:Nat) (m:Mv):Prop:=w.heap[g]?=some (.cells (mcs m) 56 (0,0))
theorem Mb.sT {w w':World} {g:Nat} {m:Mv} (h:Mb w g m) (hs:Yc w w'):Mb w' g m:=hs.kept_still h
theorem Mb.lt {w:World} {g:Nat} {m:Mv} (h:Mb w g m):g<w.heap.size:=Yz h
theorem Mb.cells {w:World} {g:Nat} {m:Mv} (h:Mb w g m):w.cell? ⟨g,0,none⟩=some (.int .i64 m.ax)/\w.cell? ⟨g,1,none⟩=some (.int .i64 m.ay)/\w.cell? ⟨g,2,none⟩=some (.int .i64 m.sx)/\w.cell? ⟨g,3,none⟩=some (.int .i64 m.sy)/\w.cell? ⟨g,4,none⟩=some (.int .i64 m.px)/\w.cell? ⟨g,5,none⟩=some (.int .i64 m.py)/\w.cell? ⟨g,6,none⟩=some (.int .i64 m.fc)/\w.cell? ⟨g,7,none⟩=some (.int .i64 m.hl)/\w.cell? ⟨g,8,none⟩=some (.int .i64 m.en)/\w.cell? ⟨g,9,none⟩=some (.bool m.sh)/\w.cell? ⟨g,10,none⟩=some (.int .i64 m.co)/\w.cell? ⟨g,11,none⟩=some (.int .i64 m.ou)/\w.cell? ⟨g,12,none⟩=some (.int .i64 m.sd)/\∀ o,w.frozen? ⟨g,o,none⟩=false:=by
 refine ⟨?_, ?_, ?_, ?_, ?_, ?_, ?_, ?_, ?_, ?_, ?_, ?_, ?_,fun o=>frozen_of_row w g o _ _ h⟩ <;> (rw [cell_of_row _ _ _ _ _ _ h]; rfl)
abbrev Ye (w:World) (m:Mv):World:=w.alloc (.cells (mcs m) 56)
theorem Yk (w:World) (m:Mv):Mb (Ye w m) w.heap.size m:=heap_alloc_new w _
abbrev setM (w:World) (g:Nat) (m:Mv):World:=(((((((((((((w.setCell ⟨g,0,none⟩ (.int .i64 m.ax)).setCell ⟨g,1,none⟩ (.int .i64 m.ay)).setCell ⟨g,2,none⟩ (.int .i64 m.sx)).setCell ⟨g,3,none⟩ (.int .i64 m.sy)).setCell ⟨g,4,none⟩ (.int .i64 m.px)).setCell ⟨g,5,none⟩ (.int .i64 m.py)).setCell ⟨g,6,none⟩ (.int .i64 m.fc)).setCell ⟨g,7,none⟩ (.int .i64 m.hl)).setCell ⟨g,8,none⟩ (.int .i64 m.en)).setCell ⟨g,9,none⟩ (.bool m.sh)).setCell ⟨g,10,none⟩ (.int .i64 m.co)).setCell ⟨g,11,none⟩ (.int .i64 m.ou)).setCell ⟨g,12,none⟩ (.int .i64 m.sd))
theorem Mb.set {w:World} {g:Nat} {m:Mv} (h0:Mb w g m) (n:Mv):Mb (setM w g n) g n:=by
 unfold Mb at h0 ⊢;have h1:=heap_setCell_same _ g 0 _ _ (.int .i64 n.ax) h0;have h2:=heap_setCell_same _ g 1 _ _ (.int .i64 n.ay) h1;have h3:=heap_setCell_same _ g 2 _ _ (.int .i64 n.sx) h2;have h4:=heap_setCell_same _ g 3 _ _ (.int .i64 n.sy) h3;have h5:=heap_setCell_same _ g 4 _ _ (.int .i64 n.px) h4;have h6:=heap_setCell_same _ g 5 _ _ (.int .i64 n.py) h5;have h7:=heap_setCell_same _ g 6 _ _ (.int .i64 n.fc) h6;have h8:=heap_setCell_same _ g 7 _ _ (.int .i64 n.hl) h7;have h9:=heap_setCell_same _ g 8 _ _ (.int .i64 n.en) h8;have h10:=heap_setCell_same _ g 9 _ _ (.bool n.sh) h9;have h11:=heap_setCell_same _ g 10 _ _ (.int .i64 n.co) h10;have h12:=heap_setCell_same _ g 11 _ _ (.int .i64 n.ou) h11;have h13:=heap_setCell_same _ g 12 _ _ (.int .i64 n.sd) h12;exact h13.trans (by kernel_rfl)
theorem N9 {F:Nat->Prop} {x w:World} (h:Fr F x w) (g:Nat) (m:Mv) (hb:F g\/x.heap.size<=g):Fr F x (setM w g m):=(((((((((((((h.setCell _ _ hb).setCell _ _ hb).setCell _ _ hb).setCell _ _ hb).setCell _ _ hb).setCell _ _ hb).setCell _ _ hb).setCell _ _ hb).setCell _ _ hb).setCell _ _ hb).setCell _ _ hb).setCell _ _ hb).setCell _ _ hb)
theorem Mb.other {w:World} {g:Nat} {m:Mv} (h:Mb w g m) (k o:Nat) (v:Value) (hk:g≠k):Mb (w.setCell ⟨k,o,none⟩ v) g m:=by
 unfold Mb at h ⊢;rw [heap_setCell_other _ _ _ _ hk];exact h
theorem NA (w:World) (g:Nat) (m:Mv) (c0:w.cell? ⟨g,0,none⟩=some (.int .i64 m.ax)) (c1:w.cell? ⟨g,1,none⟩=some (.int .i64 m.ay)) (c2:w.cell? ⟨g,2,none⟩=some (.int .i64 m.sx)) (c3:w.cell? ⟨g,3,none⟩=some (.int .i64 m.sy)) (c4:w.cell? ⟨g,4,none⟩=some (.int .i64 m.px)) (c5:w.cell? ⟨g,5,none⟩=some (.int .i64 m.py)) (c6:w.cell? ⟨g,6,none⟩=some (.int .i64 m.fc)) (c7:w.cell? ⟨g,7,none⟩=some (.int .i64 m.hl)) (c8:w.cell? ⟨g,8,none⟩=some (.int .i64 m.en)) (c9:w.cell? ⟨g,9,none⟩=some (.bool m.sh)) (c10:w.cell? ⟨g,10,none⟩=some (.int .i64 m.co)) (c11:w.cell? ⟨g,11,none⟩=some (.int .i64 m.ou)) (c12:w.cell? ⟨g,12,none⟩=some (.int .i64 m.sd)) :
  (loadVar 56 ⟨g,0,none⟩).run Tryz.prog w=.ok (mv m) w:=by
 go_simp
theorem Mb.load {w:World} {g:Nat} {m:Mv} (hb:Mb w g m):(loadVar 56 ⟨g,0,none⟩).run Tryz.prog w=.ok (mv m) w:=NA w g m hb.cells.1 hb.cells.2.1 hb.cells.2.2.1 hb.cells.2.2.2.1 hb.cells.2.2.2.2.1 hb.cells.2.2.2.2.2.1 hb.cells.2.2.2.2.2.2.1 hb.cells.2.2.2.2.2.2.2.1 hb.cells.2.2.2.2.2.2.2.2.1 hb.cells.2.2.2.2.2.2.2.2.2.1 hb.cells.2.2.2.2.2.2.2.2.2.2.1 hb.cells.2.2.2.2.2.2.2.2.2.2.2.1 hb.cells.2.2.2.2.2.2.2.2.2.2.2.2.1
theorem Mb.res {fn:Func} {p:Tmp} {w:World} {g:Nat} {m:Mv} (hb:Mb w g m) (h:fn.results=#[.cell p 56]) (tmps:Array Value) (hp:tmps.getD p undef=.pointer (some ⟨g,0,none⟩)) :
  (results fn tmps).run Tryz.prog w=.ok (mv m) w:=by
 have hp':tmps[p]?.getD undef=.pointer (some ⟨g,0,none⟩):=by simpa using hp
 simp [results,h,hp',asAddr,hb.load]
theorem Mb.rest {fn:Func} {p q:Tmp} {w:World} {g:Nat} {m:Mv} (hb:Mb w g m) (h:fn.results=#[.cell p 56,.tmp q]) (tmps:Array Value) (t:Value) (hp:tmps.getD p undef=.pointer (some ⟨g,0,none⟩)) (hq:tmps.getD q undef=t) :
  (results fn tmps).run Tryz.prog w=.ok (.tuple #[mv m,t]) w:=by
 rw [results_cell_tmp h,hp,hq];simp [asAddr,Result.andThen,hb.load]
theorem KP {fn:Func} {p u v:Tmp} {ty:TypeId} (h:fn.results=#[.cell p ty,.tmp u,.tmp v]) (tmps:Array Value) (P:Program) (w:World) :
  (results fn tmps).run P w=((asAddr (tmps.getD p undef)).run P w).andThen fun a w₁=>((loadVar ty a).run P w₁).andThen fun x w₂=>.ok (.tuple #[x,tmps.getD u undef,tmps.getD v undef]) w₂:=by
 simp only [results,h];simp [Sem.run_bind,Result.andThen]
theorem Mb.rest3 {fn:Func} {p q r:Tmp} {w:World} {g:Nat} {m:Mv} (hb:Mb w g m) (h:fn.results=#[.cell p 56,.tmp q,.tmp r]) (tmps:Array Value) (t s:Value) (hp:tmps.getD p undef=.pointer (some ⟨g,0,none⟩)) (hq:tmps.getD q undef=t) (hr:tmps.getD r undef=s) :
  (results fn tmps).run Tryz.prog w=.ok (.tuple #[mv m,t,s]) w:=by
 rw [KP h,hp,hq,hr];simp [asAddr,Result.andThen,hb.load]
def eqM (m n:Mv):Bool:=(m.ax == n.ax) && (m.ay == n.ay) && (m.sx == n.sx) && (m.sy == n.sy) && (m.px == n.px) && (m.py == n.py) && (m.fc == n.fc) && (m.hl == n.hl) && (m.en == n.en) && (m.sh == n.sh) && (m.co == n.co) && (m.ou == n.ou) && (m.sd == n.sd)
theorem NC (m:Mv):eqM m m=true:=by unfold eqM; simp
theorem ND {m n:Mv}:eqM m n=true ↔ m=n:=by
 constructor
 ·intro h;unfold eqM at h;simp only [Bool.and_eq_true,beq_iff_eq] at h;cases m; cases n
  simp_all
 ·rintro rfl; exact NC m
theorem Vn (d:Nat) (x y:Int) (w:World):(Op.equalIn (d+1) 3 (.int .i64 x) (.int .i64 y)).run Tryz.prog w=.ok (x == y) w:=by
 go_simp
theorem NE (d:Nat) (x y:Bool) (w:World):(Op.equalIn (d+1) 4 (.bool x) (.bool y)).run Tryz.prog w=.ok (x == y) w:=by
 go_simp
theorem Ux (m:Mv) (w:World):(part 54 (mcs m) 0).run Tryz.prog w=.ok (pt m.ax m.ay) w/\(part 54 (mcs m) 2).run Tryz.prog w=.ok (pt m.sx m.sy) w/\(part 54 (mcs m) 4).run Tryz.prog w=.ok (pt m.px m.py) w:=by
 refine ⟨?_, ?_, ?_⟩ <;> go_simp
theorem ZP (m:Mv) (w:World):(part 3 (mcs m) 6).run Tryz.prog w=.ok (.int .i64 m.fc) w/\(part 3 (mcs m) 7).run Tryz.prog w=.ok (.int .i64 m.hl) w/\(part 3 (mcs m) 8).run Tryz.prog w=.ok (.int .i64 m.en) w/\(part 3 (mcs m) 10).run Tryz.prog w=.ok (.int .i64 m.co) w/\(part 3 (mcs m) 11).run Tryz.prog w=.ok (.int .i64 m.ou) w/\(part 3 (mcs m) 12).run Tryz.prog w=.ok (.int .i64 m.sd) w/\(part 4 (mcs m) 9).run Tryz.prog w=.ok (.bool m.sh) w:=by
 refine ⟨?_, ?_, ?_, ?_, ?_, ?_, ?_⟩ <;> go_simp
def eqP (m n:Mv):Bool:=(m.ax == n.ax && m.ay == n.ay) && ((m.sx == n.sx && m.sy == n.sy) && ((m.px == n.px && m.py == n.py) && ((m.fc == n.fc) && ((m.hl == n.hl) && ((m.en == n.en) && ((m.sh == n.sh) && ((m.co == n.co) && ((m.ou == n.ou) && (m.sd == n.sd)))))))))
theorem NF (m n:Mv):eqP m n=eqM m n:=by
 unfold eqP eqM;simp only [Bool.and_assoc]
theorem st {b c:Bool} {w:World} {R:Result Bool} (h:R=.ok c w):(if (!b)=true then Result.ok false w else R)=.ok (b && c) w:=by
 cases b <;> simp [h]
theorem st1 (b:Bool) {w:World}:(if (!b)=true then Result.ok false w else Result.ok true w)=.ok b w:=by
 cases b <;> rfl
theorem NH (m n:Mv) (w:World):(Op.equalIn 10000 56 (mv m) (mv n)).run Tryz.prog w=.ok (eqM m n) w:=by
 have a1:=fun w=>(Ux m w).1;have a2:=fun w=>(Ux m w).2.1;have a3:=fun w=>(Ux m w).2.2;have b1:=fun w=>(Ux n w).1;have b2:=fun w=>(Ux n w).2.1;have b3:=fun w=>(Ux n w).2.2;have q1:=fun w=>Vd 9997 m.ax m.ay n.ax n.ay w;have q2:=fun w=>Vd 9997 m.sx m.sy n.sx n.sy w;have q3:=fun w=>Vd 9997 m.px m.py n.px n.py w;have c0:=fun w=>(ZP m w).1;have d0:=fun w=>(ZP n w).1;have r0:=fun w=>Vn 9998 m.fc n.fc w;have c1:=fun w=>(ZP m w).2.1;have d1:=fun w=>(ZP n w).2.1;have r1:=fun w=>Vn 9998 m.hl n.hl w;have c2:=fun w=>(ZP m w).2.2.1;have d2:=fun w=>(ZP n w).2.2.1;have r2:=fun w=>Vn 9998 m.en n.en w;have c3:=fun w=>(ZP m w).2.2.2.1;have d3:=fun w=>(ZP n w).2.2.2.1;have r3:=fun w=>Vn 9998 m.co n.co w;have c4:=fun w=>(ZP m w).2.2.2.2.1;have d4:=fun w=>(ZP n w).2.2.2.2.1;have r4:=fun w=>Vn 9998 m.ou n.ou w;have c5:=fun w=>(ZP m w).2.2.2.2.2.1;have d5:=fun w=>(ZP n w).2.2.2.2.2.1;have r5:=fun w=>Vn 9998 m.sd n.sd w;have c6:=fun w=>(ZP m w).2.2.2.2.2.2;have d6:=fun w=>(ZP n w).2.2.2.2.2.2;have r6:=fun w=>NE 9998 m.sh n.sh w;rw [run_equalIn_struct w 9999 _ _ _ (by kernel_rfl) (by kernel_rfl)];have e : (Tryz.prog.fieldsOf 56) = #[⟨ "At", 54, 0, false, "", "", 0⟩, ⟨ "Speed", 54, 2, false, "", "", 16⟩, ⟨ "Push", 54, 4, false, "", "", 32⟩, ⟨ "Facing", 3, 6, false, "", "", 48⟩, ⟨ "Health", 3, 7, false, "", "", 56⟩, ⟨ "Energy", 3, 8, false, "", "", 64⟩, ⟨ "Shield", 4, 9, false, "", "", 72⟩, ⟨ "Cool", 3, 10, false, "", "", 80⟩, ⟨ "Out", 3, 11, false, "", "", 88⟩, ⟨ "Said", 3, 12, false, "", "", 96⟩] := by kernel_rfl
 rw [e,<- NF];simp only [Op.eqFields,ne_eq,String.reduceEq,not_false_eq_true,if_true,Sem.run_bind,a1,a2,a3,b1,b2,b3,c0,c1,c2,c3,c4,c5,c6,d0,d1,d2,d3,d4,d5,d6,Result.andThen_ok,q1,q2,q3,r0,r1,r2,r3,r4,r5,r6,Sem.run_ite,Sem.run_pure];unfold eqP;exact st (st (st (st (st (st (st (st (st (st1 _)))))))))
theorem GR (m n:Mv) (w:World):(binOp .eql 56 (mv m) (mv n)).run Tryz.prog w=.ok (.bool (eqM m n)) w:=by
 rw [run_eql_struct,NH]; rfl
theorem GS (op:BinOp) (a b:Operand) (xs ys:Array Value) (w:World):(eqGuard op 56 a b (.agg xs) (.agg ys)).run Tryz.prog w=.ok () w:=run_eqGuard_agg w op _ a b xs ys (by kernel_rfl)
theorem Mb.put {w:World} {g:Nat} {m:Mv} (h:Mb w g m) (ax:Int) (ay:Int) (sx:Int) (sy:Int) (px:Int) (py:Int) (fc:Int) (hl:Int) (en:Int) (sh:Bool) (co:Int) (ou:Int) (sd:Int):Mb (((((((((((((w.setCell ⟨g,0,none⟩ (.int .i64 ax)).setCell ⟨g,1,none⟩ (.int .i64 ay)).setCell ⟨g,2,none⟩ (.int .i64 sx)).setCell ⟨g,3,none⟩ (.int .i64 sy)).setCell ⟨g,4,none⟩ (.int .i64 px)).setCell ⟨g,5,none⟩ (.int .i64 py)).setCell ⟨g,6,none⟩ (.int .i64 fc)).setCell ⟨g,7,none⟩ (.int .i64 hl)).setCell ⟨g,8,none⟩ (.int .i64 en)).setCell ⟨g,9,none⟩ (.bool sh)).setCell ⟨g,10,none⟩ (.int .i64 co)).setCell ⟨g,11,none⟩ (.int .i64 ou)).setCell ⟨g,12,none⟩ (.int .i64 sd)) g ⟨ax,ay,sx,sy,px,py,fc,hl,en,sh,co,ou,sd⟩:=h.set ⟨ax,ay,sx,sy,px,py,fc,hl,en,sh,co,ou,sd⟩
theorem Yg {x w:World} (h:Yc x w) (g o:Nat) (v:Value) (hb:x.heap.size<=g):Yc x (w.setCell ⟨g,o,none⟩ v):=h.setCell _ _ (.inr hb)
def amg (n l h:Int):Bool:=decide (l<=n) && decide (n<=h)
theorem NI {n l h:Int}:amg n l h=true ↔ l<=n/\n<=h:=by unfold amg; simp
theorem NJ (n l h:Int) (w:World):Yb 147 #[.int .i64 n,.int .i64 l,.int .i64 h] w (.bool (amg n l h)):=by
 unfold amg;by_cases h1:l<=n
 ·have h1':n ≥ l:=h1;go_enter Tryz.func147,Tryz.ntmps147;go_wp2_with fail;go_ret;exact ⟨by simp [h1],rfl⟩
 ·have h1':¬ n ≥ l:=h1;have e:decide (l<=n)=false:=by simpa using h1
  rw [e];go_enter Tryz.func147,Tryz.ntmps147;go_wp2_with fail;go_ret;exact ⟨rfl,rfl⟩
theorem GT (x y f:Int) (w:World):Ya 26 #[pt x y,.int .i64 f] w (mv (XO x y f)):=by
 have A0:=aL w (.cells #[.int .i64 x,.int .i64 y] 54);have A1:=aL (Yh w x y) (.cells (mcs zM) 56);have p:=(Yp w x y).sT A1;have q:=Yk (Yh w x y) zM;rw [Yf] at q;have HS0:=hid (A0.trans A1);clear A0 A1;obtain ⟨c0,c1,cf⟩:=p.cells;go_enter Tryz.func26,Tryz.ntmps26;go_wp2_with fail;refine (ZE x y _).mono ?_;rintro e w1 ⟨rfl,h1⟩;have q1:=q.sT h1;have HS1:=hid (HS0.o.trans h1);clear h1 q p HS0 c0 c1 cf;go_wp2_with fail;refine (QY f _).mono ?_;rintro e w2 ⟨he,hw⟩;rw [he,hw];clear he hw w2;obtain ⟨c0,c1,c2,c3,c4,c5,c6,c7,c8,c9,c10,c11,c12,cf⟩:=q1.cells;go_wp2_with fail;have q2:=q1.set (XO x y f);have HF:=N9 HS1.o (w.heap.size+1) (XO x y f) (.inr (by omega));simp only [XO] at q2 HF;refine bodyPost_ret (q2.res rfl _ rfl) rfl ?_;exact ⟨rfl,HF⟩
def mA (m:Mv):Bool:=(bnd m.ax == m.ax && bnd m.ay == m.ay) && amg m.sx (-1024) 1024 && amg m.sy (-1024) 1024
def mB (m:Mv):Bool:=amg m.px (-256) 256 && amg m.py (-256) 256 && amg m.fc 0 15
def mC (m:Mv):Bool:=amg m.hl 0 100 && amg m.en 0 100 && amg m.co 0 12 && amg m.ou 0 30 && amg m.sd 0 255
def XP (m:Mv):Mv:=⟨m.ax,m.ay,0,0,0,0,m.fc,0,0,false,0,m.ou,m.sd⟩
def mD (m:Mv):Bool:=if m.ou=0 then decide (1<=m.hl) else eqM m (XP m)
theorem KR {n:Int}:bnd n=n ↔ -2147483647<=n/\n<=2147483647:=by
 unfold bnd;repeat' split
 all_goals omega
theorem GU (m:Mv):Yq m=(mA m && mB m && mC m && mD m):=by
 rw [Bool.eq_iff_iff,mayB_iff];unfold mA mB mC mD May;simp only [Bool.and_eq_true,beq_iff_eq,KR,NI];by_cases h0:m.ou=0
 ·rw [if_pos h0,decide_eq_true_eq];constructor
  ·rintro ⟨g1,g2,g3,g4,g5,g6,g7,g8,g9,g10,g11⟩;have:=g10 h0;omega
  ·intro h;refine ⟨?_, ?_, ?_, ?_, ?_, ?_, ?_, ?_, ?_, ?_,fun h=>absurd h0 h⟩ <;> omega
 ·rw [if_neg h0,ND];constructor
  ·rintro ⟨g1,g2,g3,g4,g5,g6,g7,g8,g9,g10,g11⟩;obtain ⟨e1,e2,e3,e4,e5,e6,e7,e8⟩:=g11 h0;refine ⟨by omega, ?_⟩;cases m;simp_all [XP]
  ·rintro ⟨h,e⟩;have e1:m.sx=0:=by rw [e]; rfl
   have e2:m.sy=0:=by rw [e]; rfl
   have e3:m.px=0:=by rw [e]; rfl
   have e4:m.py=0:=by rw [e]; rfl
   have e5:m.hl=0:=by rw [e]; rfl
   have e6:m.en=0:=by rw [e]; rfl
   have e7:m.sh=false:=by rw [e]; rfl
   have e8:m.co=0:=by rw [e]; rfl
   clear e;refine ⟨?_, ?_, ?_, ?_, ?_, ?_, ?_, ?_, ?_,fun h=>absurd h h0,fun _=>⟨e1,e2,e3,e4,e5,e6,e7,e8⟩⟩ <;> omega
theorem KU (m:Mv) (w:World):Ya 103 #[mv m] w (.bool (Yq m)):=by
 have p:=Yk w m;have HS0:=hid (aL w (.cells (mcs m) 56));rw [GU];have G1:=Ve;have G2:=GS;obtain ⟨c0,c1,c2,c3,c4,c5,c6,c7,c8,c9,c10,c11,c12,cf⟩:=p.cells;go_enter Tryz.func103,Tryz.ntmps103;go_wp2_with fail;refine (ZE m.ax m.ay _).mono ?_;rintro e w1 ⟨rfl,h1⟩;have A1:=aL w1 (.cells #[.int .i64 (bnd m.ax),.int .i64 (bnd m.ay)] 54);have p1:=(p.sT h1).sT A1;have q1:Pb (w1.alloc (.cells #[.int .i64 (bnd m.ax),.int .i64 (bnd m.ay)] 54)) w1.heap.size (bnd m.ax) (bnd m.ay):=Yp w1 (bnd m.ax) (bnd m.ay);have HS1:=hid ((HS0.o.trans h1).trans A1);clear h1 p HS0 c0 c1 c2 c3 c4 c5 c6 c7 c8 c9 c10 c11 c12 cf A1;obtain ⟨W,eW⟩:∃ W,w1.alloc (.cells #[.int .i64 (bnd m.ax),.int .i64 (bnd m.ay)] 54)=W:=⟨_,rfl⟩;go_upto_region 2 with fail;rw [eW] at p1 q1 HS1;clear eW;obtain ⟨c0,c1,c2,c3,c4,c5,c6,c7,c8,c9,c10,c11,c12,cf⟩:=p1.cells;obtain ⟨d0,d1,df⟩:=q1.cells;have HE:=Jx (bnd m.ax) (bnd m.ay) m.ax m.ay;have HA:Hid (mA m=((bnd m.ax == m.ax && bnd m.ay == m.ay) && amg m.sx (-1024) 1024 && amg m.sy (-1024) 1024)):=hid rfl;have HB:Hid (mB m=(amg m.px (-256) 256 && amg m.py (-256) 256 && amg m.fc 0 15)):=hid rfl;have HC:Hid (mC m=(amg m.hl 0 100 && amg m.en 0 100 && amg m.co 0 12 && amg m.ou 0 30 && amg m.sd 0 255)):=hid rfl;have HM:=hid (fun (n l h:Int) (w:World)=>NJ n l h w);obtain ⟨b0,eb0⟩:∃ b,(bnd m.ax == m.ax && bnd m.ay == m.ay)=b:=⟨_,rfl⟩;rw [eb0] at HE HA;clear eb0;go_cut [4] (fun v wx=>v=.bool (mA m)/\wx=W)
 case first =>
  cases b0 with
  | false =>
   go_wp2_with fail;go_meet
   exact ⟨by rw [HA.o]; rfl,rfl⟩
  | true =>
   go_wp2_with fail;refine (HM.o _ _ _ _).mono ?_;rintro e w2 ⟨he,hw⟩;rw [he,hw];clear he hw w2;obtain ⟨b1,eb1⟩:∃ b,amg m.sx (-1024) 1024=b:=⟨_,rfl⟩;rw [eb1] at HA ⊢;clear eb1;cases b1 with
   | false =>
    go_wp2_with fail;go_meet
    exact ⟨by rw [HA.o]; rfl,rfl⟩
   | true =>
    go_wp2_with fail;refine (HM.o _ _ _ _).mono ?_;rintro e w2 ⟨he,hw⟩;rw [he,hw];clear he hw w2;go_wp2_with fail;go_meet
    exact ⟨by rw [HA.o]; rfl,rfl⟩
 case rest =>
  obtain ⟨rfl,hw⟩:=hcut;rw [hw];clear hw HE d0 d1 df q1;go_upto_region 3 with fail;go_cut [5] (fun v wx=>v=.bool (mB m)/\wx=W)
  case first =>
   go_wp2_with fail;refine (HM.o _ _ _ _).mono ?_;rintro e w2 ⟨he,hw⟩;rw [he,hw];clear he hw w2;obtain ⟨b1,eb1⟩:∃ b,amg m.px (-256) 256=b:=⟨_,rfl⟩;rw [eb1] at HB ⊢;clear eb1;cases b1 with
   | false =>
    go_wp2_with fail;go_meet
    exact ⟨by rw [HB.o]; rfl,rfl⟩
   | true =>
    go_wp2_with fail;refine (HM.o _ _ _ _).mono ?_;rintro e w2 ⟨he,hw⟩;rw [he,hw];clear he hw w2;obtain ⟨b1,eb1⟩:∃ b,amg m.py (-256) 256=b:=⟨_,rfl⟩;rw [eb1] at HB ⊢;clear eb1;cases b1 with
    | false =>
     go_wp2_with fail;go_meet
     exact ⟨by rw [HB.o]; rfl,rfl⟩
    | true =>
     go_wp2_with fail;refine (HM.o _ _ _ _).mono ?_;rintro e w2 ⟨he,hw⟩;rw [he,hw];clear he hw w2;go_wp2_with fail;go_meet
     exact ⟨by rw [HB.o]; rfl,rfl⟩
  case rest =>
   obtain ⟨rfl,hw⟩:=hcut;rw [hw];clear hw;go_upto_region 4 with fail;go_cut [6] (fun v wx=>v=.bool (mC m)/\wx=W)
   case first =>
    go_wp2_with fail;refine (HM.o _ _ _ _).mono ?_;rintro e w2 ⟨he,hw⟩;rw [he,hw];clear he hw w2;obtain ⟨b1,eb1⟩:∃ b,amg m.hl 0 100=b:=⟨_,rfl⟩;rw [eb1] at HC ⊢;clear eb1;cases b1 with
    | false =>
     go_wp2_with fail;go_meet
     exact ⟨by rw [HC.o]; rfl,rfl⟩
    | true =>
     go_wp2_with fail;refine (HM.o _ _ _ _).mono ?_;rintro e w2 ⟨he,hw⟩;rw [he,hw];clear he hw w2;obtain ⟨b1,eb1⟩:∃ b,amg m.en 0 100=b:=⟨_,rfl⟩;rw [eb1] at HC ⊢;clear eb1;cases b1 with
     | false =>
      go_wp2_with fail;go_meet
      exact ⟨by rw [HC.o]; rfl,rfl⟩
     | true =>
      go_wp2_with fail;refine (HM.o _ _ _ _).mono ?_;rintro e w2 ⟨he,hw⟩;rw [he,hw];clear he hw w2;obtain ⟨b1,eb1⟩:∃ b,amg m.co 0 12=b:=⟨_,rfl⟩;rw [eb1] at HC ⊢;clear eb1;cases b1 with
      | false =>
       go_wp2_with fail;go_meet
       exact ⟨by rw [HC.o]; rfl,rfl⟩
      | true =>
       go_wp2_with fail;refine (HM.o _ _ _ _).mono ?_;rintro e w2 ⟨he,hw⟩;rw [he,hw];clear he hw w2;obtain ⟨b1,eb1⟩:∃ b,amg m.ou 0 30=b:=⟨_,rfl⟩;rw [eb1] at HC ⊢;clear eb1;cases b1 with
       | false =>
        go_wp2_with fail;go_meet
        exact ⟨by rw [HC.o]; rfl,rfl⟩
       | true =>
        go_wp2_with fail;refine (HM.o _ _ _ _).mono ?_;rintro e w2 ⟨he,hw⟩;rw [he,hw];clear he hw w2;go_wp2_with fail;go_meet
        exact ⟨by rw [HC.o]; rfl,rfl⟩
   case rest =>
    obtain ⟨rfl,hw⟩:=hcut;rw [hw];clear hw HA HB HC HM;obtain ⟨A,eA⟩:∃ b,mA m=b:=⟨_,rfl⟩;obtain ⟨B,eB⟩:∃ b,mB m=b:=⟨_,rfl⟩;obtain ⟨C,eC⟩:∃ b,mC m=b:=⟨_,rfl⟩;have HR:Hid (∀ x:Bool,mD m=x->(mA m && mB m && mC m && mD m)=(A && B && C && x)):=hid (fun x ex=>by rw [eA,eB,eC,ex]);rw [eA,eB,eC];clear eA eB eC;cases A with
    | false =>
     go_wp2_with fail;go_ret;exact ⟨by rw [HR.o _ rfl]; simp,HS1.o⟩
    | true =>
     cases B with
     | false =>
      go_wp2_with fail;go_ret;exact ⟨by rw [HR.o _ rfl]; simp,HS1.o⟩
     | true =>
      cases C with
      | false =>
       go_wp2_with fail;go_ret;exact ⟨by rw [HR.o _ rfl]; simp,HS1.o⟩
      | true =>
       by_cases h0:m.ou=0
       ·have HD:Hid (mD m=decide (1<=m.hl)):=hid (by unfold mD; rw [if_pos h0]);have hb:(m.ou == 0)=true:=by simpa using h0
        go_wp2_with fail;go_ret;exact ⟨by rw [HR.o _ HD.o]; simp,HS1.o⟩
       ·have HD:Hid (mD m=eqM m (XP m)):=hid (by unfold mD; rw [if_neg h0]);have hb:(m.ou == 0)=false:=by simpa using h0
        have E2:=GR m (XP m);simp only [XP] at E2;go_wp2_with fail;go_ret;exact ⟨by rw [HR.o _ HD.o]; simp [XP],HS1.o⟩
theorem Y7 (m:Mv) (w:World):Ya 111 #[mv m] w (.int .i64 (Yi m)):=by
 have p:=Yk w m;have HS0:=hid (aL w (.cells (mcs m) 56));obtain ⟨c0,c1,c2,c3,c4,c5,c6,c7,c8,c9,c10,c11,c12,cf⟩:=p.cells;have H:=hid (fun w=>KU m w);unfold Yi;obtain ⟨b,eb⟩:∃ b,Yq m=b:=⟨_,rfl⟩;rw [eb] at H ⊢;clear eb;go_enter Tryz.func111,Tryz.ntmps111;go_wp2_with fail;refine (H.o _).mono ?_;rintro e w1 ⟨rfl,h1⟩;have HS1:=hid (HS0.o.trans h1);clear h1 HS0;cases b with
 | false =>
  go_wp2_with fail;go_ret;exact ⟨rfl,HS1.o⟩
 | true =>
  go_wp2_with fail;go_ret;exact ⟨rfl,HS1.o⟩
def Wb (w:World) (g:Nat) (m:Mv):Prop:=w.heap[g]?=some (.cells (mcs m) 237 (0,0))
theorem Wb.sT {w w':World} {g:Nat} {m:Mv} (h:Wb w g m) (hs:Yc w w'):Wb w' g m:=hs.kept_still h
theorem Wb.cells {w:World} {g:Nat} {m:Mv} (h:Wb w g m):w.cell? ⟨g,0,none⟩=some (.int .i64 m.ax)/\w.cell? ⟨g,1,none⟩=some (.int .i64 m.ay)/\w.cell? ⟨g,2,none⟩=some (.int .i64 m.sx)/\w.cell? ⟨g,3,none⟩=some (.int .i64 m.sy)/\w.cell? ⟨g,4,none⟩=some (.int .i64 m.px)/\w.cell? ⟨g,5,none⟩=some (.int .i64 m.py)/\w.cell? ⟨g,6,none⟩=some (.int .i64 m.fc)/\w.cell? ⟨g,7,none⟩=some (.int .i64 m.hl)/\w.cell? ⟨g,8,none⟩=some (.int .i64 m.en)/\w.cell? ⟨g,9,none⟩=some (.bool m.sh)/\w.cell? ⟨g,10,none⟩=some (.int .i64 m.co)/\w.cell? ⟨g,11,none⟩=some (.int .i64 m.ou)/\w.cell? ⟨g,12,none⟩=some (.int .i64 m.sd)/\∀ o,w.frozen? ⟨g,o,none⟩=false:=by
 refine ⟨?_, ?_, ?_, ?_, ?_, ?_, ?_, ?_, ?_, ?_, ?_, ?_, ?_,fun o=>frozen_of_row w g o _ _ h⟩ <;> (rw [cell_of_row _ _ _ _ _ _ h]; rfl)
abbrev KV (w:World) (m:Mv):World:=w.alloc (.cells (mcs m) 237)
theorem Jb (w:World) (m:Mv):Wb (KV w m) w.heap.size m:=heap_alloc_new w _
theorem Ub (n l h:Int) (w:World):Yb 191 #[.int .i64 n,.int .i64 l,.int .i64 h] w (.bool (amg n l h)):=by
 unfold amg;by_cases h1:l<=n
 ·go_enter Tryz.func191,Tryz.ntmps191;go_wp2_with fail;go_ret;exact ⟨by simp [h1],rfl⟩
 ·have e:decide (l<=n)=false:=by simpa using h1
  rw [e];go_enter Tryz.func191,Tryz.ntmps191;go_wp2_with fail;go_ret;exact ⟨rfl,rfl⟩
def bw (x y k:Int):Bool:=amg x (-k) k && amg y (-k) k
theorem GV (x y k:Int) (h1:0<=k) (h2:k<=1024) (w:World):Ya 190 #[pt x y,.int .i64 k] w (.bool (bw x y k)):=by
 have p:=Yp w x y;have HS0:=hid (aL w (.cells #[.int .i64 x,.int .i64 y] 54));obtain ⟨c0,c1,cf⟩:=p.cells;have HB:Hid (bw x y k=(amg x (-k) k && amg y (-k) k)):=hid rfl;have HM:=hid (fun (n l h:Int) (w:World)=>Ub n l h w);go_enter Tryz.func190,Tryz.ntmps190;go_wp2_with fail;refine (HM.o _ _ _ _).mono ?_;rintro e w2 ⟨he,hw⟩;rw [he,hw];clear he hw w2;obtain ⟨b1,eb1⟩:∃ b,amg x (-k) k=b:=⟨_,rfl⟩;rw [eb1] at HB ⊢;clear eb1;cases b1 with
 | false =>
  go_wp2_with fail;go_ret;exact ⟨by rw [HB.o]; rfl,HS0.o⟩
 | true =>
  go_wp2_with fail;refine (HM.o _ _ _ _).mono ?_;rintro e w2 ⟨he,hw⟩;rw [he,hw];clear he hw w2;go_wp2_with fail;go_ret;exact ⟨by rw [HB.o]; rfl,HS0.o⟩
def KW (m:Mv) (f:Int):Mv:=⟨m.ax,m.ay,0,0,0,0,m.fc,0,0,false,0,f,m.sd⟩
theorem NK (m:Mv) (f:Int) (w:World):Ya 193 #[mv m,.int .i64 f] w (mv (KW m f)):=by
 have p:=Yk w m;have HS0:=hid (aL w (.cells (mcs m) 56));obtain ⟨c0,c1,c2,c3,c4,c5,c6,c7,c8,c9,c10,c11,c12,cf⟩:=p.cells;go_enter Tryz.func193,Tryz.ntmps193;go_wp2_with fail;have h:=Yk (Ye w m) (KW m f);rw [Yf] at h;exact bodyPost_ret (h.res rfl _ rfl) rfl ⟨rfl,HS0.o.trans (aL _ _)⟩
theorem GW (m:Mv) (w:World):Ya 192 #[mv m] w (.bool (m.ou == 0)):=by
 have p:=Jb w m;have HS0:=hid (aL w (.cells (mcs m) 237));obtain ⟨c0,c1,c2,c3,c4,c5,c6,c7,c8,c9,c10,c11,c12,cf⟩:=p.cells;go_enter Tryz.func192,Tryz.ntmps192;go_wp2_with fail;go_ret;exact ⟨rfl,HS0.o⟩
def rB (m:Mv):Bool:=(bnd m.ax == m.ax && bnd m.ay == m.ay) && bw m.sx m.sy 1024 && bw m.px m.py 256 && amg m.fc 0 15 && amg m.hl 0 100 && amg m.en 0 100 && amg m.co 0 12 && amg m.ou 0 30 && amg m.sd 0 255
theorem NM (m:Mv):(rB m && mD m)=Yq m:=by
 rw [GU];unfold rB mA mB mC bw;simp only [Bool.and_assoc]
theorem NN (m:Mv) (b0 b1 b2 b3 b4 b5 b6 b7 b8 r:Bool) (HE:∀ w,(binOp .eql 54 (pt (bnd m.ax) (bnd m.ay)) (pt m.ax m.ay)).run Tryz.prog w=.ok (.bool b0) w)
  (H1:Hid (∀ w,Ya 190 #[pt m.sx m.sy,.int .i64 1024] w (.bool b1)))
  (H2:Hid (∀ w,Ya 190 #[pt m.px m.py,.int .i64 256] w (.bool b2)))
  (H3:Hid (∀ w,Yb 191 #[.int .i64 m.fc,.int .i64 0,.int .i64 15] w (.bool b3)))
  (H4:Hid (∀ w,Yb 191 #[.int .i64 m.hl,.int .i64 0,.int .i64 100] w (.bool b4)))
  (H5:Hid (∀ w,Yb 191 #[.int .i64 m.en,.int .i64 0,.int .i64 100] w (.bool b5)))
  (H6:Hid (∀ w,Yb 191 #[.int .i64 m.co,.int .i64 0,.int .i64 12] w (.bool b6)))
  (H7:Hid (∀ w,Yb 191 #[.int .i64 m.ou,.int .i64 0,.int .i64 30] w (.bool b7)))
  (H8:Hid (∀ w,Yb 191 #[.int .i64 m.sd,.int .i64 0,.int .i64 255] w (.bool b8)))
  (h:(b0=false/\r=false)\/(b0=true/\b1=false/\r=false)\/(b0=true/\b1=true/\b2=false/\r=false)\/(b0=true/\b1=true/\b2=true/\b3=false/\r=false)\/(b0=true/\b1=true/\b2=true/\b3=true/\b4=false/\r=false)\/(b0=true/\b1=true/\b2=true/\b3=true/\b4=true/\b5=false/\r=false)\/(b0=true/\b1=true/\b2=true/\b3=true/\b4=true/\b5=true/\b6=false/\r=false)\/(b0=true/\b1=true/\b2=true/\b3=true/\b4=true/\b5=true/\b6=true/\b7=false/\r=false)\/(b0=true/\b1=true/\b2=true/\b3=true/\b4=true/\b5=true/\b6=true/\b7=true/\r=b8)) (w:World) :
  Ya 170 #[mv m] w (.bool r):=by
 obtain ⟨W,eW⟩:∃ W,W=KV w m:=⟨_,rfl⟩;have p:Wb W w.heap.size m:=by rw [eW]; exact Jb w m
 have HS0:=hid (show Yc w W by rw [eW]; exact aL w _);have HW:=hid eW;clear eW;have G1:=Ve;have HG:=hid (fun w=>Ge m.ax m.ay w);obtain ⟨c0,c1,c2,c3,c4,c5,c6,c7,c8,c9,c10,c11,c12,cf⟩:=p.cells;have k0:=kC c0;have k1:=kC c1;have k2:=kC c2;have k3:=kC c3;have k4:=kC c4;have k5:=kC c5;have k6:=kC c6;have k7:=kC c7;have k8:=kC c8;have k9:=kC c9;have k10:=kC c10;have k11:=kC c11;have k12:=kC c12;have hne:=Aft.here W;clear c0 c1 c2 c3 c4 c5 c6 c7 c8 c9 c10 c11 c12 cf p;rcases h with ⟨rfl,rfl⟩ | ⟨rfl,rfl,rfl⟩ | ⟨rfl,rfl,rfl,rfl⟩ | ⟨rfl,rfl,rfl,rfl,rfl⟩ | ⟨rfl,rfl,rfl,rfl,rfl,rfl⟩ | ⟨rfl,rfl,rfl,rfl,rfl,rfl,rfl⟩ | ⟨rfl,rfl,rfl,rfl,rfl,rfl,rfl,rfl⟩ | ⟨rfl,rfl,rfl,rfl,rfl,rfl,rfl,rfl,rfl⟩ | ⟨rfl,rfl,rfl,rfl,rfl,rfl,rfl,rfl,rfl⟩;all_goals
  go_enter Tryz.func170,Tryz.ntmps170;go_wp2_with fail;have e:=HW.o;simp only [KV] at e;rw [<- e];clear e HW;refine Yo (by kernel_rfl) (by kernel_rfl) ?_;repeat (go_big_quiet_step ((first | (go_at_call 189; exact Calls.cl (HG.o _)) | (go_at_call 190; with_reducible exact Calls.cl (H1.o _)) | (go_at_call 190; with_reducible exact Calls.cl (H2.o _)) | (go_at_call 191; with_reducible exact Calls.cl_same (H3.o _)) | (go_at_call 191; with_reducible exact Calls.cl_same (H4.o _)) | (go_at_call 191; with_reducible exact Calls.cl_same (H5.o _)) | (go_at_call 191; with_reducible exact Calls.cl_same (H6.o _)) | (go_at_call 191; with_reducible exact Calls.cl_same (H7.o _)) | (go_at_call 191; with_reducible exact Calls.cl_same (H8.o _)))))
  refine wpQuiet_nil ?_;intro w1 hs;go_wp2_with fail;go_ret;exact ⟨rfl,HS0.o.trans hs⟩
theorem NO (m:Mv) (w:World):Ya 170 #[mv m] w (.bool (rB m)):=by
 refine NN m (bnd m.ax == m.ax && bnd m.ay == m.ay) (bw m.sx m.sy 1024) (bw m.px m.py 256) (amg m.fc 0 15) (amg m.hl 0 100) (amg m.en 0 100) (amg m.co 0 12) (amg m.ou 0 30) (amg m.sd 0 255) (rB m) (Jx (bnd m.ax) (bnd m.ay) m.ax m.ay) (hid (GV _ _ _ (by decide) (by decide))) (hid (GV _ _ _ (by decide) (by decide))) (hid (Ub _ _ _)) (hid (Ub _ _ _)) (hid (Ub _ _ _)) (hid (Ub _ _ _)) (hid (Ub _ _ _)) (hid (Ub _ _ _)) ?_ w;unfold rB;generalize (bnd m.ax == m.ax && bnd m.ay == m.ay)=b0;generalize bw m.sx m.sy 1024=b1;generalize bw m.px m.py 256=b2;generalize amg m.fc 0 15=b3;generalize amg m.hl 0 100=b4;generalize amg m.en 0 100=b5;generalize amg m.co 0 12=b6;generalize amg m.ou 0 30=b7;generalize amg m.sd 0 255=b8;revert b0 b1 b2 b3 b4 b5 b6 b7 b8;decide
theorem NP (m:Mv) (h0:m.ou=0) (w:World):Ya 171 #[mv m] w (.bool (mD m)):=by
 have p:=Jb w m;have HS0:=hid (aL w (.cells (mcs m) 237));have HP:=hid (fun w=>GW m w);obtain ⟨c0,c1,c2,c3,c4,c5,c6,c7,c8,c9,c10,c11,c12,cf⟩:=p.cells;rw [show (m.ou == 0)=true by simpa using h0] at HP;have HQ:Hid (mD m=decide (1<=m.hl)):=hid (by unfold mD; rw [if_pos h0]);clear h0;go_enter Tryz.func171,Tryz.ntmps171;go_wp2_with fail;refine (HP.o _).mono ?_;rintro e w1 ⟨rfl,h1⟩;have p1:=p.sT h1;have HS1:=hid (HS0.o.trans h1);clear h1 p HS0 c0 c1 c2 c3 c4 c5 c6 c7 c8 c9 c10 c11 c12 cf;obtain ⟨c0,c1,c2,c3,c4,c5,c6,c7,c8,c9,c10,c11,c12,cf⟩:=p1.cells;go_wp2_with fail;go_ret;exact ⟨by rw [HQ.o]; rfl,HS1.o⟩
theorem NQ (m:Mv) (h0:¬ m.ou=0) (w:World):Ya 171 #[mv m] w (.bool (mD m)):=by
 have p:=Jb w m;have HS0:=hid (aL w (.cells (mcs m) 237));have HP:=hid (fun w=>GW m w);have G2:=GS;obtain ⟨c0,c1,c2,c3,c4,c5,c6,c7,c8,c9,c10,c11,c12,cf⟩:=p.cells;rw [show (m.ou == 0)=false by simpa using h0] at HP;have HQ:Hid (mD m=eqM m (XP m)):=hid (by unfold mD; rw [if_neg h0]);have E2:=GR m (XP m);have HG:=hid (fun w=>NK m m.ou w);rw [show KW m m.ou=XP m from rfl] at HG;obtain ⟨q,eq⟩:∃ q,XP m=q:=⟨_,rfl⟩;rw [eq] at HG E2 HQ;obtain ⟨bb,ebb⟩:∃ b,eqM m q=b:=⟨_,rfl⟩;rw [ebb] at E2 HQ;clear h0 eq ebb;go_enter Tryz.func171,Tryz.ntmps171;go_wp2_with fail;refine (HP.o _).mono ?_;rintro e w1 ⟨rfl,h1⟩;have p1:=p.sT h1;have HS1:=hid (HS0.o.trans h1);clear h1 p HS0 c0 c1 c2 c3 c4 c5 c6 c7 c8 c9 c10 c11 c12 cf;obtain ⟨c0,c1,c2,c3,c4,c5,c6,c7,c8,c9,c10,c11,c12,cf⟩:=p1.cells;have k0:=kC c0;have k1:=kC c1;have k2:=kC c2;have k3:=kC c3;have k4:=kC c4;have k5:=kC c5;have k6:=kC c6;have k7:=kC c7;have k8:=kC c8;have k9:=kC c9;have k10:=kC c10;have k11:=kC c11;have k12:=kC c12;have hne:=Aft.here w1;clear c0 c1 c2 c3 c4 c5 c6 c7 c8 c9 c10 c11 c12 cf p1;go_wp2_with fail;refine Yo (by kernel_rfl) (by kernel_rfl) ?_;repeat (go_big_quiet_step ((go_at_call 193; exact Calls.cl (HG.o _))))
 refine wpQuiet_nil ?_;intro w2 hs;go_wp2_with fail;go_ret;exact ⟨by rw [HQ.o]; rfl,HS1.o.trans hs⟩
theorem NR (m:Mv) (w:World):Ya 171 #[mv m] w (.bool (mD m)):=by
 by_cases h0:m.ou=0
 ·exact NP m h0 w
 ·exact NQ m h0 w
theorem NS (m:Mv) (w:World):Ya 134 #[mv m] w (.int .i64 (Yi m)):=by
 have A0:=aL w (.cells (mcs m) 56);have A1:=aL (Ye w m) (.cells (mcs m) 237);have p:=Jb (Ye w m) m;rw [Yf] at p;have p0:=Yk w m;have HS0:=hid (A0.trans A1);clear A0 A1;have H1:=hid (fun w=>NO m w);have H2:=hid (fun w=>NR m w);have HC:Hid (Yi m=if (rB m && mD m) then 0 else 80):=hid (by rw [NM]; rfl);obtain ⟨a,ea⟩:∃ b,rB m=b:=⟨_,rfl⟩;obtain ⟨b,eb⟩:∃ b,mD m=b:=⟨_,rfl⟩;rw [ea] at H1;rw [eb] at H2;rw [ea,eb] at HC;clear ea eb;obtain ⟨d0,d1,d2,d3,d4,d5,d6,d7,d8,d9,d10,d11,d12,df⟩:=p0.cells;obtain ⟨c0,c1,c2,c3,c4,c5,c6,c7,c8,c9,c10,c11,c12,cf⟩:=p.cells;go_enter Tryz.func134,Tryz.ntmps134;go_wp2_with fail;refine (H1.o _).mono ?_;rintro e w1 ⟨rfl,h1⟩;have p1:=p.sT h1;have HS1:=hid (HS0.o.trans h1);clear h1 p HS0 p0 d0 d1 d2 d3 d4 d5 d6 d7 d8 d9 d10 d11 d12 df c0 c1 c2 c3 c4 c5 c6 c7 c8 c9 c10 c11 c12 cf;obtain ⟨c0,c1,c2,c3,c4,c5,c6,c7,c8,c9,c10,c11,c12,cf⟩:=p1.cells;cases a with
 | false =>
  go_wp2_with fail;go_ret;exact ⟨by rw [HC.o]; rfl,HS1.o⟩
 | true =>
  go_wp2_with fail;refine (H2.o _).mono ?_;rintro e w2 ⟨rfl,h2⟩;have HS2:=hid (HS1.o.trans h2);clear h2 HS1 p1 c0 c1 c2 c3 c4 c5 c6 c7 c8 c9 c10 c11 c12 cf;cases b with
  | false =>
   go_wp2_with fail;go_ret;exact ⟨by rw [HC.o]; rfl,HS2.o⟩
  | true =>
   go_wp2_with fail;go_ret;exact ⟨by rw [HC.o]; rfl,HS2.o⟩
end Go.Proofs.YthcjckgmdokmdaaGreatDoor
set_option maxRecDepth 100000
namespace Go.Proofs.YthcjckgmdokmdaaGreatDoor.Za
open Pu Gp Ap Vp Np
structure Sh where
 no:Int
 ow:Int
 pw:Int
 ax:Int
 ay:Int
 sx:Int
 sy:Int
 lf:Int
def ZH (s:Sh):Prop :=
 (1<=s.no/\s.no<=1099511627776)/\(0<=s.ow/\s.ow<=5)/\(1<=s.pw/\s.pw<=3)/\(-2147483647<=s.ax/\s.ax<=2147483647/\-2147483647<=s.ay/\s.ay<=2147483647) /\
 (-1536<=s.sx/\s.sx<=1536/\-1536<=s.sy/\s.sy<=1536)/\(1<=s.lf/\s.lf<=40)
def GX (s:Sh):Decidable (ZH s):=by unfold ZH; infer_instance
def Zd (s:Sh):Bool:=@decide (ZH s) (GX s)
theorem maySB_iff {s:Sh}:Zd s=true ↔ ZH s:=@decide_eq_true_iff (ZH s) (GX s)
def zS:Sh:=⟨0,0,0,0,0,0,0,0⟩
def Yx (s:Sh):Int:=if Zd s then 0 else 90
def dmg (p:Int):Int:=if p<1\/3<p then 0 else 15*p
def Uc (ow pw no:Int):Bool:=decide (0<=ow) && decide (ow<=5) && decide (1<=pw) && decide (pw<=3) && decide (1<=no) && decide (no<=1099511627776)
theorem argB_iff {ow pw no:Int}:Uc ow pw no=true ↔ (0<=ow/\ow<=5)/\(1<=pw/\pw<=3)/\1<=no/\no<=1099511627776:=by
 unfold Uc;simp only [Bool.and_eq_true,decide_eq_true_eq];omega
def XA (m:Mv) (ow pw no:Int):Int:=if Yq m then (if Uc ow pw no then 0 else 1) else 80
def JH (m:Mv) (ow pw no:Int):Sh:=⟨no,ow,pw,Yj m.ax (Yw (ux (m.fc % 16).toNat) 1792),Yj m.ay (Yw (uy (m.fc % 16).toNat) 1792),Yw (ux (m.fc % 16).toNat) (256*(7 - pw)),Yw (uy (m.fc % 16).toNat) (256*(7 - pw)),40⟩
def ZQ (m:Mv) (ow pw no:Int):Sh:=if XA m ow pw no=0 then JH m ow pw no else zS
def rn (s:Sh):Nat:=J7 (stp s.sx) (stp s.sy)
def rk (sol:Int->Int->Bool) (s:Sh):Nat:=go (Xz sol (bnd s.ax) (bnd s.ay) (stp s.sx) (stp s.sy) (rn s)) (rn s)
def Ze (sol:Int->Int->Bool) (s:Sh):Bool:=Zd s && !(decide (rk sol s<rn s)) && !(s.lf == 1)
def JI (sol:Int->Int->Bool) (s:Sh):Sh:={ s with ax:=rp (bnd s.ax) (stp s.sx) (rn s) (rk sol s),ay:=rp (bnd s.ay) (stp s.sy) (rn s) (rk sol s),lf:=s.lf - 1 }
def Zp (sol:Int->Int->Bool) (s:Sh):Sh:=if Ze sol s then JI sol s else zS
theorem NT:∀ d,d<16->(-1536<=Yw (ux d) 1024/\Yw (ux d) 1024<=1536)/\-1536<=Yw (uy d) 1024/\Yw (uy d) 1024<=1536:=by decide
theorem NU:∀ d,d<16->(-1536<=Yw (ux d) 1280/\Yw (ux d) 1280<=1536)/\-1536<=Yw (uy d) 1280/\Yw (uy d) 1280<=1536:=by decide
theorem NV:∀ d,d<16->(-1536<=Yw (ux d) 1536/\Yw (ux d) 1536<=1536)/\-1536<=Yw (uy d) 1536/\Yw (uy d) 1536<=1536:=by decide
theorem NW (d:Nat) (hd:d<16) (p:Int) (h1:1<=p) (h2:p<=3):(-1536<=Yw (ux d) (256*(7 - p))/\Yw (ux d) (256*(7 - p))<=1536)/\-1536<=Yw (uy d) (256*(7 - p))/\Yw (uy d) (256*(7 - p))<=1536:=by
 have e:p=1\/p=2\/p=3:=by omega
 rcases e with rfl | rfl | rfl
 ·exact NV d hd
 ·exact NU d hd
 ·exact NT d hd
theorem NZ {m:Mv} {ow pw no:Int} (h:Uc ow pw no=true):ZH (JH m ow pw no):=by
 obtain ⟨h1,h2,h3⟩:=argB_iff.1 h;have hd:(m.fc % 16).toNat<16:=by omega
 have hk:=NW (m.fc % 16).toNat hd pw h2.1 h2.2;exact ⟨h3,h1,h2,⟨YO _,YP _,YO _,YP _⟩,⟨hk.1.1,hk.1.2,hk.2.1,hk.2.2⟩,by show (1:Int)<=40; omega,by show (40:Int)<=40; omega⟩
theorem Fa {sol:Int->Int->Bool} {s:Sh} (h:Ze sol s=true):ZH s/\rk sol s=rn s/\s.lf≠1:=by
 unfold Ze at h;simp only [Bool.and_eq_true,Bool.not_eq_true',decide_eq_false_iff_not,beq_eq_false_iff_ne] at h;have:=Us (Xz sol (bnd s.ax) (bnd s.ay) (stp s.sx) (stp s.sy) (rn s)) (rn s);exact ⟨maySB_iff.1 h.1.1,by have h2:=h.1.2; unfold rk at h2 ⊢; omega,h.2⟩
theorem GY {X p:Int} {n j:Nat} (hX:KE X):KE (rp X p n j):=by
 unfold rp;split
 ·exact hX
 ·exact Ni _ _
theorem Fb {sol:Int->Int->Bool} {s:Sh} (h:Ze sol s=true):ZH (JI sol s):=by
 obtain ⟨⟨h1,h2,h3,h4,h5,h6⟩,_,h7⟩:=Fa h;have a:=GY (X:=bnd s.ax) (p:=stp s.sx) (n:=rn s) (j:=rk sol s) ⟨YO _,YP _⟩;have b:=GY (X:=bnd s.ay) (p:=stp s.sy) (n:=rn s) (j:=rk sol s) ⟨YO _,YP _⟩;exact ⟨h1,h2,h3,⟨a.1,a.2,b.1,b.2⟩,h5,by show 1<=s.lf - 1; omega,by show s.lf - 1<=40; omega⟩
end Go.Proofs.YthcjckgmdokmdaaGreatDoor.Za
namespace Go.Proofs.YthcjckgmdokmdaaGreatDoor
open Go.RowKit
open Pu Gp Ap Vp Np Za
set_option maxRecDepth 100000
abbrev scs (m:Sh):Array Value:=#[.int .i64 m.no,.int .i64 m.ow,.int .i64 m.pw,.int .i64 m.ax,.int .i64 m.ay,.int .i64 m.sx,.int .i64 m.sy,.int .i64 m.lf]
abbrev sv (m:Sh):Value:=.agg (scs m)
def Sb (w:World) (g:Nat) (m:Sh):Prop:=w.heap[g]?=some (.cells (scs m) 122 (0,0))
theorem Sb.sT {w w':World} {g:Nat} {m:Sh} (h:Sb w g m) (hs:Yc w w'):Sb w' g m:=hs.kept_still h
theorem Sb.lt {w:World} {g:Nat} {m:Sh} (h:Sb w g m):g<w.heap.size:=Yz h
theorem Sb.cells {w:World} {g:Nat} {m:Sh} (h:Sb w g m):w.cell? ⟨g,0,none⟩=some (.int .i64 m.no)/\w.cell? ⟨g,1,none⟩=some (.int .i64 m.ow)/\w.cell? ⟨g,2,none⟩=some (.int .i64 m.pw)/\w.cell? ⟨g,3,none⟩=some (.int .i64 m.ax)/\w.cell? ⟨g,4,none⟩=some (.int .i64 m.ay)/\w.cell? ⟨g,5,none⟩=some (.int .i64 m.sx)/\w.cell? ⟨g,6,none⟩=some (.int .i64 m.sy)/\w.cell? ⟨g,7,none⟩=some (.int .i64 m.lf)/\∀ o,w.frozen? ⟨g,o,none⟩=false:=by
 refine ⟨?_, ?_, ?_, ?_, ?_, ?_, ?_, ?_,fun o=>frozen_of_row w g o _ _ h⟩ <;> (rw [cell_of_row _ _ _ _ _ _ h]; rfl)
abbrev Zm (w:World) (m:Sh):World:=w.alloc (.cells (scs m) 122)
theorem ZB (w:World) (m:Sh):Sb (Zm w m) w.heap.size m:=heap_alloc_new w _
theorem Sb.put {w:World} {g:Nat} {m:Sh} (h0:Sb w g m) (no:Int) (ow:Int) (pw:Int) (ax:Int) (ay:Int) (sx:Int) (sy:Int) (lf:Int):Sb ((((((((w.setCell ⟨g,0,none⟩ (.int .i64 no)).setCell ⟨g,1,none⟩ (.int .i64 ow)).setCell ⟨g,2,none⟩ (.int .i64 pw)).setCell ⟨g,3,none⟩ (.int .i64 ax)).setCell ⟨g,4,none⟩ (.int .i64 ay)).setCell ⟨g,5,none⟩ (.int .i64 sx)).setCell ⟨g,6,none⟩ (.int .i64 sy)).setCell ⟨g,7,none⟩ (.int .i64 lf)) g ⟨no,ow,pw,ax,ay,sx,sy,lf⟩:=by
 unfold Sb at h0 ⊢;have h1:=heap_setCell_same _ g 0 _ _ (.int .i64 no) h0;have h2:=heap_setCell_same _ g 1 _ _ (.int .i64 ow) h1;have h3:=heap_setCell_same _ g 2 _ _ (.int .i64 pw) h2;have h4:=heap_setCell_same _ g 3 _ _ (.int .i64 ax) h3;have h5:=heap_setCell_same _ g 4 _ _ (.int .i64 ay) h4;have h6:=heap_setCell_same _ g 5 _ _ (.int .i64 sx) h5;have h7:=heap_setCell_same _ g 6 _ _ (.int .i64 sy) h6;have h8:=heap_setCell_same _ g 7 _ _ (.int .i64 lf) h7;exact h8.trans (by kernel_rfl)
theorem Sb.other {w:World} {g:Nat} {m:Sh} (h:Sb w g m) (k o:Nat) (v:Value) (hk:g≠k):Sb (w.setCell ⟨k,o,none⟩ v) g m:=by
 unfold Sb at h ⊢;rw [heap_setCell_other _ _ _ _ hk];exact h
theorem Sb.step {w:World} {g:Nat} {m:Sh} (h:Sb w g m) (x y k:Int):Sb (((w.setCell ⟨g,3,none⟩ (.int .i64 x)).setCell ⟨g,4,none⟩ (.int .i64 y)).setCell ⟨g,7,none⟩ (.int .i64 k)) g { m with ax:=x,ay:=y,lf:=k }:=by
 have h1:=heap_setCell_same w g 3 _ _ (.int .i64 x) h;have h2:=heap_setCell_same _ g 4 _ _ (.int .i64 y) h1;have h3:=heap_setCell_same _ g 7 _ _ (.int .i64 k) h2;exact h3.trans (by kernel_rfl)
theorem Sb.load {w:World} {g:Nat} {m:Sh} (h:Sb w g m):(loadVar 122 ⟨g,0,none⟩).run Tryz.prog w=.ok (sv m) w:=by
 obtain ⟨c0,c1,c2,c3,c4,c5,c6,c7,cf⟩:=h.cells;go_simp
theorem Sb.rest {fn:Func} {p q:Tmp} {w:World} {g:Nat} {m:Sh} (hb:Sb w g m) (h:fn.results=#[.cell p 122,.tmp q]) (tmps:Array Value) (t:Value) (hp:tmps.getD p undef=.pointer (some ⟨g,0,none⟩)) (hq:tmps.getD q undef=t) :
  (results fn tmps).run Tryz.prog w=.ok (.tuple #[sv m,t]) w:=by
 rw [results_cell_tmp h,hp,hq];simp [asAddr,Result.andThen,hb.load]
theorem Sb.rest3 {fn:Func} {p q r:Tmp} {w:World} {g:Nat} {m:Sh} (hb:Sb w g m) (h:fn.results=#[.cell p 122,.tmp q,.tmp r]) (tmps:Array Value) (t s:Value) (hp:tmps.getD p undef=.pointer (some ⟨g,0,none⟩)) (hq:tmps.getD q undef=t) (hr:tmps.getD r undef=s) :
  (results fn tmps).run Tryz.prog w=.ok (.tuple #[sv m,t,s]) w:=by
 rw [KP h,hp,hq,hr];simp [asAddr,Result.andThen,hb.load]
end Go.Proofs.YthcjckgmdokmdaaGreatDoor
set_option maxRecDepth 100000
namespace Go.Proofs.YthcjckgmdokmdaaGreatDoor
open Go.RowKit
open Vp
abbrev od (v a b c:Int):Value:=.agg #[.int .i64 v,.int .i64 a,.int .i64 b,.int .i64 c]
def Orb (w:World) (g:Nat) (v a b c:Int):Prop:=w.heap[g]?=some (.cells #[.int .i64 v,.int .i64 a,.int .i64 b,.int .i64 c] 83 (0,0))
theorem Orb.sT {w w':World} {g:Nat} {v a b c:Int} (h:Orb w g v a b c) (hs:Yc w w'):Orb w' g v a b c:=hs.kept_still h
theorem Orb.cells {w:World} {g:Nat} {v a b c:Int} (h:Orb w g v a b c) :
  w.cell? ⟨g,0,none⟩=some (.int .i64 v)/\w.cell? ⟨g,1,none⟩=some (.int .i64 a)/\w.cell? ⟨g,2,none⟩=some (.int .i64 b)/\w.cell? ⟨g,3,none⟩=some (.int .i64 c)/\∀ o,w.frozen? ⟨g,o,none⟩=false:=by
 refine ⟨?_, ?_, ?_, ?_,fun o=>frozen_of_row w g o _ _ h⟩ <;> (rw [cell_of_row _ _ _ _ _ _ h]; rfl)
abbrev Xc (w:World) (v a b c:Int):World:=w.alloc (.cells #[.int .i64 v,.int .i64 a,.int .i64 b,.int .i64 c] 83)
theorem V7 (w:World) (v a b c:Int):Orb (Xc w v a b c) w.heap.size v a b c:=heap_alloc_new w _
abbrev setO (w:World) (g:Nat) (v a b c:Int):World:=(((w.setCell ⟨g,0,none⟩ (.int .i64 v)).setCell ⟨g,1,none⟩ (.int .i64 a)).setCell ⟨g,2,none⟩ (.int .i64 b)).setCell ⟨g,3,none⟩ (.int .i64 c)
def Zq (ps:List (ByteArray × Int × Int)):List Value:=ps.flatMap fun p=>[.string p.1,.int .i64 p.2.1,.int .i64 p.2.2]
theorem Fc (ps qs:List (ByteArray × Int × Int)):Zq (ps ++ qs)=Zq ps ++ Zq qs:=by simp [Zq]
theorem Fd (ps:List (ByteArray × Int × Int)):∀ u∈Zq ps,u.oneCell'=true:=by
 intro u hu;simp only [Zq,List.mem_flatMap] at hu;obtain ⟨p,_,hp⟩:=hu;simp at hp;rcases hp with rfl | rfl | rfl <;> rfl
theorem GZ:∀ (ps:List (ByteArray × Int × Int)) (j:Nat) (h:j<ps.length),(Zq ps)[j*3]?=some (.string (ps[j]).1)/\(Zq ps)[j*3+1]?=some (.int .i64 (ps[j]).2.1)/\(Zq ps)[j*3+2]?=some (.int .i64 (ps[j]).2.2)
 | [],j,h=>by simp at h
 | p :: l,0,h=>by simp [Zq]
 | p :: l,j+1,h=>by
  have ih:=GZ l j (by simpa using h);have e:Zq (p :: l)=[.string p.1,.int .i64 p.2.1,.int .i64 p.2.2] ++ Zq l:=by simp [Zq]
  rw [e];rw [List.getElem?_append_right (by simp; omega),List.getElem?_append_right (by simp; omega),List.getElem?_append_right (by simp; omega)];simp only [List.length_cons,List.length_nil,List.getElem_cons_succ];rw [show (j+1)*3 - (0+1+1+1)=j*3 by omega,show (j+1)*3+1 - (0+1+1+1)=j*3+1 by omega,show (j+1)*3+2 - (0+1+1+1)=j*3+2 by omega];exact ih
def OwO (w:World) (B:Nat) (v:Value) (ps:List (ByteArray × Int × Int)):Prop:=w.ownsRow B 223 3 v ps.length (Zq ps)
theorem OwO.nil (w:World) (B:Nat):OwO w B (.slice none 0 0) []:=World.ownsRow_nil w B _ 3
theorem OwO.keep {F:Nat->Prop} {w w':World} {B:Nat} {v:Value} {ps:List (ByteArray × Int × Int)} (h:OwO w B v ps) (hf:Fr F w w') (hF:∀ k,F k->v.ownBlock≠some k):OwO w' B v ps:=by
 refine ⟨h.1, ?_⟩;rcases h.2 with hn | ⟨g,cap,cur,rfl,hb,hg,rest⟩
 ·exact .inl hn
 ·exact .inr ⟨g,cap,cur,rfl,hb,hf.kept hg (fun h=>hF g h rfl),rest⟩
theorem OwO.sT {w w':World} {B:Nat} {v:Value} {ps:List (ByteArray × Int × Int)} (h:OwO w B v ps) (hf:Yc w w'):OwO w' B v ps:=h.keep hf (fun _ e=>e.elim)
theorem OwO.alloc {w:World} {B:Nat} {v:Value} {ps:List (ByteArray × Int × Int)} (h:OwO w B v ps) (o:Obj):OwO (w.alloc o) B v ps:=h.sT (aL w o)
theorem OwO.slice {w:World} {B:Nat} {v:Value} {ps:List (ByteArray × Int × Int)} (h:OwO w B v ps):∃ ao cap,v=.slice ao ps.length cap/\(ao=none \/ ∃ g,ao=some ⟨g,0,none⟩/\B<=g/\g<w.heap.size):=by
 rcases h.2 with ⟨rfl,hn⟩ | ⟨g,cap,cur,rfl,hb,hg,rest⟩
 ·exact ⟨none,0,by rw [hn],.inl rfl⟩
 ·exact ⟨_,cap,rfl,.inr ⟨g,rfl,hb,Yz hg⟩⟩
theorem OwO.block {w:World} {B k:Nat} {v:Value} {ps:List (ByteArray × Int × Int)} (h:OwO w B v ps) (hk:v.ownBlock=some k):B<=k/\k<w.heap.size:=h.lt k hk
theorem OwO.head {w:World} {B:Nat} {v:Value} {ps:List (ByteArray × Int × Int)} (h:OwO w B v ps) (hn:0<ps.length):∃ g cap,v=.slice (some ⟨g,0,none⟩) ps.length cap/\B<=g/\g<w.heap.size:=by
 rcases h.2 with ⟨rfl,h0⟩ | ⟨g,cap,cur,rfl,hb,hg,rest⟩
 ·omega
 ·exact ⟨g,cap,rfl,hb,Yz hg⟩
theorem OwO.cell {w:World} {B g n cap:Nat} {ps:List (ByteArray × Int × Int)} (h:OwO w B (.slice (some ⟨g,0,none⟩) n cap) ps) (j:Nat) (hj:j<ps.length) :
  w.cell? ⟨g,j*3,none⟩=some (.string (ps[j]).1)/\w.cell? ⟨g,j*3+1,none⟩=some (.int .i64 (ps[j]).2.1)/\w.cell? ⟨g,j*3+2,none⟩=some (.int .i64 (ps[j]).2.2)/\∀ o,w.frozen? ⟨g,o,none⟩=false:=by
 obtain ⟨h1,h2,h3⟩:=GZ ps j hj;have k1:=World.ownsRow.cells h (g:=g) rfl _ _ h1;have k2:=World.ownsRow.cells h (g:=g) rfl _ _ h2;have k3:=World.ownsRow.cells h (g:=g) rfl _ _ h3;rw [add_plain,Nat.zero_add] at k1 k2 k3;refine ⟨k1,k2,k3,fun o=>?_⟩;rcases h.2 with ⟨hv,_⟩ | ⟨g',cap',cur,hv,hb,hg,rest⟩
 ·cases hv
 ·cases hv; exact frozen_of_row w g o _ _ hg
def Opb (w:World) (g:Nat) (s:ByteArray) (x y:Int):Prop:=w.heap[g]?=some (.cells #[.string s,.int .i64 x,.int .i64 y] 223 (0,0))
theorem Opb.cells {w:World} {g:Nat} {s:ByteArray} {x y:Int} (h:Opb w g s x y) :
  w.cell? ⟨g,0,none⟩=some (.string s)/\w.cell? ⟨g,1,none⟩=some (.int .i64 x)/\w.cell? ⟨g,2,none⟩=some (.int .i64 y)/\∀ o,w.frozen? ⟨g,o,none⟩=false:=by
 refine ⟨?_, ?_, ?_,fun o=>frozen_of_row w g o _ _ h⟩ <;> (rw [cell_of_row _ _ _ _ _ _ h]; rfl)
abbrev JJ (w:World) (s:ByteArray) (x y:Int):World:=w.alloc (.cells #[.string s,.int .i64 x,.int .i64 y] 223)
theorem Ud (w:World) (s:ByteArray) (x y:Int):Opb (JJ w s x y) w.heap.size s x y:=heap_alloc_new w _
theorem OwO.one {w:World} {g B:Nat} {s:ByteArray} {x y:Int} (h:Opb w g s x y) (hB:B<=g):OwO w B (.slice (some ⟨g,0,none⟩) 1 1) [(s,x,y)] :=
 ⟨rfl,.inr ⟨g,1,_,rfl,hB,h,by simp,by simp [maxLen],rfl,rfl⟩⟩
theorem Fe:(Tryz.prog.info? 223).map (fun i=>(i.zero,i.size,i.bytes))=some (some (.agg #[.string ByteArray.empty,.int .i64 0,.int .i64 0]),3,32):=by kernel_rfl
theorem Ff:∃ i,Tryz.prog.info? 223=some i/\i.zero=some (.agg #[.string ByteArray.empty,.int .i64 0,.int .i64 0])/\i.size=3/\i.bytes=32:=info_parts Fe
theorem Fg (w:World) {ops:Array Oper} {rest:List Oper} {o:Oper} {a:Act} {Q:Exit->Act->World->Prop} (hgd:o.guard=none) (s x:Operand)
  (hop:o.op=.call { callee:=.builtin .append,args:=#[s,x],argTypes:=#[219,219] })
  (B g:Nat) (v:Value) (ps:List (ByteArray × Int × Int)) (n:ByteArray) (p q:Int) (hs:a.eval s=v) (hx:a.eval x=.slice (some ⟨g,0,none⟩) 1 1) (ho:OwO w B v ps) (hr:Opb w g n p q) (h47:ps.length<=100000) (hB:B<=w.heap.size)
  (h:∀ v' w',OwO w' B v' (ps ++ [(n,p,q)])->Fr (fun k=>v.ownBlock=some k) w w'->wpList Tryz.prog ops Q rest (a.put o.dst v') w'):wpList Tryz.prog ops Q (o :: rest) a w:=by
 obtain ⟨i,hi,hz,h1,h2⟩:=Ff;refine wpList_append_own (P:=Tryz.prog) w hgd s x 219 hop B 223 i (.agg #[.string ByteArray.empty,.int .i64 0,.int .i64 0]) 3 32 Tryz.underlying219 hi hz h1 h2 rfl (by omega) v ps.length (Zq ps) hs ho ⟨g,0,none⟩ 1 1 (Zq [(n,p,q)]) hx rfl ?_ (Fd _) (by unfold maxLen; omega) (by omega) hB ?_
 ·intro j u hu;rw [add_plain,Nat.zero_add];have hj:j<3:=by
   have:=(List.getElem?_eq_some_iff.1 hu).1;simpa [Zq] using this
  rcases (show j=0\/j=1\/j=2 by omega) with rfl | rfl | rfl
  ·simp [Zq] at hu; subst hu; exact hr.cells.1
  ·simp [Zq] at hu; subst hu; exact hr.cells.2.1
  ·simp [Zq] at hu; subst hu; exact hr.cells.2.2.1
 ·intro v' w' hown hgr _;refine h v' w' ?_ ⟨hgr.os,hgr.tape,hgr.output,hgr.size,fun k hk hn=>hgr.block k hk (fun e=>hn e.symm)⟩;unfold OwO;rw [Fc,List.length_append];exact hown
theorem Fh {w0 w w':World} {B:Nat} {v:Value} {ps:List (ByteArray × Int × Int)} (hs:Yc w0 w) (ho:OwO w B v ps) (hf:Fr (fun k=>v.ownBlock=some k) w w') (hB:w0.heap.size<=B):Yc w0 w' :=
 Fr.trans hs hf (fun k hk e=>by have:=(ho.block e).1; omega)
structure OTab (w:World):Prop where
 fs:∀ d,d<7->w.cell? ⟨4,d,none⟩=some (.string (fsB d))
 lo:∀ d,d<7->w.cell? ⟨5,d,none⟩=some (.int .i64 (lo d))
 hi:∀ d,d<7->w.cell? ⟨6,d,none⟩=some (.int .i64 (hi d))
theorem OTab.sT {w w':World} /- 149 -/ (h:OTab w) (hs:Yc w w'):OTab w' :=
 ⟨fun d hd=>(hs.cell (World.block_lt_of_cell? w _ (h.fs d hd)) (fun e=>e)).trans (h.fs d hd),fun d hd=>(hs.cell (World.block_lt_of_cell? w _ (h.lo d hd)) (fun e=>e)).trans (h.lo d hd),fun d hd=>(hs.cell (World.block_lt_of_cell? w _ (h.hi d hd)) (fun e=>e)).trans (h.hi d hd)⟩
end Go.Proofs.YthcjckgmdokmdaaGreatDoor
set_option maxRecDepth 100000
namespace Go.Proofs.YthcjckgmdokmdaaGreatDoor
open Go.RowKit
open Vp
theorem XQ (v:Int) (w:World):Yb 148 #[.int .i64 v] w (.bool (isV v)):=by
 by_cases h1:1<=v
 ·by_cases h2:v<=7
  ·rw [isV_iff.2 ⟨h1,h2⟩];go_enter Tryz.func148,Tryz.ntmps148;go_wp2_with fail;go_ret;exact ⟨rfl,rfl⟩
  ·have HE:=hid (isV_no.2 (.inr (show 7<v by omega)));have hd:decide (v<=7)=false:=by simp; omega
   rw [HE.o];go_enter Tryz.func148,Tryz.ntmps148;go_wp2_with fail;go_ret;first | exact ⟨rfl,rfl⟩ | (rw [hd]; exact ⟨rfl,rfl⟩)
 ·rw [isV_no.2 (.inl (show v<1 by omega))];go_enter Tryz.func148,Tryz.ntmps148;go_wp2_with fail;go_ret;exact ⟨rfl,rfl⟩
end Go.Proofs.YthcjckgmdokmdaaGreatDoor
set_option maxRecDepth 100000
namespace Go.Proofs.YthcjckgmdokmdaaGreatDoor
open Go.RowKit
open Vp
theorem Fi (v:Int) (hv:isV v=false) (w:World):Calls Tryz.prog 149 #[.int .i64 v] w fun e w'=>∃ x,e=.returned x/\OwO w' w.heap.size x (opV v)/\Yc w w':=by
 have H:=hid (fun u=>XQ v u);rw [hv] at H;have HE:=hid (show opV v=[] by unfold opV; rw [hv]; rfl);clear hv;go_enter Tryz.func149,Tryz.ntmps149;go_wp2_with (go_at_call 148; refine (H.o _).mono ?_; rintro e w' ⟨he,hw⟩; rw [he,hw]; clear he hw w');go_ret;exact ⟨_,rfl,by rw [HE.o]; exact OwO.nil _ _,Fr.refl _ _⟩
theorem Fj (w:World) (ht:OTab w):Calls Tryz.prog 149 #[.int .i64 2] w fun e w'=>∃ x,e=.returned x/\OwO w' w.heap.size x (opV 2)/\Yc w w':=by
 have H:=hid (fun u=>XQ 2 u);rw [show isV 2=true by decide] at H;have c:=ht.fs 1 (by omega);rw [show fsB 1=⟨#[]⟩ from rfl] at c;have HE:=hid (show opV 2=[] by decide);go_enter Tryz.func149,Tryz.ntmps149;go_wp2_with (go_at_call 148; refine (H.o _).mono ?_; rintro e w' ⟨he,hw⟩; rw [he,hw]; clear he hw w');go_ret;exact ⟨_,rfl,by rw [HE.o]; exact OwO.nil _ _,Fr.refl _ _⟩
theorem Fm (w:World) (ht:OTab w):Calls Tryz.prog 149 #[.int .i64 1] w fun e w'=>∃ x,e=.returned x/\OwO w' w.heap.size x (opV 1)/\Yc w w':=by
 have H:=hid (fun u=>XQ 1 u);rw [show isV 1=true by decide] at H;have k0:=ht.fs 0 (by omega);have k1:=ht.lo 0 (by omega);have k2:=ht.hi 0 (by omega);rw [show fsB 0=⟨#[120]⟩ from rfl] at k0;rw [show lo 0=(-8) from rfl] at k1;rw [show hi 0=8 from rfl] at k2;have c0:=kC k0;have c1:=kC k1;have c2:=kC k2;have hne:=Aft.here w;go_enter Tryz.func149,Tryz.ntmps149;go_wp2_with (go_at_call 148; refine (H.o _).mono ?_; rintro e w' ⟨he,hw⟩; rw [he,hw]; clear he hw w');clear k0 k1 k2;refine YC 13 (by kernel_rfl) (by kernel_rfl) ?_;simp only [List.take_succ_cons,List.take_zero,List.drop_succ_cons,List.drop_zero];repeat (go_big_quiet_step (fail))
 refine wpQuiet_nil ?_;intro w1 h1;clear c0 c1 c2 hne;have o1:=Ud w1 ⟨#[120]⟩ (-8) 8;have r1:=OwO.one (B:=w.heap.size) o1 h1.size;have HS1:=hid (h1.trans (aL w1 (.cells #[.string ⟨#[120]⟩,.int .i64 (-8),.int .i64 8] 223)));have HE:=hid (show opV 1=[(⟨#[120]⟩,(-8),8)] ++ [(⟨#[121]⟩,-8,8)] from rfl);have HR:=hid (r1.alloc (.cells #[.string ⟨#[121]⟩,.int .i64 (-8),.int .i64 8] 223));have HO:=hid (Ud (JJ w1 ⟨#[120]⟩ (-8) 8) ⟨#[121]⟩ (-8) 8);have HS2:=hid (HS1.o.trans (aL (JJ w1 ⟨#[120]⟩ (-8) 8) (.cells #[.string ⟨#[121]⟩,.int .i64 (-8),.int .i64 8] 223)));clear o1 r1 HS1;go_wp2_with (at_builtin; refine Fg _ rfl _ _ rfl w.heap.size (JJ w1 ⟨#[120]⟩ (-8) 8).heap.size _ [(⟨#[120]⟩,(-8),8)] ⟨#[121]⟩ (-8) 8 rfl (by simp; rfl) HR.o HO.o (by simp) HS2.o.size ?_; intro v' w' ho' hf');have HS3:=hid (Fh HS2.o HR.o hf' (Nat.le_refl _));go_ret;exact ⟨_,rfl,by rw [HE.o]; exact ho',HS3.o⟩
theorem Fo (w:World) (ht:OTab w):Calls Tryz.prog 149 #[.int .i64 3] w fun e w'=>∃ x,e=.returned x/\OwO w' w.heap.size x (opV 3)/\Yc w w':=by
 have H:=hid (fun u=>XQ 3 u);rw [show isV 3=true by decide] at H;have k0:=ht.fs 2 (by omega);have k1:=ht.lo 2 (by omega);have k2:=ht.hi 2 (by omega);rw [show fsB 2=⟨#[116,111]⟩ from rfl] at k0;rw [show lo 2=0 from rfl] at k1;rw [show hi 2=15 from rfl] at k2;have c0:=kC k0;have c1:=kC k1;have c2:=kC k2;have hne:=Aft.here w;go_enter Tryz.func149,Tryz.ntmps149;go_wp2_with (go_at_call 148; refine (H.o _).mono ?_; rintro e w' ⟨he,hw⟩; rw [he,hw]; clear he hw w');clear k0 k1 k2;refine YC 13 (by kernel_rfl) (by kernel_rfl) ?_;simp only [List.take_succ_cons,List.take_zero,List.drop_succ_cons,List.drop_zero];repeat (go_big_quiet_step (fail))
 refine wpQuiet_nil ?_;intro w1 h1;clear c0 c1 c2 hne;have o1:=Ud w1 ⟨#[116,111]⟩ 0 15;have r1:=OwO.one (B:=w.heap.size) o1 h1.size;have HS1:=hid (h1.trans (aL w1 (.cells #[.string ⟨#[116,111]⟩,.int .i64 0,.int .i64 15] 223)));have HE:=hid (show opV 3=[(⟨#[116,111]⟩,0,15)] from rfl);go_wp2_with fail;go_ret;exact ⟨_,rfl,by rw [HE.o]; exact r1,HS1.o⟩
theorem Fp (w:World) (ht:OTab w):Calls Tryz.prog 149 #[.int .i64 4] w fun e w'=>∃ x,e=.returned x/\OwO w' w.heap.size x (opV 4)/\Yc w w':=by
 have H:=hid (fun u=>XQ 4 u);rw [show isV 4=true by decide] at H;have k0:=ht.fs 3 (by omega);have k1:=ht.lo 3 (by omega);have k2:=ht.hi 3 (by omega);rw [show fsB 3=⟨#[112,111,119,101,114]⟩ from rfl] at k0;rw [show lo 3=1 from rfl] at k1;rw [show hi 3=3 from rfl] at k2;have c0:=kC k0;have c1:=kC k1;have c2:=kC k2;have hne:=Aft.here w;go_enter Tryz.func149,Tryz.ntmps149;go_wp2_with (go_at_call 148; refine (H.o _).mono ?_; rintro e w' ⟨he,hw⟩; rw [he,hw]; clear he hw w');clear k0 k1 k2;refine YC 13 (by kernel_rfl) (by kernel_rfl) ?_;simp only [List.take_succ_cons,List.take_zero,List.drop_succ_cons,List.drop_zero];repeat (go_big_quiet_step (fail))
 refine wpQuiet_nil ?_;intro w1 h1;clear c0 c1 c2 hne;have o1:=Ud w1 ⟨#[112,111,119,101,114]⟩ 1 3;have r1:=OwO.one (B:=w.heap.size) o1 h1.size;have HS1:=hid (h1.trans (aL w1 (.cells #[.string ⟨#[112,111,119,101,114]⟩,.int .i64 1,.int .i64 3] 223)));have HE:=hid (show opV 4=[(⟨#[112,111,119,101,114]⟩,1,3)] from rfl);go_wp2_with fail;go_ret;exact ⟨_,rfl,by rw [HE.o]; exact r1,HS1.o⟩
theorem Fq (w:World) (ht:OTab w):Calls Tryz.prog 149 #[.int .i64 5] w fun e w'=>∃ x,e=.returned x/\OwO w' w.heap.size x (opV 5)/\Yc w w':=by
 have H:=hid (fun u=>XQ 5 u);rw [show isV 5=true by decide] at H;have k0:=ht.fs 4 (by omega);have k1:=ht.lo 4 (by omega);have k2:=ht.hi 4 (by omega);rw [show fsB 4=⟨#[111,110]⟩ from rfl] at k0;rw [show lo 4=0 from rfl] at k1;rw [show hi 4=1 from rfl] at k2;have c0:=kC k0;have c1:=kC k1;have c2:=kC k2;have hne:=Aft.here w;go_enter Tryz.func149,Tryz.ntmps149;go_wp2_with (go_at_call 148; refine (H.o _).mono ?_; rintro e w' ⟨he,hw⟩; rw [he,hw]; clear he hw w');clear k0 k1 k2;refine YC 13 (by kernel_rfl) (by kernel_rfl) ?_;simp only [List.take_succ_cons,List.take_zero,List.drop_succ_cons,List.drop_zero];repeat (go_big_quiet_step (fail))
 refine wpQuiet_nil ?_;intro w1 h1;clear c0 c1 c2 hne;have o1:=Ud w1 ⟨#[111,110]⟩ 0 1;have r1:=OwO.one (B:=w.heap.size) o1 h1.size;have HS1:=hid (h1.trans (aL w1 (.cells #[.string ⟨#[111,110]⟩,.int .i64 0,.int .i64 1] 223)));have HE:=hid (show opV 5=[(⟨#[111,110]⟩,0,1)] from rfl);go_wp2_with fail;go_ret;exact ⟨_,rfl,by rw [HE.o]; exact r1,HS1.o⟩
theorem Fs (w:World) (ht:OTab w):Calls Tryz.prog 149 #[.int .i64 6] w fun e w'=>∃ x,e=.returned x/\OwO w' w.heap.size x (opV 6)/\Yc w w':=by
 have H:=hid (fun u=>XQ 6 u);rw [show isV 6=true by decide] at H;have k0:=ht.fs 5 (by omega);have k1:=ht.lo 5 (by omega);have k2:=ht.hi 5 (by omega);rw [show fsB 5=⟨#[116,111]⟩ from rfl] at k0;rw [show lo 5=0 from rfl] at k1;rw [show hi 5=15 from rfl] at k2;have c0:=kC k0;have c1:=kC k1;have c2:=kC k2;have hne:=Aft.here w;go_enter Tryz.func149,Tryz.ntmps149;go_wp2_with (go_at_call 148; refine (H.o _).mono ?_; rintro e w' ⟨he,hw⟩; rw [he,hw]; clear he hw w');clear k0 k1 k2;refine YC 13 (by kernel_rfl) (by kernel_rfl) ?_;simp only [List.take_succ_cons,List.take_zero,List.drop_succ_cons,List.drop_zero];repeat (go_big_quiet_step (fail))
 refine wpQuiet_nil ?_;intro w1 h1;clear c0 c1 c2 hne;have o1:=Ud w1 ⟨#[116,111]⟩ 0 15;have r1:=OwO.one (B:=w.heap.size) o1 h1.size;have HS1:=hid (h1.trans (aL w1 (.cells #[.string ⟨#[116,111]⟩,.int .i64 0,.int .i64 15] 223)));have HE:=hid (show opV 6=[(⟨#[116,111]⟩,0,15)] from rfl);go_wp2_with fail;go_ret;exact ⟨_,rfl,by rw [HE.o]; exact r1,HS1.o⟩
theorem Ft (w:World) (ht:OTab w):Calls Tryz.prog 149 #[.int .i64 7] w fun e w'=>∃ x,e=.returned x/\OwO w' w.heap.size x (opV 7)/\Yc w w':=by
 have H:=hid (fun u=>XQ 7 u);rw [show isV 7=true by decide] at H;have k0:=ht.fs 6 (by omega);have k1:=ht.lo 6 (by omega);have k2:=ht.hi 6 (by omega);rw [show fsB 6=⟨#[119,104,97,116]⟩ from rfl] at k0;rw [show lo 6=0 from rfl] at k1;rw [show hi 6=255 from rfl] at k2;have c0:=kC k0;have c1:=kC k1;have c2:=kC k2;have hne:=Aft.here w;go_enter Tryz.func149,Tryz.ntmps149;go_wp2_with (go_at_call 148; refine (H.o _).mono ?_; rintro e w' ⟨he,hw⟩; rw [he,hw]; clear he hw w');clear k0 k1 k2;refine YC 13 (by kernel_rfl) (by kernel_rfl) ?_;simp only [List.take_succ_cons,List.take_zero,List.drop_succ_cons,List.drop_zero];repeat (go_big_quiet_step (fail))
 refine wpQuiet_nil ?_;intro w1 h1;clear c0 c1 c2 hne;have o1:=Ud w1 ⟨#[119,104,97,116]⟩ 0 255;have r1:=OwO.one (B:=w.heap.size) o1 h1.size;have HS1:=hid (h1.trans (aL w1 (.cells #[.string ⟨#[119,104,97,116]⟩,.int .i64 0,.int .i64 255] 223)));have HE:=hid (show opV 7=[(⟨#[119,104,97,116]⟩,0,255)] from rfl);go_wp2_with fail;go_ret;exact ⟨_,rfl,by rw [HE.o]; exact r1,HS1.o⟩
theorem Fu (v:Int) (w:World) (ht:OTab w):Calls Tryz.prog 149 #[.int .i64 v] w fun e w'=>∃ x,e=.returned x/\OwO w' w.heap.size x (opV v)/\Yc w w':=by
 cases h:isV v with
 | false=>exact Fi v h w
 | true =>
  rcases KJ h with rfl | rfl | rfl | rfl | rfl | rfl | rfl
  ·exact Fm w ht
  ·exact Fj w ht
  ·exact Fo w ht
  ·exact Fp w ht
  ·exact Fq w ht
  ·exact Fs w ht
  ·exact Ft w ht
end Go.Proofs.YthcjckgmdokmdaaGreatDoor
namespace Go.Proofs.YthcjckgmdokmdaaGreatDoor
open Go.RowKit
open Vp
set_option maxRecDepth 100000
def gv (a b c:Int) (i:Nat):Int:=[a,b,c].getD i 0
def okI (ps:List (ByteArray × Int × Int)) (x:Int) (i:Nat):Bool:=match ps[i]? with
 | some p=>decide (p.2.1<=x) && decide (x<=p.2.2)
 | none=>decide (x=0)
def Arb (w:World) (g:Nat) (a b c:Int):Prop:=w.heap[g]?=some (.cells #[.int .i64 a,.int .i64 b,.int .i64 c] 221 (0,0))
theorem Arb.sT {w w':World} {g:Nat} {a b c:Int} (h:Arb w g a b c) (hs:Yc w w'):Arb w' g a b c:=hs.kept_still h
theorem Arb.at {w:World} {g:Nat} {a b c:Int} (h:Arb w g a b c) (i:Nat) (hi:i<3):w.cell? ⟨g,i,none⟩=some (.int .i64 (gv a b c i)):=by
 rcases (show i=0\/i=1\/i=2 by omega) with rfl | rfl | rfl <;> (rw [cell_of_row _ _ _ _ _ _ h]; rfl)
theorem Fv (w:World) (a b c:Int):Arb (w.alloc (.cells #[.int .i64 a,.int .i64 b,.int .i64 c] 221)) w.heap.size a b c:=heap_alloc_new w _
theorem Fw {ps:List (ByteArray × Int × Int)} {x:Int} {i:Nat} (h:ps.length<=i):okI ps x i=decide (x=0):=by unfold okI; rw [List.getElem?_eq_none h]
theorem Fx {ps:List (ByteArray × Int × Int)} {x:Int} {i:Nat} (h:i<ps.length):okI ps x i=(decide ((ps[i]).2.1<=x) && decide (x<=(ps[i]).2.2)):=by unfold okI; rw [List.getElem?_eq_getElem h]
theorem ok3 {ps:List (ByteArray × Int × Int)} {a b c:Int} (h:∀ i,i<3->okI ps (gv a b c i) i=true):(0:Int)=if okI ps a 0 && okI ps b 1 && okI ps c 2 then 0 else 71:=by
 have h0:=h 0 (by omega);have h1:=h 1 (by omega);have h2:=h 2 (by omega);simp only [gv,List.getD_cons_zero,List.getD_cons_succ] at h0 h1 h2;rw [h0,h1,h2]; rfl
theorem no3 {ps:List (ByteArray × Int × Int)} {a b c:Int} {i:Nat} (hi:i<3) (h:okI ps (gv a b c i) i=false):(71:Int)=if okI ps a 0 && okI ps b 1 && okI ps c 2 then 0 else 71:=by
 rcases (show i=0\/i=1\/i=2 by omega) with rfl | rfl | rfl <;> simp only [gv,List.getD_cons_zero,List.getD_cons_succ] at h <;> rw [h] <;> simp
theorem Fy (v a b c:Int) (hv:isV v=true) (w:World) (ht:OTab w):Ya 110 #[od v a b c] w (.int .i64 (if okI (opV v) a 0 && okI (opV v) b 1 && okI (opV v) c 2 then 0 else 71)):=by
 obtain ⟨ps,eps⟩:∃ ps,opV v=ps:=⟨_,rfl⟩;rw [eps];have HP:=hid eps;clear eps;obtain ⟨X,eX⟩:∃ X:Int,(if okI ps a 0 && okI ps b 1 && okI ps c 2 then 0 else 71)=X:=⟨_,rfl⟩;rw [eX];have HX:=hid eX;clear eX;have p:=V7 w v a b c;have H:=hid (fun u=>XQ v u);rw [hv] at H;have HS0:=hid (aL w (.cells #[.int .i64 v,.int .i64 a,.int .i64 b,.int .i64 c] 83));have HT:=hid (ht.sT HS0.o);obtain ⟨c0,c1,c2,c3,cf⟩:=p.cells;clear hv;go_enter Tryz.func110,Tryz.ntmps110;go_wp2_with (go_at_call 148; refine (H.o _).mono ?_; rintro e w' ⟨he,hw⟩; rw [he,hw]; clear he hw w');refine (Fu v _ HT.o).mono ?_;rintro e w1 ⟨x,rfl,ho,h1⟩;rw [HP.o] at ho;have p1:=p.sT h1;clear c0 c1 c2 c3 cf p;obtain ⟨c0,c1,c2,c3,cf⟩:=p1.cells;have HT1:=hid h1;have p2:=Fv w1 a b c;have o2:=ho.alloc (.cells #[.int .i64 a,.int .i64 b,.int .i64 c] 221);have HSW:=hid ((HS0.o.trans h1).trans (aL w1 (.cells #[.int .i64 a,.int .i64 b,.int .i64 c] 221)));obtain ⟨ao,cap,rfl,_⟩:=o2.slice;obtain ⟨n,en⟩:∃ n,ps.length=n:=⟨_,rfl⟩;rw [en];have HN:=hid en;clear ho h1 HT1 en;go_wp2_with fail;go_loopw [6] (fun u wr=>∃ k:Nat,k<=3/\u=.int .i64 (k:Int)/\(∀ i,i<k->okI ps (gv a b c i) i=true)/\Yc (w1.alloc (.cells #[.int .i64 a,.int .i64 b,.int .i64 c] 221)) wr) (fun u _=>3 - (intOf u).toNat);case atStart=>exact ⟨0,by omega,rfl,fun i hi=>by omega,Fr.refl _ _⟩
 case round =>
  clear c0 c1 c2 c3 cf;obtain ⟨k,hk,rfl,hF,hs⟩:=hrel;by_cases hk3:k<3
  ·have q2:=p2.sT hs;have r2:=o2.sT hs;have HS2:=hid hs;have k0:=kC (q2.at k hk3);have hne:=Aft.here wr;have hi3:(k:Int)<3:=by omega
   obtain ⟨y,ey⟩:∃ y,gv a b c k=y:=⟨_,rfl⟩;rw [ey] at k0;clear hs q2;by_cases hkn:k<n
   ·have hlt:(k:Int)<(n:Int):=by omega
    have hng:decide ((n:Int)<=(k:Int))=false:=by simp; omega
    have hng':decide (n<=k)=false:=by simp; omega
    have hlt':decide (k<n)=true:=by simp; omega
    have hpl:k<ps.length:=by rw [HN.o]; exact hkn
    obtain ⟨g,cg,e1,_,_⟩:=r2.head (by omega);rw [HN.o] at e1;cases e1;obtain ⟨_,m1,m2,_⟩:=r2.cell k hpl;have hx:=Fx (ps:=ps) (x:=gv a b c k) (i:=k) hpl;obtain ⟨lw,elw⟩:∃ z,(ps[k]).2.1=z:=⟨_,rfl⟩;obtain ⟨up,eup⟩:∃ z,(ps[k]).2.2=z:=⟨_,rfl⟩;rw [elw] at m1 hx;rw [eup] at m2 hx;rw [ey] at hx;have k1:=kC m1;have k2:=kC m2;clear hkn r2 m1 m2 elw eup;by_cases hy:lw<=y
    ·have hd1:decide (y<lw)=false:=by simp; omega
     by_cases hz:y<=up
     ·have HE:=hid (show okI ps (gv a b c k) k=true by rw [ey,hx]; simp [hy,hz]);have hd2:decide (up<y)=false:=by simp; omega
      clear hx ey hy hz;go_wp2_with fail;refine Yo (by kernel_rfl) (by kernel_rfl) ?_;repeat (go_big_quiet_step (fail))
      refine wpQuiet_nil ?_;intro w2 h2;have HS3:=hid (Yc.trans HS2.o h2);clear hne k0 k1 k2 h2 HS2;go_wp2_with fail;go_roundw;case rel=>exact ⟨k+1,by omega,by go_num,fun i hi=>by
       by_cases e:i=k
       ·subst e; exact HE.o
       ·exact hF i (by omega),HS3.o⟩
      case measure=>simp [intOf]; omega
     ·have HE:=hid (show okI ps (gv a b c k) k=false by rw [ey,hx]; simp; omega);have hd2:decide (up<y)=true:=by simp; omega
      have hu:up<y:=by omega
      clear hx ey hy hz;go_wp2_with fail;refine Yo (by kernel_rfl) (by kernel_rfl) ?_;repeat (go_big_quiet_step (fail))
      refine wpQuiet_nil ?_;intro w2 h2;have HS3:=hid (Yc.trans HS2.o h2);clear hne k0 k1 k2 h2 HS2;go_wp2_with fail;first | rw [Exit.noGoto_ret] | skip
      go_ret;exact ⟨by rw [<- HX.o,<- no3 hk3 HE.o]; rfl,Yc.trans HSW.o HS3.o⟩
    ·have HE:=hid (show okI ps (gv a b c k) k=false by rw [ey,hx]; simp; omega);have hd1:decide (y<lw)=true:=by simp; omega
     have hu:y<lw:=by omega
     clear hx ey hy;go_wp2_with fail;refine Yo (by kernel_rfl) (by kernel_rfl) ?_;repeat (go_big_quiet_step (fail))
     refine wpQuiet_nil ?_;intro w2 h2;have HS3:=hid (Yc.trans HS2.o h2);clear hne k0 k1 k2 h2 HS2;go_wp2_with fail;first | rw [Exit.noGoto_ret] | skip
     go_ret;exact ⟨by rw [<- HX.o,<- no3 hk3 HE.o]; rfl,Yc.trans HSW.o HS3.o⟩
   ·have hge:(n:Int)<=(k:Int):=by omega
    have hnl:decide ((k:Int)<(n:Int))=false:=by simp; omega
    have hnl':decide (k<n)=false:=by simp; omega
    have hge':decide (n<=k)=true:=by simp; omega
    have hx:=Fw (ps:=ps) (x:=gv a b c k) (i:=k) (by rw [HN.o]; omega);rw [ey] at hx;clear hkn r2;by_cases hy:y=0
    ·subst hy;have HE:=hid (show okI ps (gv a b c k) k=true by rw [ey,hx]; rfl);clear hx ey;go_wp2_with fail;refine Yo (by kernel_rfl) (by kernel_rfl) ?_;repeat (go_big_quiet_step (fail))
     refine wpQuiet_nil ?_;intro w2 h2;have HS3:=hid (Yc.trans HS2.o h2);clear hne k0 h2 HS2;go_wp2_with fail;go_roundw;case rel=>exact ⟨k+1,by omega,by go_num,fun i hi=>by
      by_cases e:i=k
      ·subst e; exact HE.o
      ·exact hF i (by omega),HS3.o⟩
     case measure=>simp [intOf]; omega
    ·have HE:=hid (show okI ps (gv a b c k) k=false by rw [ey,hx]; simpa using hy);have hb:(y != 0)=true:=by simpa using hy
     clear hx ey;go_wp2_with fail;refine Yo (by kernel_rfl) (by kernel_rfl) ?_;repeat (go_big_quiet_step (fail))
     refine wpQuiet_nil ?_;intro w2 h2;have HS3:=hid (Yc.trans HS2.o h2);clear hne k0 h2 HS2;go_wp2_with fail;first | rw [Exit.noGoto_ret] | skip
     go_ret;exact ⟨by rw [<- HX.o,<- no3 hk3 HE.o]; rfl,Yc.trans HSW.o HS3.o⟩
  ·have HE:=hid (ok3 (fun i hi=>hF i (by omega)));have HS2:=hid hs;clear hs hF;go_wp2_with fail;go_ret;exact ⟨by rw [<- HX.o,<- HE.o]; rfl,Yc.trans HSW.o HS2.o⟩
theorem Fz {v a b c:Int} (h:isV v=true):(okI (opV v) a 0 && okI (opV v) b 1 && okI (opV v) c 2)=okO v a b c:=by
 rcases KJ h with rfl | rfl | rfl | rfl | rfl | rfl | rfl
 ·rw [show opV 1=[(⟨#[120]⟩,-8,8),(⟨#[121]⟩,-8,8)] from rfl];unfold okO;rw [show lo ((1:Int) - 1).toNat=-8 from rfl,show hi ((1:Int) - 1).toNat=8 from rfl,if_pos rfl];rfl
 ·rw [show opV 2=[] from rfl];unfold okO;rw [show lo ((2:Int) - 1).toNat=0 from rfl,show hi ((2:Int) - 1).toNat=0 from rfl,if_neg (by decide)];show (decide (a=0) && decide (b=0) && decide (c=0))=_;rw [Bool.eq_iff_iff];simp only [Bool.and_eq_true,decide_eq_true_eq];omega
 all_goals
  unfold okO;rw [if_neg (by decide)];rfl
theorem F9 (v a b c:Int) (hv:isV v=false) (w:World):Ya 110 #[od v a b c] w (.int .i64 70):=by
 have p:=V7 w v a b c;have H:=hid (fun u=>XQ v u);rw [hv] at H;have HS0:=hid (aL w (.cells #[.int .i64 v,.int .i64 a,.int .i64 b,.int .i64 c] 83));obtain ⟨c0,c1,c2,c3,cf⟩:=p.cells;clear hv;go_enter Tryz.func110,Tryz.ntmps110;go_wp2_with (go_at_call 148; refine (H.o _).mono ?_; rintro e w' ⟨he,hw⟩; rw [he,hw]; clear he hw w');go_ret;exact ⟨rfl,HS0.o⟩
theorem Uy (v a b c:Int) (w:World) (ht:OTab w):Ya 110 #[od v a b c] w (.int .i64 (Zc v a b c)):=by
 unfold Zc;cases h:isV v with
 | false=>exact F9 v a b c h w
 | true =>
  have:=Fy v a b c h w ht;rw [Fz h] at this;rw [if_pos rfl];exact this
end Go.Proofs.YthcjckgmdokmdaaGreatDoor
namespace Go.Proofs.YthcjckgmdokmdaaGreatDoor
open Go.RowKit
open Pu Gp Ap Vp Np Za
set_option maxRecDepth 100000
def aB (s:Sh):Bool:=decide (1<=s.no) && decide (s.no<=1099511627776) && decide (0<=s.ow) && decide (s.ow<=5) && decide (1<=s.pw) && decide (s.pw<=3) && (bnd s.ax == s.ax && bnd s.ay == s.ay)
def bB (s:Sh):Bool:=decide (-1536<=s.sx) && decide (s.sx<=1536) && decide (-1536<=s.sy) && decide (s.sy<=1536)
theorem FA (s:Sh):Zd s=(aB s && bB s && decide (1<=s.lf) && decide (s.lf<=40)):=by
 rw [Bool.eq_iff_iff,maySB_iff];unfold aB bB ZH;simp only [Bool.and_eq_true,beq_iff_eq,KR,decide_eq_true_eq];omega
theorem Jc (s:Sh) (w:World):Ya 105 #[sv s] w (.int .i64 (Yx s)):=by
 have p:=ZB w s;have HS0:=hid (aL w (.cells (scs s) 122));have HC:Hid (Yx s=if (aB s && bB s && decide (1<=s.lf) && decide (s.lf<=40)) then 0 else 90):=hid (by unfold Yx; rw [FA]);have G1:=Ve;obtain ⟨c0,c1,c2,c3,c4,c5,c6,c7,cf⟩:=p.cells;go_enter Tryz.func105,Tryz.ntmps105;go_wp2_with fail;refine (ZE s.ax s.ay _).mono ?_;rintro e w1 ⟨rfl,h1⟩;have A1:=aL w1 (.cells #[.int .i64 (bnd s.ax),.int .i64 (bnd s.ay)] 54);have p1:=(p.sT h1).sT A1;have q1:Pb (w1.alloc (.cells #[.int .i64 (bnd s.ax),.int .i64 (bnd s.ay)] 54)) w1.heap.size (bnd s.ax) (bnd s.ay):=Yp w1 (bnd s.ax) (bnd s.ay);have HS1:=hid ((HS0.o.trans h1).trans A1);clear h1 p HS0 c0 c1 c2 c3 c4 c5 c6 c7 cf A1;obtain ⟨W,eW⟩:∃ W,w1.alloc (.cells #[.int .i64 (bnd s.ax),.int .i64 (bnd s.ay)] 54)=W:=⟨_,rfl⟩;rw [eW] at p1 q1 HS1;go_upto_region 2 with fail;clear eW;obtain ⟨c0,c1,c2,c3,c4,c5,c6,c7,cf⟩:=p1.cells;obtain ⟨d0,d1,df⟩:=q1.cells;have HE:=Jx (bnd s.ax) (bnd s.ay) s.ax s.ay;have HA:Hid (aB s=(decide (1<=s.no) && decide (s.no<=1099511627776) && decide (0<=s.ow) && decide (s.ow<=5) && decide (1<=s.pw) && decide (s.pw<=3) && (bnd s.ax == s.ax && bnd s.ay == s.ay))):=hid rfl;have HB:Hid (bB s=(decide (-1536<=s.sx) && decide (s.sx<=1536) && decide (-1536<=s.sy) && decide (s.sy<=1536))):=hid rfl;obtain ⟨b0,eb0⟩:∃ b,(bnd s.ax == s.ax && bnd s.ay == s.ay)=b:=⟨_,rfl⟩;rw [eb0] at HE HA;clear eb0;go_cut [4] (fun v wx=>v=.bool (aB s)/\wx=W)
 case first =>
  by_cases g0:1<=s.no
  ·have g0':s.no ≥ 1:=g0;by_cases g1:s.no<=1099511627776
   ·have g1':1099511627776 ≥ s.no:=g1;by_cases g2:0<=s.ow
    ·have g2':s.ow ≥ 0:=g2;by_cases g3:s.ow<=5
     ·have g3':5 ≥ s.ow:=g3;by_cases g4:1<=s.pw
      ·have g4':s.pw ≥ 1:=g4;by_cases g5:s.pw<=3
       ·have g5':3 ≥ s.pw:=g5;go_wp2_with fail;go_meet
        exact ⟨by rw [HA.o]; first | (simp [*]; done) | (simp; intros; omega),rfl⟩
       ·have g5':¬ 3 ≥ s.pw:=g5;go_wp2_with fail;go_meet
        exact ⟨by rw [HA.o]; first | (simp [*]; done) | (simp; intros; omega),rfl⟩
      ·have g4':¬ s.pw ≥ 1:=g4;go_wp2_with fail;go_meet
       exact ⟨by rw [HA.o]; first | (simp [*]; done) | (simp; intros; omega),rfl⟩
     ·have g3':¬ 5 ≥ s.ow:=g3;go_wp2_with fail;go_meet
      exact ⟨by rw [HA.o]; first | (simp [*]; done) | (simp; intros; omega),rfl⟩
    ·have g2':¬ s.ow ≥ 0:=g2;go_wp2_with fail;go_meet
     exact ⟨by rw [HA.o]; first | (simp [*]; done) | (simp; intros; omega),rfl⟩
   ·have g1':¬ 1099511627776 ≥ s.no:=g1;go_wp2_with fail;go_meet
    exact ⟨by rw [HA.o]; first | (simp [*]; done) | (simp; intros; omega),rfl⟩
  ·have g0':¬ s.no ≥ 1:=g0;go_wp2_with fail;go_meet
   exact ⟨by rw [HA.o]; first | (simp [*]; done) | (simp; intros; omega),rfl⟩
 case rest =>
  obtain ⟨rfl,hw⟩:=hcut;rw [hw];clear hw HE d0 d1 df q1 HA;go_upto_region 3 with fail;go_cut [5] (fun v wx=>v=.bool (bB s)/\wx=W)
  case first =>
   by_cases g0:-1536<=s.sx
   ·have g0':s.sx ≥ -1536:=g0;by_cases g1:s.sx<=1536
    ·have g1':1536 ≥ s.sx:=g1;by_cases g2:-1536<=s.sy
     ·have g2':s.sy ≥ -1536:=g2;go_wp2_with fail;go_meet
      exact ⟨by rw [HB.o]; first | (simp [*]; done) | (simp; intros; omega),rfl⟩
     ·have g2':¬ s.sy ≥ -1536:=g2;go_wp2_with fail;go_meet
      exact ⟨by rw [HB.o]; first | (simp [*]; done) | (simp; intros; omega),rfl⟩
    ·have g1':¬ 1536 ≥ s.sx:=g1;go_wp2_with fail;go_meet
     exact ⟨by rw [HB.o]; first | (simp [*]; done) | (simp; intros; omega),rfl⟩
   ·have g0':¬ s.sx ≥ -1536:=g0;go_wp2_with fail;go_meet
    exact ⟨by rw [HB.o]; first | (simp [*]; done) | (simp; intros; omega),rfl⟩
  case rest =>
   obtain ⟨rfl,hw⟩:=hcut;rw [hw];clear hw HB;obtain ⟨A,eA⟩:∃ b,aB s=b:=⟨_,rfl⟩;obtain ⟨B,eB⟩:∃ b,bB s=b:=⟨_,rfl⟩;rw [eA,eB] at HC;rw [eA,eB];clear eA eB;cases A with
   | false =>
    go_wp2_with fail;go_ret;exact ⟨by rw [HC.o]; simp,HS1.o⟩
   | true =>
    cases B with
    | false =>
     go_wp2_with fail;go_ret;exact ⟨by rw [HC.o]; simp,HS1.o⟩
    | true =>
     by_cases g1:s.lf<1
     ·have HC2:Hid (Yx s=90):=hid (by rw [HC.o]; simp; omega);go_wp2_with fail;go_ret;exact ⟨by rw [HC2.o]; rfl,HS1.o⟩
     ·by_cases g2:s.lf > 40
      ·have HC2:Hid (Yx s=90):=hid (by rw [HC.o]; simp; omega);go_wp2_with fail;go_ret;exact ⟨by rw [HC2.o]; rfl,HS1.o⟩
      ·have HC2:Hid (Yx s=0):=hid (by rw [HC.o]; simp; omega);have g3:decide (40<s.lf)=false:=by simp; omega
       go_wp2_with fail;go_ret;exact ⟨by rw [HC2.o]; rfl,HS1.o⟩
theorem FB (p:Int) (w:World):Yb 123 #[.int .i64 p] w (.int .i64 (dmg p)):=by
 by_cases h1:p<1
 ·have e:dmg p=0:=by unfold dmg; rw [if_pos (.inl h1)]
  rw [e];go_enter Tryz.func123,Tryz.ntmps123;go_wp2_with fail;go_ret;exact ⟨rfl,rfl⟩
 ·by_cases h2:3<p
  ·have e:dmg p=0:=by unfold dmg; rw [if_pos (.inr h2)]
   have h2':p > 3:=h2;rw [e];go_enter Tryz.func123,Tryz.ntmps123;go_wp2_with fail;go_ret;exact ⟨rfl,rfl⟩
  ·have e:dmg p=15*p:=by unfold dmg; rw [if_neg (by omega)]
   have h2':decide (3<p)=false:=by simpa using h2
   rw [e];go_enter Tryz.func123,Tryz.ntmps123;go_wp2_with fail;go_ret;exact ⟨rfl,rfl⟩
end Go.Proofs.YthcjckgmdokmdaaGreatDoor
