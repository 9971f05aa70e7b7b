import Derived.Tactics2
import Derived.Test.YtcgmohldcokccaaGreatDoorXR02
import Derived.Deep.DeepCutAuto
import Derived.Test.YtcgmohldcokccaaGreatDoorProg
import Derived.OwnWalk
set_option linter.unusedVariables false
set_option maxHeartbeats 4000000
set_option maxRecDepth 100000
namespace Go.Proofs.YtcgmohldcokccaaGreatDoor
namespace Vp
def nmL:List ByteArray:=[⟨#[115,116,101,101,114]⟩,⟨#[104,97,108,116]⟩,⟨#[97,105,109]⟩,⟨#[102,105,114,101]⟩,⟨#[115,104,105,101,108,100]⟩,⟨#[100,97,115,104]⟩,⟨#[115,97,121]⟩]
def fsL:List ByteArray:=[⟨#[120]⟩,⟨#[]⟩,⟨#[116,111]⟩,⟨#[112,111,119,101,114]⟩,⟨#[111,110]⟩,⟨#[116,111]⟩,⟨#[119,104,97,116]⟩]
def loL:List Int:=[-8,0,0,1,0,0,0]
def hiL:List Int:=[8,0,15,3,1,15,255]
def nmB(i:Nat):ByteArray:=nmL.getD i ByteArray.empty
def fsB(i:Nat):ByteArray:=fsL.getD i ByteArray.empty
def lo(i:Nat):Int:=loL.getD i 0
def hi(i:Nat):Int:=hiL.getD i 0
def isV(v:Int):Bool:=decide (1<=v) && decide (v<=7)
def nmV(v:Int):ByteArray:=if isV v then nmB (v-1).toNat else ByteArray.empty
def opV(v:Int):List (ByteArray × Int × Int):=
 if isV v && v != 2 then(fsB (v-1).toNat,lo (v-1).toNat,hi (v-1).toNat) :: (if v=1 then [(⟨#[121]⟩,-8,8)]else [])else []
def okO(v a b c:Int):Bool:=decide (lo (v-1).toNat<=a) && decide (a<=hi (v-1).toNat) && (if v=1 then decide (-8<=b) && decide (b<=8)else decide (b=0)) && decide (c=0)
def YB(v a b c:Int):Int:=if isV v then(if okO v a b c then 0 else 71)else 70
theorem isV_iff{v:Int}:isV v=true ↔ 1<=v/\v<=7:=by unfold isV;simp
theorem isV_no{v:Int}:isV v=false ↔ v<1\/7<v:=by
 unfold isV;simp;omega
theorem JB{v:Int}(h:isV v=true):v=1\/v=2\/v=3\/v=4\/v=5\/v=6\/v=7:=by
 have:=isV_iff.1 h;omega
def dg(n:Nat):UInt8:=UInt8.ofNat (48+n % 10)
end Vp
namespace Np
open Pu Gp Ap Vp
structure Mv where
 ax:Int
 ay:Int
 sx:Int
 sy:Int
 px:Int
 py:Int
 fc:Int
 hl:Int
 en:Int
 sh:Bool
 co:Int
 ou:Int
 sd:Int
def May(m:Mv):Prop:=
 (-2147483647<=m.ax/\m.ax<=2147483647/\-2147483647<=m.ay/\m.ay<=2147483647)/\(-1024<=m.sx/\m.sx<=1024/\-1024<=m.sy/\m.sy<=1024)/\(-256<=m.px/\m.px<=256/\-256<=m.py/\m.py<=256) /\
 (0<=m.fc/\m.fc<=15)/\(0<=m.hl/\m.hl<=100)/\(0<=m.en/\m.en<=100)/\(0<=m.co/\m.co<=12)/\(0<=m.ou/\m.ou<=30)/\(0<=m.sd/\m.sd<=255) /\
 (m.ou=0->1<=m.hl)/\(m.ou≠0->m.sx=0/\m.sy=0/\m.px=0/\m.py=0/\m.hl=0/\m.en=0/\m.sh=false/\m.co=0)
def BJ(m:Mv):Decidable (May m):=by unfold May;infer_instance
def Yw(m:Mv):Bool:=@decide (May m) (BJ m)
theorem mayB_iff{m:Mv}:Yw m=true ↔ May m:=@decide_eq_true_iff (May m) (BJ m)
def zM:Mv:=⟨0,0,0,0,0,0,0,0,0,false,0,0,0⟩
def XH(x y f:Int):Mv:=⟨bnd x,bnd y,0,0,0,0,f % 16,100,50,false,0,0,0⟩
def YC(m:Mv):Int:=if Yw m then 0 else 80
def VY(m:Mv)(v a:Int):Bool:=(m.ou == 0) && (if v=4 then(m.co == 0) && decide (10*a<=m.en)else if v=5 then(a == 0) || decide (0<m.en)else if v=6 then decide (20<=m.en)else true)
def JC(m:Mv)(v a b:Int):Mv:=
 if v=1 then { m with px:=32*a,py:=32*b } else if v=2 then { m with px:=0,py:=0 } else if v=3 then { m with fc:=a } else if v=4 then { m with en:=m.en-10*a,co:=4*a }
 else if v=5 then { m with sh:=a == 1 } else if v=6 then { m with en:=m.en-20,sx:=Y7 (ux (a % 16).toNat) 1024,sy:=Y7 (uy (a % 16).toNat) 1024 } else { m with sd:=a }
def YU(m:Mv)(v a b c:Int):Int:=if Yw m then YB v a b c else 80
def Zt(m:Mv)(v a b c:Int):Bool:=(YU m v a b c == 0) && VY m v a
def YR(m:Mv)(v a b c:Int):Mv:=if YU m v a b c=0 then(if VY m v a then JC m v a b else m)else zM
def BK(sol:Int->Int->Bool)(x y p:Int):Int:=Yd (bnd x) (sgn (stp p)*(kX sol 1280 (bnd x) (bnd y) (stp p):Int))
def BL(sol:Int->Int->Bool)(x y p q:Int):Nat:=kY sol 1280 (BK sol x y p) (Yd (bnd y) 0) (stp q)
def Og(sol:Int->Int->Bool)(x y p q:Int):Int:=Yd (Yd (bnd y) 0) (sgn (stp q)*(BL sol x y p q:Int))
def BM(sol:Int->Int->Bool)(x y p q:Int):Int:=ZM (kX sol 1280 (bnd x) (bnd y) (stp p)) (stp p).natAbs (BL sol x y p q) (stp q).natAbs
def spd(s p:Int):Int:=Yl ((s*7).tdiv 8+p) (-1024) 1024
def UJ(sol:Int->Int->Bool)(m:Mv):Mv:=
  if m.ou=0 then
    { m with ax:=Yd (BK sol m.ax m.ay (spd m.sx m.px)) 0, ay:=Og sol m.ax m.ay (spd m.sx m.px) (spd m.sy m.py),
             sx:=if BM sol m.ax m.ay (spd m.sx m.px) (spd m.sy m.py) % 2=1 then -((spd m.sx m.px).tdiv 2)else spd m.sx m.px,
             sy:=if 2<=BM sol m.ax m.ay (spd m.sx m.px) (spd m.sy m.py)then -((spd m.sy m.py).tdiv 2)else spd m.sy m.py }
  else m
def Zl(sol:Int->Int->Bool)(m:Mv):Mv:=if Yw m then UJ sol m else zM
def tak(m:Mv)(h:Int):Int:=if m.sh then min m.en h else 0
def JD(m:Mv):Mv:=⟨m.ax,m.ay,0,0,0,0,m.fc,0,0,false,0,30,m.sd⟩
def JE(m:Mv)(h:Int):Bool:=(m.ou == 0) && decide (m.hl-(h-tak m h)<=0)
def YX(m:Mv)(h:Int):Int:=if Yw m then(if h<1\/100<h then 1 else 0)else 80
def UK(m:Mv)(h:Int):Mv:=if m.ou=0 then(if m.hl-(h-tak m h)<=0 then JD m else { m with en:=m.en-tak m h,sh:=m.sh && decide (0<m.en-tak m h),hl:=m.hl-(h-tak m h) })else m
def Zu(m:Mv)(h:Int):Mv:=if YX m h=0 then UK m h else zM
def Zh(m:Mv)(h:Int):Bool:=(YX m h == 0) && JE m h
def KJ(m:Mv)(x y:Int):Mv:=
 if m.ou=1 then { XH x y m.fc with sd:=m.sd } else if 1<m.ou then { m with ou:=m.ou-1 }
 else { m with co:=if 0<m.co then m.co-1 else m.co,en:=if m.sh then(if m.en-2<=0 then 0 else m.en-2)else if m.en<100 then m.en+1 else m.en,sh:=m.sh && decide (0<m.en-2) }
def ZU(m:Mv)(x y:Int):Mv:=if Yw m then KJ m x y else zM
def X5(m:Mv):Bool:=Yw m && (m.ou == 1)
theorem bnd_in(n:Int):-2147483647<=bnd n/\bnd n<=2147483647:=by
 unfold bnd;repeat' split
 all_goals omega
theorem bnd_id{n:Int}(h1:-2147483647<=n)(h2:n<=2147483647):bnd n=n:=by
 unfold bnd;rw[if_neg (by omega),if_neg (by omega)]
theorem BN(x y f:Int):May (XH x y f):=by
 have h1:=bnd_in x;have h2:=bnd_in y;unfold May XH;simp only;refine⟨⟨h1.1,h1.2,h2.1,h2.2⟩,?_⟩;simp;omega
theorem JF{v a b c:Int}(h:YB v a b c=0):(v=1/\-8<=a/\a<=8/\-8<=b/\b<=8)\/v=2\/(v=3/\0<=a/\a<=15)\/(v=4/\1<=a/\a<=3)\/(v=5/\0<=a/\a<=1)\/(v=6/\0<=a/\a<=15)\/(v=7/\0<=a/\a<=255):=by
 unfold YB at h;split at h
 ·rename_i hv;split at h
  ·rename_i ho;unfold okO at ho;simp only[Bool.and_eq_true,decide_eq_true_eq]at ho;obtain⟨⟨⟨h1,h2⟩,h3⟩,h4⟩:=ho;rcases JB hv with rfl|rfl|rfl|rfl|rfl|rfl|rfl<;>simp[lo,hi,loL,hiL]at h1 h2 h3⊢<;>omega
  ·cases h
 ·cases h
theorem Oh:∀d:Nat,d<16->(-1024<=Y7 (ux d) 1024/\Y7 (ux d) 1024<=1024)/\(-1024<=Y7 (uy d) 1024/\Y7 (uy d) 1024<=1024):=by decide
theorem Oi{m:Mv}{v a b c:Int}(hm:May m)(hc:YB v a b c=0)(hd:VY m v a=true):May (JC m v a b):=by
 have hu:=Oh (a % 16).toNat (by omega);have hr:=JF hc;unfold VY at hd;simp only[Bool.and_eq_true,beq_iff_eq]at hd;obtain⟨h0,hd⟩:=hd;obtain⟨g1,g2,g3,g4,g5,g6,g7,g8,g9,g10,g11⟩:=hm;have h1:=g10 h0;clear g10 g11;unfold JC;rcases hr with⟨rfl,hr⟩|rfl|⟨rfl,hr⟩|⟨rfl,hr⟩|⟨rfl,hr⟩|⟨rfl,hr⟩|⟨rfl,hr⟩<;>simp at hd⊢<;>refine⟨?_,?_,?_,?_,?_,?_,?_,?_,?_,?_,?_⟩<;>simp only<;>first|omega|(intro hh;omega)
theorem BO{m:Mv}{v a b c:Int}(he:YU m v a b c=0):May (YR m v a b c):=by
 have hm:May m:=by
  unfold YU at he;split at he
  ·exact mayB_iff.1 (by assumption)
  ·cases he
 have hc:YB v a b c=0:=by
  unfold YU at he;rw[if_pos (mayB_iff.2 hm)]at he;exact he
 unfold YR;rw[if_pos he];split
 ·exact Oi hm hc (by assumption)
 ·exact hm
theorem UL(s p:Int):-1024<=spd s p/\spd s p<=1024:=by
 unfold spd Yl;have h1:bnd (-1024)=-1024:=by decide
 have h2:bnd 1024=1024:=by decide
 rw[h1,h2];repeat' split
 all_goals omega
theorem BP{n:Int}(h1:-1024<=n)(h2:n<=1024):-1024 <= -(n.tdiv 2)/\-(n.tdiv 2)<=1024:=by
 rcases Int.le_total 0 n with h|h
 ·rw[Int.tdiv_eq_ediv_of_nonneg h];omega
 ·have e:n.tdiv 2=-((-n).tdiv 2):=by rw[Int.neg_tdiv];omega
  rw[e,Int.tdiv_eq_ediv_of_nonneg (by omega)];omega
theorem Oj{m:Mv}(sol:Int->Int->Bool)(hm:May m):May (Zl sol m):=by
 unfold Zl;rw[if_pos (mayB_iff.2 hm)];unfold UJ;split
 ·rename_i h0;obtain⟨g1,g2,g3,g4,g5,g6,g7,g8,g9,g10,g11⟩:=hm;have hs:=UL m.sx m.px;have ht:=UL m.sy m.py;have hs2:=BP hs.1 hs.2;have ht2:=BP ht.1 ht.2;refine⟨?_,?_,g3,g4,g5,g6,g7,g8,g9,g10,fun h=>absurd h0 h⟩
  ·exact⟨(bnd_in _).1,(bnd_in _).2,(bnd_in _).1,(bnd_in _).2⟩
  ·simp only;refine⟨?_,?_,?_,?_⟩<;>split<;>omega
 ·exact hm
theorem Ok{m:Mv}{h:Int}(hm:May m)(h1:1<=h):0<=tak m h/\tak m h<=m.en/\tak m h<=h:=by
 have:=hm.2.2.2.2.2.1;unfold tak;split<;>omega
theorem Ol{m:Mv}{h:Int}(he:YX m h=0):May (Zu m h):=by
 have hm:May m:=by
  unfold YX at he;split at he
  ·exact mayB_iff.1 (by assumption)
  ·cases he
 have hh:1<=h/\h<=100:=by
  unfold YX at he;rw[if_pos (mayB_iff.2 hm)]at he;split at he
  ·cases he
  ·omega
 unfold Zu;rw[if_pos he];have ht:=Ok hm hh.1;have hm0:=hm;obtain⟨g1,g2,g3,g4,g5,g6,g7,g8,g9,g10,g11⟩:=hm;unfold UK;split
 ·rename_i h0;split
  ·unfold JD May;simp only;refine⟨g1,?_⟩;simp;omega
  ·refine⟨g1,g2,g3,g4,?_,?_,g7,g8,g9,?_,fun h=>absurd h0 h⟩<;>simp only<;>omega
 ·exact hm0
theorem Om{m:Mv}(x y:Int)(hm:May m):May (ZU m x y):=by
 unfold ZU;rw[if_pos (mayB_iff.2 hm)];have hm0:=hm;obtain⟨g1,g2,g3,g4,g5,g6,g7,g8,g9,g10,g11⟩:=hm;unfold KJ;split
 ·have:=BN x y m.fc;obtain⟨k1,k2,k3,k4,k5,k6,k7,k8,k9,k10,k11⟩:=this;exact⟨k1,k2,k3,k4,k5,k6,k7,k8,g9,k10,k11⟩
 ·split
  ·obtain⟨e1,e2,e3,e4,e5,e6,e7,e8⟩:=g11 (by omega);refine⟨g1,g2,g3,g4,g5,g6,g7,?_,g9,?_,fun _=>⟨e1,e2,e3,e4,e5,e6,e7,e8⟩⟩<;>simp only<;>omega
  ·have h0:m.ou=0:=by omega
   refine⟨g1,g2,g3,g4,g5,?_,?_,g8,g9,g10,fun h=>absurd h0 h⟩<;>simp only
   ·repeat' split
    all_goals omega
   ·split<;>omega
end Np
section
open Go.RowKit
open Pu Gp Ap Vp Np
abbrev mcs(m:Mv):Array Value:=#[.int .i64 m.ax,.int .i64 m.ay,.int .i64 m.sx,.int .i64 m.sy,.int .i64 m.px,.int .i64 m.py,.int .i64 m.fc,.int .i64 m.hl,.int .i64 m.en,.bool m.sh,.int .i64 m.co,.int .i64 m.ou,.int .i64 m.sd]
abbrev mv(m:Mv):Value:=.agg (mcs m)
def Mb(w:World)(g:Nat)(m:Mv):Prop:=w.heap[g]?=some (.cells (mcs m) 59 (0,0))
theorem Mb.sT{w w':World}{g:Nat}{m:Mv}(h:Mb w g m)(hs:Yc w w'):Mb w' g m:=hs.kept_still h
theorem Mb.cells{w:World}{g:Nat}{m:Mv}(h:Mb w g m):w.cell? ⟨g,0,none⟩=some (.int .i64 m.ax)/\w.cell? ⟨g,1,none⟩=some (.int .i64 m.ay)/\w.cell? ⟨g,2,none⟩=some (.int .i64 m.sx)/\w.cell? ⟨g,3,none⟩=some (.int .i64 m.sy)/\w.cell? ⟨g,4,none⟩=some (.int .i64 m.px)/\w.cell? ⟨g,5,none⟩=some (.int .i64 m.py)/\w.cell? ⟨g,6,none⟩=some (.int .i64 m.fc)/\w.cell? ⟨g,7,none⟩=some (.int .i64 m.hl)/\w.cell? ⟨g,8,none⟩=some (.int .i64 m.en)/\w.cell? ⟨g,9,none⟩=some (.bool m.sh)/\w.cell? ⟨g,10,none⟩=some (.int .i64 m.co)/\w.cell? ⟨g,11,none⟩=some (.int .i64 m.ou)/\w.cell? ⟨g,12,none⟩=some (.int .i64 m.sd)/\∀o,w.frozen? ⟨g,o,none⟩=false:=by
 refine⟨?_,?_,?_,?_,?_,?_,?_,?_,?_,?_,?_,?_,?_,fun o=>frozen_of_row w g o _ _ h⟩<;>(rw[cell_of_row _ _ _ _ _ _ h];rfl)
abbrev XZ(w:World)(m:Mv):World:=w.alloc (.cells (mcs m) 59)
theorem Va(w:World)(m:Mv):Mb (XZ w m) w.heap.size m:=heap_alloc_new w _
abbrev setM(w:World)(g:Nat)(m:Mv):World:=(((((((((((((w.setCell ⟨g,0,none⟩ (.int .i64 m.ax)).setCell ⟨g,1,none⟩ (.int .i64 m.ay)).setCell ⟨g,2,none⟩ (.int .i64 m.sx)).setCell ⟨g,3,none⟩ (.int .i64 m.sy)).setCell ⟨g,4,none⟩ (.int .i64 m.px)).setCell ⟨g,5,none⟩ (.int .i64 m.py)).setCell ⟨g,6,none⟩ (.int .i64 m.fc)).setCell ⟨g,7,none⟩ (.int .i64 m.hl)).setCell ⟨g,8,none⟩ (.int .i64 m.en)).setCell ⟨g,9,none⟩ (.bool m.sh)).setCell ⟨g,10,none⟩ (.int .i64 m.co)).setCell ⟨g,11,none⟩ (.int .i64 m.ou)).setCell ⟨g,12,none⟩ (.int .i64 m.sd))
theorem Mb.set{w:World}{g:Nat}{m:Mv}(h0:Mb w g m)(n:Mv):Mb (setM w g n) g n:=by
 unfold Mb at h0⊢;have h1:=heap_setCell_same _ g 0 _ _ (.int .i64 n.ax) h0;have h2:=heap_setCell_same _ g 1 _ _ (.int .i64 n.ay) h1;have h3:=heap_setCell_same _ g 2 _ _ (.int .i64 n.sx) h2;have h4:=heap_setCell_same _ g 3 _ _ (.int .i64 n.sy) h3;have h5:=heap_setCell_same _ g 4 _ _ (.int .i64 n.px) h4;have h6:=heap_setCell_same _ g 5 _ _ (.int .i64 n.py) h5;have h7:=heap_setCell_same _ g 6 _ _ (.int .i64 n.fc) h6;have h8:=heap_setCell_same _ g 7 _ _ (.int .i64 n.hl) h7;have h9:=heap_setCell_same _ g 8 _ _ (.int .i64 n.en) h8;have h10:=heap_setCell_same _ g 9 _ _ (.bool n.sh) h9;have h11:=heap_setCell_same _ g 10 _ _ (.int .i64 n.co) h10;have h12:=heap_setCell_same _ g 11 _ _ (.int .i64 n.ou) h11;have h13:=heap_setCell_same _ g 12 _ _ (.int .i64 n.sd) h12;exact h13.trans (by kernel_rfl)
theorem On{fn:Func}{p u v:Tmp}{ty:TypeId}(h:fn.results=#[.cell p ty,.tmp u,.tmp v])(tmps:Array Value)(P:Program)(w:World) :
  (results fn tmps).run P w=((asAddr (tmps.getD p undef)).run P w).andThen fun a w₁=>((loadVar ty a).run P w₁).andThen fun x w₂=>.ok (.tuple #[x,tmps.getD u undef,tmps.getD v undef]) w₂:=by
 simp only[results,h];simp[Sem.run_bind,Result.andThen]
def eqM(m n:Mv):Bool:=(m.ax == n.ax) && (m.ay == n.ay) && (m.sx == n.sx) && (m.sy == n.sy) && (m.px == n.px) && (m.py == n.py) && (m.fc == n.fc) && (m.hl == n.hl) && (m.en == n.en) && (m.sh == n.sh) && (m.co == n.co) && (m.ou == n.ou) && (m.sd == n.sd)
theorem BQ(m:Mv):eqM m m=true:=by unfold eqM;simp
theorem Oo{m n:Mv}:eqM m n=true ↔ m=n:=by
 constructor
 ·intro h;unfold eqM at h;simp only[Bool.and_eq_true,beq_iff_eq]at h;cases m;cases n
  simp_all
 ·rintro rfl;exact BQ m
theorem ZF(d:Nat)(x y:Int)(w:World):(Op.equalIn (d+1) 3 (.int .i64 x) (.int .i64 y)).run Tryz.prog w=.ok (x == y) w:=by
 go_simp
theorem Oq(d:Nat)(x y:Bool)(w:World):(Op.equalIn (d+1) 4 (.bool x) (.bool y)).run Tryz.prog w=.ok (x == y) w:=by
 go_simp
theorem UM(m:Mv)(w:World):(part 57 (mcs m) 0).run Tryz.prog w=.ok (pt m.ax m.ay) w/\(part 57 (mcs m) 2).run Tryz.prog w=.ok (pt m.sx m.sy) w/\(part 57 (mcs m) 4).run Tryz.prog w=.ok (pt m.px m.py) w:=by
 refine⟨?_,?_,?_⟩<;>go_simp
theorem ZV(m:Mv)(w:World):(part 3 (mcs m) 6).run Tryz.prog w=.ok (.int .i64 m.fc) w/\(part 3 (mcs m) 7).run Tryz.prog w=.ok (.int .i64 m.hl) w/\(part 3 (mcs m) 8).run Tryz.prog w=.ok (.int .i64 m.en) w/\(part 3 (mcs m) 10).run Tryz.prog w=.ok (.int .i64 m.co) w/\(part 3 (mcs m) 11).run Tryz.prog w=.ok (.int .i64 m.ou) w/\(part 3 (mcs m) 12).run Tryz.prog w=.ok (.int .i64 m.sd) w/\(part 4 (mcs m) 9).run Tryz.prog w=.ok (.bool m.sh) w:=by
 refine⟨?_,?_,?_,?_,?_,?_,?_⟩<;>go_simp
def eqP(m n:Mv):Bool:=(m.ax == n.ax && m.ay == n.ay) && ((m.sx == n.sx && m.sy == n.sy) && ((m.px == n.px && m.py == n.py) && ((m.fc == n.fc) && ((m.hl == n.hl) && ((m.en == n.en) && ((m.sh == n.sh) && ((m.co == n.co) && ((m.ou == n.ou) && (m.sd == n.sd)))))))))
theorem Ot(m n:Mv):eqP m n=eqM m n:=by
 unfold eqP eqM;simp only[Bool.and_assoc]
theorem st{b c:Bool}{w:World}{R:Result Bool}(h:R=.ok c w):(if(!b)=true then Result.ok false w else R)=.ok (b && c) w:=by
 cases b<;>simp[h]
theorem st1(b:Bool){w:World}:(if(!b)=true then Result.ok false w else Result.ok true w)=.ok b w:=by
 cases b<;>rfl
theorem BR(m n:Mv)(w:World):(Op.equalIn 10000 59 (mv m) (mv n)).run Tryz.prog w=.ok (eqM m n) w:=by
 have a1:=fun w=>(UM m w).1;have a2:=fun w=>(UM m w).2.1;have a3:=fun w=>(UM m w).2.2;have b1:=fun w=>(UM n w).1;have b2:=fun w=>(UM n w).2.1;have b3:=fun w=>(UM n w).2.2;have q1:=fun w=>XT 9997 m.ax m.ay n.ax n.ay w;have q2:=fun w=>XT 9997 m.sx m.sy n.sx n.sy w;have q3:=fun w=>XT 9997 m.px m.py n.px n.py w;have c0:=fun w=>(ZV m w).1;have d0:=fun w=>(ZV n w).1;have r0:=fun w=>ZF 9998 m.fc n.fc w;have c1:=fun w=>(ZV m w).2.1;have d1:=fun w=>(ZV n w).2.1;have r1:=fun w=>ZF 9998 m.hl n.hl w;have c2:=fun w=>(ZV m w).2.2.1;have d2:=fun w=>(ZV n w).2.2.1;have r2:=fun w=>ZF 9998 m.en n.en w;have c3:=fun w=>(ZV m w).2.2.2.1;have d3:=fun w=>(ZV n w).2.2.2.1;have r3:=fun w=>ZF 9998 m.co n.co w;have c4:=fun w=>(ZV m w).2.2.2.2.1;have d4:=fun w=>(ZV n w).2.2.2.2.1;have r4:=fun w=>ZF 9998 m.ou n.ou w;have c5:=fun w=>(ZV m w).2.2.2.2.2.1;have d5:=fun w=>(ZV n w).2.2.2.2.2.1;have r5:=fun w=>ZF 9998 m.sd n.sd w;have c6:=fun w=>(ZV m w).2.2.2.2.2.2;have d6:=fun w=>(ZV n w).2.2.2.2.2.2;have r6:=fun w=>Oq 9998 m.sh n.sh w;rw[run_equalIn_struct w 9999 _ _ _ (by kernel_rfl) (by kernel_rfl)];have e : (Tryz.prog.fieldsOf 59) = #[⟨ "At", 57, 0, false, "", "", 0⟩, ⟨ "Speed", 57, 2, false, "", "", 16⟩, ⟨ "Push", 57, 4, false, "", "", 32⟩, ⟨ "Facing", 3, 6, false, "", "", 48⟩, ⟨ "Health", 3, 7, false, "", "", 56⟩, ⟨ "Energy", 3, 8, false, "", "", 64⟩, ⟨ "Shield", 4, 9, false, "", "", 72⟩, ⟨ "Cool", 3, 10, false, "", "", 80⟩, ⟨ "Out", 3, 11, false, "", "", 88⟩, ⟨ "Said", 3, 12, false, "", "", 96⟩]:=by kernel_rfl
 rw[e,<- Ot];simp only[Op.eqFields,ne_eq,String.reduceEq,not_false_eq_true,if_true,Sem.run_bind,a1,a2,a3,b1,b2,b3,c0,c1,c2,c3,c4,c5,c6,d0,d1,d2,d3,d4,d5,d6,Result.andThen_ok,q1,q2,q3,r0,r1,r2,r3,r4,r5,r6,Sem.run_ite,Sem.run_pure];unfold eqP;exact st (st (st (st (st (st (st (st (st (st1 _)))))))))
theorem BS(m n:Mv)(w:World):(binOp .eql 59 (mv m) (mv n)).run Tryz.prog w=.ok (.bool (eqM m n)) w:=by
 rw[run_eql_struct,BR];rfl
theorem Ou(m n:Mv)(w:World):(binOp .neq 59 (mv m) (mv n)).run Tryz.prog w=.ok (.bool (!(eqM m n))) w:=by
 rw[run_neq_struct,BR];rfl
theorem Ov(m:Mv)(w:World):(binOp .neq 59 (mv m) (mv m)).run Tryz.prog w=.ok (.bool false) w:=by
 rw[Ou,BQ];rfl
theorem GI(op:BinOp)(a b:Operand)(xs ys:Array Value)(w:World):(eqGuard op 59 a b (.agg xs) (.agg ys)).run Tryz.prog w=.ok () w:=run_eqGuard_agg w op _ a b xs ys (by kernel_rfl)
theorem Mb.put{w:World}{g:Nat}{m:Mv}(h:Mb w g m)(ax:Int)(ay:Int)(sx:Int)(sy:Int)(px:Int)(py:Int)(fc:Int)(hl:Int)(en:Int)(sh:Bool)(co:Int)(ou:Int)(sd:Int):Mb (((((((((((((w.setCell ⟨g,0,none⟩ (.int .i64 ax)).setCell ⟨g,1,none⟩ (.int .i64 ay)).setCell ⟨g,2,none⟩ (.int .i64 sx)).setCell ⟨g,3,none⟩ (.int .i64 sy)).setCell ⟨g,4,none⟩ (.int .i64 px)).setCell ⟨g,5,none⟩ (.int .i64 py)).setCell ⟨g,6,none⟩ (.int .i64 fc)).setCell ⟨g,7,none⟩ (.int .i64 hl)).setCell ⟨g,8,none⟩ (.int .i64 en)).setCell ⟨g,9,none⟩ (.bool sh)).setCell ⟨g,10,none⟩ (.int .i64 co)).setCell ⟨g,11,none⟩ (.int .i64 ou)).setCell ⟨g,12,none⟩ (.int .i64 sd)) g ⟨ax,ay,sx,sy,px,py,fc,hl,en,sh,co,ou,sd⟩:=h.set ⟨ax,ay,sx,sy,px,py,fc,hl,en,sh,co,ou,sd⟩
theorem Zv{x w:World}(h:Yc x w)(g o:Nat)(v:Value)(hb:x.heap.size<=g):Yc x (w.setCell ⟨g,o,none⟩ v):=h.setCell _ _ (.inr hb)
def amg(n l h:Int):Bool:=decide (l<=n) && decide (n<=h)
theorem amg_iff{n l h:Int}:amg n l h=true ↔ l<=n/\n<=h:=by unfold amg;simp
def mA(m:Mv):Bool:=(bnd m.ax == m.ax && bnd m.ay == m.ay) && amg m.sx (-1024) 1024 && amg m.sy (-1024) 1024
def mB(m:Mv):Bool:=amg m.px (-256) 256 && amg m.py (-256) 256 && amg m.fc 0 15
def mC(m:Mv):Bool:=amg m.hl 0 100 && amg m.en 0 100 && amg m.co 0 12 && amg m.ou 0 30 && amg m.sd 0 255
def Vb(m:Mv):Mv:=⟨m.ax,m.ay,0,0,0,0,m.fc,0,0,false,0,m.ou,m.sd⟩
def mD(m:Mv):Bool:=if m.ou=0 then decide (1<=m.hl)else eqM m (Vb m)
theorem bnd_is{n:Int}:bnd n=n ↔ -2147483647<=n/\n<=2147483647:=by
 unfold bnd;repeat' split
 all_goals omega
theorem BT(m:Mv):Yw m=(mA m && mB m && mC m && mD m):=by
 rw[Bool.eq_iff_iff,mayB_iff];unfold mA mB mC mD May;simp only[Bool.and_eq_true,beq_iff_eq,bnd_is,amg_iff];by_cases h0:m.ou=0
 ·rw[if_pos h0,decide_eq_true_eq];constructor
  ·rintro⟨g1,g2,g3,g4,g5,g6,g7,g8,g9,g10,g11⟩;have:=g10 h0;omega
  ·intro h;refine⟨?_,?_,?_,?_,?_,?_,?_,?_,?_,?_,fun h=>absurd h0 h⟩<;>omega
 ·rw[if_neg h0,Oo];constructor
  ·rintro⟨g1,g2,g3,g4,g5,g6,g7,g8,g9,g10,g11⟩;obtain⟨e1,e2,e3,e4,e5,e6,e7,e8⟩:=g11 h0;refine⟨by omega,?_⟩;cases m;simp_all[Vb]
  ·rintro⟨h,e⟩;have e1:m.sx=0:=by rw[e];rfl
   have e2:m.sy=0:=by rw[e];rfl
   have e3:m.px=0:=by rw[e];rfl
   have e4:m.py=0:=by rw[e];rfl
   have e5:m.hl=0:=by rw[e];rfl
   have e6:m.en=0:=by rw[e];rfl
   have e7:m.sh=false:=by rw[e];rfl
   have e8:m.co=0:=by rw[e];rfl
   clear e;refine⟨?_,?_,?_,?_,?_,?_,?_,?_,?_,fun h=>absurd h h0,fun _=>⟨e1,e2,e3,e4,e5,e6,e7,e8⟩⟩<;>omega
end
namespace Za
open Pu Gp Ap Vp Np
structure Sh where
 no:Int
 ow:Int
 pw:Int
 ax:Int
 ay:Int
 sx:Int
 sy:Int
 lf:Int
def ZP(s:Sh):Prop:=
 (1<=s.no/\s.no<=1099511627776)/\(0<=s.ow/\s.ow<=5)/\(1<=s.pw/\s.pw<=3)/\(-2147483647<=s.ax/\s.ax<=2147483647/\-2147483647<=s.ay/\s.ay<=2147483647) /\
 (-1536<=s.sx/\s.sx<=1536/\-1536<=s.sy/\s.sy<=1536)/\(1<=s.lf/\s.lf<=40)
def BU(s:Sh):Decidable (ZP s):=by unfold ZP;infer_instance
def YH(s:Sh):Bool:=@decide (ZP s) (BU s)
theorem maySB_iff{s:Sh}:YH s=true ↔ ZP s:=@decide_eq_true_iff (ZP s) (BU s)
def zS:Sh:=⟨0,0,0,0,0,0,0,0⟩
def YM(s:Sh):Int:=if YH s then 0 else 90
def dmg(p:Int):Int:=if p<1\/3<p then 0 else 15*p
def V3(ow pw no:Int):Bool:=decide (0<=ow) && decide (ow<=5) && decide (1<=pw) && decide (pw<=3) && decide (1<=no) && decide (no<=1099511627776)
theorem argB_iff{ow pw no:Int}:V3 ow pw no=true ↔ (0<=ow/\ow<=5)/\(1<=pw/\pw<=3)/\1<=no/\no<=1099511627776:=by
 unfold V3;simp only[Bool.and_eq_true,decide_eq_true_eq];omega
def ZQ(m:Mv)(ow pw no:Int):Int:=if Yw m then(if V3 ow pw no then 0 else 1)else 80
def JG(m:Mv)(ow pw no:Int):Sh:=⟨no,ow,pw,Yd m.ax (Y7 (ux (m.fc % 16).toNat) 1792),Yd m.ay (Y7 (uy (m.fc % 16).toNat) 1792),Y7 (ux (m.fc % 16).toNat) (256*(7-pw)),Y7 (uy (m.fc % 16).toNat) (256*(7-pw)),40⟩
def YV(m:Mv)(ow pw no:Int):Sh:=if ZQ m ow pw no=0 then JG m ow pw no else zS
def rn(s:Sh):Nat:=VV (stp s.sx) (stp s.sy)
def rk(sol:Int->Int->Bool)(s:Sh):Nat:=go (ZE sol (bnd s.ax) (bnd s.ay) (stp s.sx) (stp s.sy) (rn s)) (rn s)
def YY(sol:Int->Int->Bool)(s:Sh):Bool:=YH s && !(decide (rk sol s<rn s)) && !(s.lf == 1)
def VZ(sol:Int->Int->Bool)(s:Sh):Sh:={ s with ax:=rp (bnd s.ax) (stp s.sx) (rn s) (rk sol s),ay:=rp (bnd s.ay) (stp s.sy) (rn s) (rk sol s),lf:=s.lf-1 }
def Z6(sol:Int->Int->Bool)(s:Sh):Sh:=if YY sol s then VZ sol s else zS
theorem Ow:∀d,d<16->(-1536<=Y7 (ux d) 1024/\Y7 (ux d) 1024<=1536)/\-1536<=Y7 (uy d) 1024/\Y7 (uy d) 1024<=1536:=by decide
theorem Ox:∀d,d<16->(-1536<=Y7 (ux d) 1280/\Y7 (ux d) 1280<=1536)/\-1536<=Y7 (uy d) 1280/\Y7 (uy d) 1280<=1536:=by decide
theorem Oy:∀d,d<16->(-1536<=Y7 (ux d) 1536/\Y7 (ux d) 1536<=1536)/\-1536<=Y7 (uy d) 1536/\Y7 (uy d) 1536<=1536:=by decide
theorem Oz(d:Nat)(hd:d<16)(p:Int)(h1:1<=p)(h2:p<=3):(-1536<=Y7 (ux d) (256*(7-p))/\Y7 (ux d) (256*(7-p))<=1536)/\-1536<=Y7 (uy d) (256*(7-p))/\Y7 (uy d) (256*(7-p))<=1536:=by
 have e:p=1\/p=2\/p=3:=by omega
 rcases e with rfl|rfl|rfl
 ·exact Oy d hd
 ·exact Ox d hd
 ·exact Ow d hd
theorem O0{m:Mv}{ow pw no:Int}(h:V3 ow pw no=true):ZP (JG m ow pw no):=by
 obtain⟨h1,h2,h3⟩:=argB_iff.1 h;have hd:(m.fc % 16).toNat<16:=by omega
 have hk:=Oz (m.fc % 16).toNat hd pw h2.1 h2.2;exact⟨h3,h1,h2,⟨Yn _,Yo _,Yn _,Yo _⟩,⟨hk.1.1,hk.1.2,hk.2.1,hk.2.2⟩,by show(1:Int)<=40;omega,by show(40:Int)<=40;omega⟩
theorem O5{sol:Int->Int->Bool}{s:Sh}(h:YY sol s=true):ZP s/\rk sol s=rn s/\s.lf≠1:=by
 unfold YY at h;simp only[Bool.and_eq_true,Bool.not_eq_true',decide_eq_false_iff_not,beq_eq_false_iff_ne]at h;have:=UE (ZE sol (bnd s.ax) (bnd s.ay) (stp s.sx) (stp s.sy) (rn s)) (rn s);exact⟨maySB_iff.1 h.1.1,by have h2:=h.1.2;unfold rk at h2⊢;omega,h.2⟩
theorem BV{X p:Int}{n j:Nat}(hX:Z5 X):Z5 (rp X p n j):=by
 unfold rp;split
 ·exact hX
 ·exact Gz _ _
theorem O6{sol:Int->Int->Bool}{s:Sh}(h:YY sol s=true):ZP (VZ sol s):=by
 obtain⟨⟨h1,h2,h3,h4,h5,h6⟩,_,h7⟩:=O5 h;have a:=BV (X:=bnd s.ax) (p:=stp s.sx) (n:=rn s) (j:=rk sol s) ⟨Yn _,Yo _⟩;have b:=BV (X:=bnd s.ay) (p:=stp s.sy) (n:=rn s) (j:=rk sol s) ⟨Yn _,Yo _⟩;exact⟨h1,h2,h3,⟨a.1,a.2,b.1,b.2⟩,h5,by show 1<=s.lf-1;omega,by show s.lf-1<=40;omega⟩
end Za
section
open Go.RowKit
open Pu Gp Ap Vp Np Za
abbrev scs(m:Sh):Array Value:=#[.int .i64 m.no,.int .i64 m.ow,.int .i64 m.pw,.int .i64 m.ax,.int .i64 m.ay,.int .i64 m.sx,.int .i64 m.sy,.int .i64 m.lf]
abbrev sv(m:Sh):Value:=.agg (scs m)
def Sb(w:World)(g:Nat)(m:Sh):Prop:=w.heap[g]?=some (.cells (scs m) 69 (0,0))
theorem Sb.sT{w w':World}{g:Nat}{m:Sh}(h:Sb w g m)(hs:Yc w w'):Sb w' g m:=hs.kept_still h
theorem Sb.cells{w:World}{g:Nat}{m:Sh}(h:Sb w g m):w.cell? ⟨g,0,none⟩=some (.int .i64 m.no)/\w.cell? ⟨g,1,none⟩=some (.int .i64 m.ow)/\w.cell? ⟨g,2,none⟩=some (.int .i64 m.pw)/\w.cell? ⟨g,3,none⟩=some (.int .i64 m.ax)/\w.cell? ⟨g,4,none⟩=some (.int .i64 m.ay)/\w.cell? ⟨g,5,none⟩=some (.int .i64 m.sx)/\w.cell? ⟨g,6,none⟩=some (.int .i64 m.sy)/\w.cell? ⟨g,7,none⟩=some (.int .i64 m.lf)/\∀o,w.frozen? ⟨g,o,none⟩=false:=by
 refine⟨?_,?_,?_,?_,?_,?_,?_,?_,fun o=>frozen_of_row w g o _ _ h⟩<;>(rw[cell_of_row _ _ _ _ _ _ h];rfl)
abbrev KK(w:World)(m:Sh):World:=w.alloc (.cells (scs m) 69)
theorem Ua(w:World)(m:Sh):Sb (KK w m) w.heap.size m:=heap_alloc_new w _
theorem Sb.put{w:World}{g:Nat}{m:Sh}(h0:Sb w g m)(no:Int)(ow:Int)(pw:Int)(ax:Int)(ay:Int)(sx:Int)(sy:Int)(lf:Int):Sb ((((((((w.setCell ⟨g,0,none⟩ (.int .i64 no)).setCell ⟨g,1,none⟩ (.int .i64 ow)).setCell ⟨g,2,none⟩ (.int .i64 pw)).setCell ⟨g,3,none⟩ (.int .i64 ax)).setCell ⟨g,4,none⟩ (.int .i64 ay)).setCell ⟨g,5,none⟩ (.int .i64 sx)).setCell ⟨g,6,none⟩ (.int .i64 sy)).setCell ⟨g,7,none⟩ (.int .i64 lf)) g ⟨no,ow,pw,ax,ay,sx,sy,lf⟩:=by
 unfold Sb at h0⊢;have h1:=heap_setCell_same _ g 0 _ _ (.int .i64 no) h0;have h2:=heap_setCell_same _ g 1 _ _ (.int .i64 ow) h1;have h3:=heap_setCell_same _ g 2 _ _ (.int .i64 pw) h2;have h4:=heap_setCell_same _ g 3 _ _ (.int .i64 ax) h3;have h5:=heap_setCell_same _ g 4 _ _ (.int .i64 ay) h4;have h6:=heap_setCell_same _ g 5 _ _ (.int .i64 sx) h5;have h7:=heap_setCell_same _ g 6 _ _ (.int .i64 sy) h6;have h8:=heap_setCell_same _ g 7 _ _ (.int .i64 lf) h7;exact h8.trans (by kernel_rfl)
def eqS(m n:Sh):Bool:=(m.no == n.no) && (m.ow == n.ow) && (m.pw == n.pw) && (m.ax == n.ax) && (m.ay == n.ay) && (m.sx == n.sx) && (m.sy == n.sy) && (m.lf == n.lf)
theorem O7(m:Sh):eqS m m=true:=by unfold eqS;simp
def GJ(m n:Sh):Bool:=(m.no == n.no) && ((m.ow == n.ow) && ((m.pw == n.pw) && ((m.ax == n.ax && m.ay == n.ay) && ((m.sx == n.sx && m.sy == n.sy) && (m.lf == n.lf)))))
theorem O8(m n:Sh):GJ m n=eqS m n:=by
 unfold GJ eqS;simp only[Bool.and_assoc]
theorem KL(m:Sh)(w:World):(part 57 (scs m) 3).run Tryz.prog w=.ok (pt m.ax m.ay) w/\(part 57 (scs m) 5).run Tryz.prog w=.ok (pt m.sx m.sy) w:=by
 refine⟨?_,?_⟩<;>go_simp
theorem V4(m:Sh)(w:World):(part 3 (scs m) 0).run Tryz.prog w=.ok (.int .i64 m.no) w/\(part 3 (scs m) 1).run Tryz.prog w=.ok (.int .i64 m.ow) w/\(part 3 (scs m) 2).run Tryz.prog w=.ok (.int .i64 m.pw) w/\(part 3 (scs m) 7).run Tryz.prog w=.ok (.int .i64 m.lf) w:=by
 refine⟨?_,?_,?_,?_⟩<;>go_simp
theorem O9(m n:Sh)(w:World):(Op.equalIn 10000 69 (sv m) (sv n)).run Tryz.prog w=.ok (eqS m n) w:=by
 have a1:=fun w=>(KL m w).1;have a2:=fun w=>(KL m w).2;have b1:=fun w=>(KL n w).1;have b2:=fun w=>(KL n w).2;have q1:=fun w=>XT 9997 m.ax m.ay n.ax n.ay w;have q2:=fun w=>XT 9997 m.sx m.sy n.sx n.sy w;have c0:=fun w=>(V4 m w).1;have d0:=fun w=>(V4 n w).1;have r0:=fun w=>ZF 9998 m.no n.no w;have c1:=fun w=>(V4 m w).2.1;have d1:=fun w=>(V4 n w).2.1;have r1:=fun w=>ZF 9998 m.ow n.ow w;have c2:=fun w=>(V4 m w).2.2.1;have d2:=fun w=>(V4 n w).2.2.1;have r2:=fun w=>ZF 9998 m.pw n.pw w;have c3:=fun w=>(V4 m w).2.2.2;have d3:=fun w=>(V4 n w).2.2.2;have r3:=fun w=>ZF 9998 m.lf n.lf w;rw[run_equalIn_struct w 9999 _ _ _ (by kernel_rfl) (by kernel_rfl)];have e : (Tryz.prog.fieldsOf 69) = #[⟨ "No", 3, 0, false, "", "", 0⟩, ⟨ "Owner", 3, 1, false, "", "", 8⟩, ⟨ "Power", 3, 2, false, "", "", 16⟩, ⟨ "At", 57, 3, false, "", "", 24⟩, ⟨ "Speed", 57, 5, false, "", "", 40⟩, ⟨ "Left", 3, 7, false, "", "", 56⟩]:=by kernel_rfl
 rw[e,<- O8];simp only[Op.eqFields,ne_eq,String.reduceEq,not_false_eq_true,if_true,Sem.run_bind,a1,a2,b1,b2,c0,c1,c2,c3,d0,d1,d2,d3,Result.andThen_ok,q1,q2,r0,r1,r2,r3,Sem.run_ite,Sem.run_pure];unfold GJ;exact st (st (st (st (st (st1 _)))))
theorem OA(m n:Sh)(w:World):(binOp .eql 69 (sv m) (sv n)).run Tryz.prog w=.ok (.bool (eqS m n)) w:=by
 rw[run_eql_struct,O9];rfl
theorem OC(m:Sh)(w:World):(binOp .eql 69 (sv m) (sv m)).run Tryz.prog w=.ok (.bool true) w:=by
 rw[OA,O7]
theorem OD(op:BinOp)(a b:Operand)(xs ys:Array Value)(w:World):(eqGuard op 69 a b (.agg xs) (.agg ys)).run Tryz.prog w=.ok () w:=run_eqGuard_agg w op _ a b xs ys (by kernel_rfl)
end
section
open Go.RowKit
open Vp
abbrev od(v a b c:Int):Value:=.agg #[.int .i64 v,.int .i64 a,.int .i64 b,.int .i64 c]
def Orb(w:World)(g:Nat)(v a b c:Int):Prop:=w.heap[g]?=some (.cells #[.int .i64 v,.int .i64 a,.int .i64 b,.int .i64 c] 61 (0,0))
theorem Orb.sT{w w':World}{g:Nat}{v a b c:Int}(h:Orb w g v a b c)(hs:Yc w w'):Orb w' g v a b c:=hs.kept_still h
theorem Orb.cells{w:World}{g:Nat}{v a b c:Int}(h:Orb w g v a b c) :
  w.cell? ⟨g,0,none⟩=some (.int .i64 v)/\w.cell? ⟨g,1,none⟩=some (.int .i64 a)/\w.cell? ⟨g,2,none⟩=some (.int .i64 b)/\w.cell? ⟨g,3,none⟩=some (.int .i64 c)/\∀o,w.frozen? ⟨g,o,none⟩=false:=by
 refine⟨?_,?_,?_,?_,fun o=>frozen_of_row w g o _ _ h⟩<;>(rw[cell_of_row _ _ _ _ _ _ h];rfl)
abbrev BW(w:World)(v a b c:Int):World:=w.alloc (.cells #[.int .i64 v,.int .i64 a,.int .i64 b,.int .i64 c] 61)
theorem JH(w:World)(v a b c:Int):Orb (BW w v a b c) w.heap.size v a b c:=heap_alloc_new w _
abbrev setO(w:World)(g:Nat)(v a b c:Int):World:=(((w.setCell ⟨g,0,none⟩ (.int .i64 v)).setCell ⟨g,1,none⟩ (.int .i64 a)).setCell ⟨g,2,none⟩ (.int .i64 b)).setCell ⟨g,3,none⟩ (.int .i64 c)
def YS(ps:List (ByteArray × Int × Int)):List Value:=ps.flatMap fun p=>[.string p.1,.int .i64 p.2.1,.int .i64 p.2.2]
theorem OE(ps qs:List (ByteArray × Int × Int)):YS (ps ++ qs)=YS ps ++ YS qs:=by simp[YS]
theorem OG(ps:List (ByteArray × Int × Int)):∀u∈YS ps,u.oneCell'=true:=by
 intro u hu;simp only[YS,List.mem_flatMap]at hu;obtain⟨p,_,hp⟩:=hu;simp at hp;rcases hp with rfl|rfl|rfl<;>rfl
theorem BX:∀(ps:List (ByteArray × Int × Int)) (j:Nat) (h:j<ps.length),(YS ps)[j*3]?=some (.string (ps[j]).1)/\(YS ps)[j*3+1]?=some (.int .i64 (ps[j]).2.1)/\(YS ps)[j*3+2]?=some (.int .i64 (ps[j]).2.2)
 | [],j,h=>by simp at h
 | p :: l,0,h=>by simp[YS]
 | p :: l,j+1,h=>by
  have ih:=BX l j (by simpa using h);have e:YS (p :: l)=[.string p.1,.int .i64 p.2.1,.int .i64 p.2.2] ++ YS l:=by simp[YS]
  rw[e];rw[List.getElem?_append_right (by simp;omega),List.getElem?_append_right (by simp;omega),List.getElem?_append_right (by simp;omega)];simp only[List.length_cons,List.length_nil,List.getElem_cons_succ];rw[show(j+1)*3-(0+1+1+1)=j*3 by omega,show(j+1)*3+1-(0+1+1+1)=j*3+1 by omega,show(j+1)*3+2-(0+1+1+1)=j*3+2 by omega];exact ih
def OwO(w:World)(B:Nat)(v:Value)(ps:List (ByteArray × Int × Int)):Prop:=w.ownsRow B 218 3 v ps.length (YS ps)
theorem OwO.nil(w:World)(B:Nat):OwO w B (.slice none 0 0) []:=World.ownsRow_nil w B _ 3
theorem OwO.keep{F:Nat->Prop}{w w':World}{B:Nat}{v:Value}{ps:List (ByteArray × Int × Int)}(h:OwO w B v ps)(hf:Fr F w w')(hF:∀k,F k->v.ownBlock≠some k):OwO w' B v ps:=by
 refine⟨h.1,?_⟩;rcases h.2 with hn|⟨g,cap,cur,rfl,hb,hg,rest⟩
 ·exact .inl hn
 ·exact .inr ⟨g,cap,cur,rfl,hb,hf.kept hg (fun h=>hF g h rfl),rest⟩
theorem OwO.sT{w w':World}{B:Nat}{v:Value}{ps:List (ByteArray × Int × Int)}(h:OwO w B v ps)(hf:Yc w w'):OwO w' B v ps:=h.keep hf (fun _ e=>e.elim)
theorem OwO.alloc{w:World}{B:Nat}{v:Value}{ps:List (ByteArray × Int × Int)}(h:OwO w B v ps)(o:Obj):OwO (w.alloc o) B v ps:=h.sT (sA w o)
theorem OwO.less{w:World}{B B':Nat}{v:Value}{ps:List (ByteArray × Int × Int)}(h:OwO w B v ps)(hb:B' <= B):OwO w B' v ps:=by
 refine⟨h.1,?_⟩;rcases h.2 with hn|⟨g,cap,cur,rfl,hg,rest⟩
 ·exact .inl hn
 ·exact .inr ⟨g,cap,cur,rfl,by omega,rest⟩
theorem OwO.slice{w:World}{B:Nat}{v:Value}{ps:List (ByteArray × Int × Int)}(h:OwO w B v ps):∃ao cap,v=.slice ao ps.length cap/\(ao=none \/ ∃g,ao=some ⟨g,0,none⟩/\B<=g/\g<w.heap.size):=by
 rcases h.2 with⟨rfl,hn⟩|⟨g,cap,cur,rfl,hb,hg,rest⟩
 ·exact⟨none,0,by rw[hn],.inl rfl⟩
 ·exact⟨_,cap,rfl,.inr ⟨g,rfl,hb,Yz hg⟩⟩
theorem OwO.block{w:World}{B k:Nat}{v:Value}{ps:List (ByteArray × Int × Int)}(h:OwO w B v ps)(hk:v.ownBlock=some k):B<=k/\k<w.heap.size:=h.lt k hk
theorem OwO.head{w:World}{B:Nat}{v:Value}{ps:List (ByteArray × Int × Int)}(h:OwO w B v ps)(hn:0<ps.length):∃g cap,v=.slice (some ⟨g,0,none⟩) ps.length cap/\B<=g/\g<w.heap.size:=by
 rcases h.2 with⟨rfl,h0⟩|⟨g,cap,cur,rfl,hb,hg,rest⟩
 ·omega
 ·exact⟨g,cap,rfl,hb,Yz hg⟩
theorem OwO.cell{w:World}{B g n cap:Nat}{ps:List (ByteArray × Int × Int)}(h:OwO w B (.slice (some ⟨g,0,none⟩) n cap) ps)(j:Nat)(hj:j<ps.length) :
  w.cell? ⟨g,j*3,none⟩=some (.string (ps[j]).1)/\w.cell? ⟨g,j*3+1,none⟩=some (.int .i64 (ps[j]).2.1)/\w.cell? ⟨g,j*3+2,none⟩=some (.int .i64 (ps[j]).2.2)/\∀o,w.frozen? ⟨g,o,none⟩=false:=by
 obtain⟨h1,h2,h3⟩:=BX ps j hj;have k1:=World.ownsRow.cells h (g:=g) rfl _ _ h1;have k2:=World.ownsRow.cells h (g:=g) rfl _ _ h2;have k3:=World.ownsRow.cells h (g:=g) rfl _ _ h3;rw[add_plain,Nat.zero_add]at k1 k2 k3;refine⟨k1,k2,k3,fun o=>?_⟩;rcases h.2 with⟨hv,_⟩|⟨g',cap',cur,hv,hb,hg,rest⟩
 ·cases hv
 ·cases hv;exact frozen_of_row w g o _ _ hg
def Opb(w:World)(g:Nat)(s:ByteArray)(x y:Int):Prop:=w.heap[g]?=some (.cells #[.string s,.int .i64 x,.int .i64 y] 218 (0,0))
theorem Opb.cells{w:World}{g:Nat}{s:ByteArray}{x y:Int}(h:Opb w g s x y) :
  w.cell? ⟨g,0,none⟩=some (.string s)/\w.cell? ⟨g,1,none⟩=some (.int .i64 x)/\w.cell? ⟨g,2,none⟩=some (.int .i64 y)/\∀o,w.frozen? ⟨g,o,none⟩=false:=by
 refine⟨?_,?_,?_,fun o=>frozen_of_row w g o _ _ h⟩<;>(rw[cell_of_row _ _ _ _ _ _ h];rfl)
abbrev KO(w:World)(s:ByteArray)(x y:Int):World:=w.alloc (.cells #[.string s,.int .i64 x,.int .i64 y] 218)
theorem XI(w:World)(s:ByteArray)(x y:Int):Opb (KO w s x y) w.heap.size s x y:=heap_alloc_new w _
theorem OwO.one{w:World}{g B:Nat}{s:ByteArray}{x y:Int}(h:Opb w g s x y)(hB:B<=g):OwO w B (.slice (some ⟨g,0,none⟩) 1 1) [(s,x,y)]:=
 ⟨rfl,.inr ⟨g,1,_,rfl,hB,h,by simp,by simp[maxLen],rfl,rfl⟩⟩
theorem OH:(Tryz.prog.info? 218).map (fun i=>(i.zero,i.size,i.bytes))=some (some (.agg #[.string ByteArray.empty,.int .i64 0,.int .i64 0]),3,32):=by kernel_rfl
theorem OI:∃i,Tryz.prog.info? 218=some i/\i.zero=some (.agg #[.string ByteArray.empty,.int .i64 0,.int .i64 0])/\i.size=3/\i.bytes=32:=info_parts OH
theorem OJ(w:World){ops:Array Oper}{rest:List Oper}{o:Oper}{a:Act}{Q:Exit->Act->World->Prop}(hgd:o.guard=none)(s x:Operand)
  (hop:o.op=.call { callee:=.builtin .append,args:=#[s,x],argTypes:=#[210,210] })
  (B g:Nat) (v:Value) (ps:List (ByteArray × Int × Int)) (n:ByteArray) (p q:Int) (hs:a.eval s=v) (hx:a.eval x=.slice (some ⟨g,0,none⟩) 1 1) (ho:OwO w B v ps) (hr:Opb w g n p q) (h47:ps.length<=100000) (hB:B<=w.heap.size)
  (h:∀v' w',OwO w' B v' (ps ++ [(n,p,q)])->Fr (fun k=>v.ownBlock=some k) w w'->wpList Tryz.prog ops Q rest (a.put o.dst v') w'):wpList Tryz.prog ops Q (o :: rest) a w:=by
 obtain⟨i,hi,hz,h1,h2⟩:=OI;refine wpList_append_own (P:=Tryz.prog) w hgd s x 210 hop B 218 i (.agg #[.string ByteArray.empty,.int .i64 0,.int .i64 0]) 3 32 Tryz.underlying210 hi hz h1 h2 rfl (by omega) v ps.length (YS ps) hs ho ⟨g,0,none⟩ 1 1 (YS [(n,p,q)]) hx rfl ?_ (OG _) (by unfold maxLen;omega) (by omega) hB ?_
 ·intro j u hu;rw[add_plain,Nat.zero_add];have hj:j<3:=by
   have:=(List.getElem?_eq_some_iff.1 hu).1;simpa[YS]using this
  rcases(show j=0\/j=1\/j=2 by omega)with rfl|rfl|rfl
  ·simp[YS]at hu;subst hu;exact hr.cells.1
  ·simp[YS]at hu;subst hu;exact hr.cells.2.1
  ·simp[YS]at hu;subst hu;exact hr.cells.2.2.1
 ·intro v' w' hown hgr _;refine h v' w' ?_ ⟨hgr.os,hgr.tape,hgr.output,hgr.size,fun k hk hn=>hgr.block k hk (fun e=>hn e.symm)⟩;unfold OwO;rw[OE,List.length_append];exact hown
theorem OK{w0 w w':World}{B:Nat}{v:Value}{ps:List (ByteArray × Int × Int)}(hs:Yc w0 w)(ho:OwO w B v ps)(hf:Fr (fun k=>v.ownBlock=some k) w w')(hB:w0.heap.size<=B):Yc w0 w':=
 Fr.trans hs hf (fun k hk e=>by have:=(ho.block e).1;omega)
structure OTab (w:World):Prop where
 fs:∀d,d<7->w.cell? ⟨2,d,none⟩=some (.string (fsB d))
 lo:∀d,d<7->w.cell? ⟨3,d,none⟩=some (.int .i64 (lo d))
 hi:∀d,d<7->w.cell? ⟨4,d,none⟩=some (.int .i64 (hi d))
theorem OTab.sT{w w':World} /- 188 -/(h:OTab w)(hs:Yc w w'):OTab w':=
 ⟨fun d hd=>(hs.cell (World.block_lt_of_cell? w _ (h.fs d hd)) (fun e=>e)).trans (h.fs d hd),fun d hd=>(hs.cell (World.block_lt_of_cell? w _ (h.lo d hd)) (fun e=>e)).trans (h.lo d hd),fun d hd=>(hs.cell (World.block_lt_of_cell? w _ (h.hi d hd)) (fun e=>e)).trans (h.hi d hd)⟩
theorem XJ(v:Int)(w:World):Yb 187 #[.int .i64 v] w (.bool (isV v)):=by
 by_cases h1:1<=v
 ·by_cases h2:v<=7
  ·rw[isV_iff.2 ⟨h1,h2⟩];go_enter Tryz.func187,Tryz.ntmps187;go_wp2_with fail;go_ret;exact⟨rfl,rfl⟩
  ·have HE:=hid (isV_no.2 (.inr (show 7<v by omega)));have hd:decide (v<=7)=false:=by simp;omega
   rw[HE.o];go_enter Tryz.func187,Tryz.ntmps187;go_wp2_with fail;go_ret;first|exact⟨rfl,rfl⟩|(rw[hd];exact⟨rfl,rfl⟩)
 ·rw[isV_no.2 (.inl (show v<1 by omega))];go_enter Tryz.func187,Tryz.ntmps187;go_wp2_with fail;go_ret;exact⟨rfl,rfl⟩
theorem OL(v:Int)(hv:isV v=false)(w:World):Calls Tryz.prog 188 #[.int .i64 v] w fun e w'=>∃x,e=.returned x/\OwO w' w.heap.size x (opV v)/\Yc w w':=by
 have H:=hid (fun u=>XJ v u);rw[hv]at H;have HE:=hid (show opV v=[] by unfold opV;rw[hv];rfl);clear hv;go_enter Tryz.func188,Tryz.ntmps188;go_wp2_with (go_at_call 187;refine(H.o _).mono ?_;rintro e w' ⟨he,hw⟩;rw[he,hw];clear he hw w');go_ret;exact⟨_,rfl,by rw[HE.o];exact OwO.nil _ _,Fr.refl _ _⟩
theorem OM(w:World)(ht:OTab w):Calls Tryz.prog 188 #[.int .i64 2] w fun e w'=>∃x,e=.returned x/\OwO w' w.heap.size x (opV 2)/\Yc w w':=by
 have H:=hid (fun u=>XJ 2 u);rw[show isV 2=true by decide]at H;have c:=ht.fs 1 (by omega);rw[show fsB 1=⟨#[]⟩from rfl]at c;have HE:=hid (show opV 2=[] by decide);go_enter Tryz.func188,Tryz.ntmps188;go_wp2_with (go_at_call 187;refine(H.o _).mono ?_;rintro e w' ⟨he,hw⟩;rw[he,hw];clear he hw w');go_ret;exact⟨_,rfl,by rw[HE.o];exact OwO.nil _ _,Fr.refl _ _⟩
theorem ON(w:World)(ht:OTab w):Calls Tryz.prog 188 #[.int .i64 1] w fun e w'=>∃x,e=.returned x/\OwO w' w.heap.size x (opV 1)/\Yc w w':=by
 have H:=hid (fun u=>XJ 1 u);rw[show isV 1=true by decide]at H;have k0:=ht.fs 0 (by omega);have k1:=ht.lo 0 (by omega);have k2:=ht.hi 0 (by omega);rw[show fsB 0=⟨#[120]⟩from rfl]at k0;rw[show lo 0=(-8)from rfl]at k1;rw[show hi 0=8 from rfl]at k2;have c0:=kC k0;have c1:=kC k1;have c2:=kC k2;have hne:=Aft.here w;go_enter Tryz.func188,Tryz.ntmps188;go_wp2_with (go_at_call 187;refine(H.o _).mono ?_;rintro e w' ⟨he,hw⟩;rw[he,hw];clear he hw w');clear k0 k1 k2;refine Yp 13 (by kernel_rfl) (by kernel_rfl) ?_;simp only[tkd];repeat(go_big_quiet_step (fail))
 refine wpQuiet_nil ?_;intro w1 h1;clear c0 c1 c2 hne;have o1:=XI w1 ⟨#[120]⟩ (-8) 8;have r1:=OwO.one (B:=w.heap.size) o1 h1.size;have HS1:=hid (h1.trans (sA w1 (.cells #[.string ⟨#[120]⟩,.int .i64 (-8),.int .i64 8] 218)));have HE:=hid (show opV 1=[(⟨#[120]⟩,(-8),8)] ++ [(⟨#[121]⟩,-8,8)]from rfl);have HR:=hid (r1.alloc (.cells #[.string ⟨#[121]⟩,.int .i64 (-8),.int .i64 8] 218));have HO:=hid (XI (KO w1 ⟨#[120]⟩ (-8) 8) ⟨#[121]⟩ (-8) 8);have HS2:=hid (HS1.o.trans (sA (KO w1 ⟨#[120]⟩ (-8) 8) (.cells #[.string ⟨#[121]⟩,.int .i64 (-8),.int .i64 8] 218)));clear o1 r1 HS1;go_wp2_with (at_builtin;refine OJ _ rfl _ _ rfl w.heap.size (KO w1 ⟨#[120]⟩ (-8) 8).heap.size _ [(⟨#[120]⟩,(-8),8)] ⟨#[121]⟩ (-8) 8 rfl (by simp;rfl) HR.o HO.o (by simp) HS2.o.size ?_;intro v' w' ho' hf');have HS3:=hid (OK HS2.o HR.o hf' (Nat.le_refl _));go_ret;exact⟨_,rfl,by rw[HE.o];exact ho',HS3.o⟩
theorem OO(w:World)(ht:OTab w):Calls Tryz.prog 188 #[.int .i64 3] w fun e w'=>∃x,e=.returned x/\OwO w' w.heap.size x (opV 3)/\Yc w w':=by
 have H:=hid (fun u=>XJ 3 u);rw[show isV 3=true by decide]at H;have k0:=ht.fs 2 (by omega);have k1:=ht.lo 2 (by omega);have k2:=ht.hi 2 (by omega);rw[show fsB 2=⟨#[116,111]⟩from rfl]at k0;rw[show lo 2=0 from rfl]at k1;rw[show hi 2=15 from rfl]at k2;have c0:=kC k0;have c1:=kC k1;have c2:=kC k2;have hne:=Aft.here w;go_enter Tryz.func188,Tryz.ntmps188;go_wp2_with (go_at_call 187;refine(H.o _).mono ?_;rintro e w' ⟨he,hw⟩;rw[he,hw];clear he hw w');clear k0 k1 k2;refine Yp 13 (by kernel_rfl) (by kernel_rfl) ?_;simp only[tkd];repeat(go_big_quiet_step (fail))
 refine wpQuiet_nil ?_;intro w1 h1;clear c0 c1 c2 hne;have o1:=XI w1 ⟨#[116,111]⟩ 0 15;have r1:=OwO.one (B:=w.heap.size) o1 h1.size;have HS1:=hid (h1.trans (sA w1 (.cells #[.string ⟨#[116,111]⟩,.int .i64 0,.int .i64 15] 218)));have HE:=hid (show opV 3=[(⟨#[116,111]⟩,0,15)]from rfl);go_wp2_with fail;go_ret;exact⟨_,rfl,by rw[HE.o];exact r1,HS1.o⟩
theorem OP(w:World)(ht:OTab w):Calls Tryz.prog 188 #[.int .i64 4] w fun e w'=>∃x,e=.returned x/\OwO w' w.heap.size x (opV 4)/\Yc w w':=by
 have H:=hid (fun u=>XJ 4 u);rw[show isV 4=true by decide]at H;have k0:=ht.fs 3 (by omega);have k1:=ht.lo 3 (by omega);have k2:=ht.hi 3 (by omega);rw[show fsB 3=⟨#[112,111,119,101,114]⟩from rfl]at k0;rw[show lo 3=1 from rfl]at k1;rw[show hi 3=3 from rfl]at k2;have c0:=kC k0;have c1:=kC k1;have c2:=kC k2;have hne:=Aft.here w;go_enter Tryz.func188,Tryz.ntmps188;go_wp2_with (go_at_call 187;refine(H.o _).mono ?_;rintro e w' ⟨he,hw⟩;rw[he,hw];clear he hw w');clear k0 k1 k2;refine Yp 13 (by kernel_rfl) (by kernel_rfl) ?_;simp only[tkd];repeat(go_big_quiet_step (fail))
 refine wpQuiet_nil ?_;intro w1 h1;clear c0 c1 c2 hne;have o1:=XI w1 ⟨#[112,111,119,101,114]⟩ 1 3;have r1:=OwO.one (B:=w.heap.size) o1 h1.size;have HS1:=hid (h1.trans (sA w1 (.cells #[.string ⟨#[112,111,119,101,114]⟩,.int .i64 1,.int .i64 3] 218)));have HE:=hid (show opV 4=[(⟨#[112,111,119,101,114]⟩,1,3)]from rfl);go_wp2_with fail;go_ret;exact⟨_,rfl,by rw[HE.o];exact r1,HS1.o⟩
theorem OQ(w:World)(ht:OTab w):Calls Tryz.prog 188 #[.int .i64 5] w fun e w'=>∃x,e=.returned x/\OwO w' w.heap.size x (opV 5)/\Yc w w':=by
 have H:=hid (fun u=>XJ 5 u);rw[show isV 5=true by decide]at H;have k0:=ht.fs 4 (by omega);have k1:=ht.lo 4 (by omega);have k2:=ht.hi 4 (by omega);rw[show fsB 4=⟨#[111,110]⟩from rfl]at k0;rw[show lo 4=0 from rfl]at k1;rw[show hi 4=1 from rfl]at k2;have c0:=kC k0;have c1:=kC k1;have c2:=kC k2;have hne:=Aft.here w;go_enter Tryz.func188,Tryz.ntmps188;go_wp2_with (go_at_call 187;refine(H.o _).mono ?_;rintro e w' ⟨he,hw⟩;rw[he,hw];clear he hw w');clear k0 k1 k2;refine Yp 13 (by kernel_rfl) (by kernel_rfl) ?_;simp only[tkd];repeat(go_big_quiet_step (fail))
 refine wpQuiet_nil ?_;intro w1 h1;clear c0 c1 c2 hne;have o1:=XI w1 ⟨#[111,110]⟩ 0 1;have r1:=OwO.one (B:=w.heap.size) o1 h1.size;have HS1:=hid (h1.trans (sA w1 (.cells #[.string ⟨#[111,110]⟩,.int .i64 0,.int .i64 1] 218)));have HE:=hid (show opV 5=[(⟨#[111,110]⟩,0,1)]from rfl);go_wp2_with fail;go_ret;exact⟨_,rfl,by rw[HE.o];exact r1,HS1.o⟩
theorem OR(w:World)(ht:OTab w):Calls Tryz.prog 188 #[.int .i64 6] w fun e w'=>∃x,e=.returned x/\OwO w' w.heap.size x (opV 6)/\Yc w w':=by
 have H:=hid (fun u=>XJ 6 u);rw[show isV 6=true by decide]at H;have k0:=ht.fs 5 (by omega);have k1:=ht.lo 5 (by omega);have k2:=ht.hi 5 (by omega);rw[show fsB 5=⟨#[116,111]⟩from rfl]at k0;rw[show lo 5=0 from rfl]at k1;rw[show hi 5=15 from rfl]at k2;have c0:=kC k0;have c1:=kC k1;have c2:=kC k2;have hne:=Aft.here w;go_enter Tryz.func188,Tryz.ntmps188;go_wp2_with (go_at_call 187;refine(H.o _).mono ?_;rintro e w' ⟨he,hw⟩;rw[he,hw];clear he hw w');clear k0 k1 k2;refine Yp 13 (by kernel_rfl) (by kernel_rfl) ?_;simp only[tkd];repeat(go_big_quiet_step (fail))
 refine wpQuiet_nil ?_;intro w1 h1;clear c0 c1 c2 hne;have o1:=XI w1 ⟨#[116,111]⟩ 0 15;have r1:=OwO.one (B:=w.heap.size) o1 h1.size;have HS1:=hid (h1.trans (sA w1 (.cells #[.string ⟨#[116,111]⟩,.int .i64 0,.int .i64 15] 218)));have HE:=hid (show opV 6=[(⟨#[116,111]⟩,0,15)]from rfl);go_wp2_with fail;go_ret;exact⟨_,rfl,by rw[HE.o];exact r1,HS1.o⟩
theorem OS(w:World)(ht:OTab w):Calls Tryz.prog 188 #[.int .i64 7] w fun e w'=>∃x,e=.returned x/\OwO w' w.heap.size x (opV 7)/\Yc w w':=by
 have H:=hid (fun u=>XJ 7 u);rw[show isV 7=true by decide]at H;have k0:=ht.fs 6 (by omega);have k1:=ht.lo 6 (by omega);have k2:=ht.hi 6 (by omega);rw[show fsB 6=⟨#[119,104,97,116]⟩from rfl]at k0;rw[show lo 6=0 from rfl]at k1;rw[show hi 6=255 from rfl]at k2;have c0:=kC k0;have c1:=kC k1;have c2:=kC k2;have hne:=Aft.here w;go_enter Tryz.func188,Tryz.ntmps188;go_wp2_with (go_at_call 187;refine(H.o _).mono ?_;rintro e w' ⟨he,hw⟩;rw[he,hw];clear he hw w');clear k0 k1 k2;refine Yp 13 (by kernel_rfl) (by kernel_rfl) ?_;simp only[tkd];repeat(go_big_quiet_step (fail))
 refine wpQuiet_nil ?_;intro w1 h1;clear c0 c1 c2 hne;have o1:=XI w1 ⟨#[119,104,97,116]⟩ 0 255;have r1:=OwO.one (B:=w.heap.size) o1 h1.size;have HS1:=hid (h1.trans (sA w1 (.cells #[.string ⟨#[119,104,97,116]⟩,.int .i64 0,.int .i64 255] 218)));have HE:=hid (show opV 7=[(⟨#[119,104,97,116]⟩,0,255)]from rfl);go_wp2_with fail;go_ret;exact⟨_,rfl,by rw[HE.o];exact r1,HS1.o⟩
theorem OT(v:Int)(w:World)(ht:OTab w):Calls Tryz.prog 188 #[.int .i64 v] w fun e w'=>∃x,e=.returned x/\OwO w' w.heap.size x (opV v)/\Yc w w':=by
 cases h:isV v with
 | false=>exact OL v h w
 | true =>
  rcases JB h with rfl|rfl|rfl|rfl|rfl|rfl|rfl
  ·exact ON w ht
  ·exact OM w ht
  ·exact OO w ht
  ·exact OP w ht
  ·exact OQ w ht
  ·exact OR w ht
  ·exact OS w ht
def gv(a b c:Int)(i:Nat):Int:=[a,b,c].getD i 0
def okI(ps:List (ByteArray × Int × Int))(x:Int)(i:Nat):Bool:=match ps[i]? with
 | some p=>decide (p.2.1<=x) && decide (x<=p.2.2)
 | none=>decide (x=0)
def Arb(w:World)(g:Nat)(a b c:Int):Prop:=w.heap[g]?=some (.cells #[.int .i64 a,.int .i64 b,.int .i64 c] 215 (0,0))
theorem Arb.sT{w w':World}{g:Nat}{a b c:Int}(h:Arb w g a b c)(hs:Yc w w'):Arb w' g a b c:=hs.kept_still h
theorem Arb.at{w:World}{g:Nat}{a b c:Int}(h:Arb w g a b c)(i:Nat)(hi:i<3):w.cell? ⟨g,i,none⟩=some (.int .i64 (gv a b c i)):=by
 rcases(show i=0\/i=1\/i=2 by omega)with rfl|rfl|rfl<;>(rw[cell_of_row _ _ _ _ _ _ h];rfl)
theorem OU(w:World)(a b c:Int):Arb (w.alloc (.cells #[.int .i64 a,.int .i64 b,.int .i64 c] 215)) w.heap.size a b c:=heap_alloc_new w _
theorem OV{ps:List (ByteArray × Int × Int)}{x:Int}{i:Nat}(h:ps.length<=i):okI ps x i=decide (x=0):=by unfold okI;rw[List.getElem?_eq_none h]
theorem OW{ps:List (ByteArray × Int × Int)}{x:Int}{i:Nat}(h:i<ps.length):okI ps x i=(decide ((ps[i]).2.1<=x) && decide (x<=(ps[i]).2.2)):=by unfold okI;rw[List.getElem?_eq_getElem h]
theorem ok3{ps:List (ByteArray × Int × Int)}{a b c:Int}(h:∀i,i<3->okI ps (gv a b c i) i=true):(0:Int)=if okI ps a 0 && okI ps b 1 && okI ps c 2 then 0 else 71:=by
 have h0:=h 0 (by omega);have h1:=h 1 (by omega);have h2:=h 2 (by omega);simp only[gv,List.getD_cons_zero,List.getD_cons_succ]at h0 h1 h2;rw[h0,h1,h2];rfl
theorem no3{ps:List (ByteArray × Int × Int)}{a b c:Int}{i:Nat}(hi:i<3)(h:okI ps (gv a b c i) i=false):(71:Int)=if okI ps a 0 && okI ps b 1 && okI ps c 2 then 0 else 71:=by
 rcases(show i=0\/i=1\/i=2 by omega)with rfl|rfl|rfl<;>simp only[gv,List.getD_cons_zero,List.getD_cons_succ]at h<;>rw[h]<;>simp
theorem OY(v a b c:Int)(hv:isV v=true)(w:World)(ht:OTab w):Ya 117 #[od v a b c] w (.int .i64 (if okI (opV v) a 0 && okI (opV v) b 1 && okI (opV v) c 2 then 0 else 71)):=by
 obtain⟨ps,eps⟩:∃ps,opV v=ps:=⟨_,rfl⟩;rw[eps];have HP:=hid eps;clear eps;obtain⟨X,eX⟩:∃X:Int,(if okI ps a 0 && okI ps b 1 && okI ps c 2 then 0 else 71)=X:=⟨_,rfl⟩;rw[eX];have HX:=hid eX;clear eX;have p:=JH w v a b c;have H:=hid (fun u=>XJ v u);rw[hv]at H;have HS0:=hid (sA w (.cells #[.int .i64 v,.int .i64 a,.int .i64 b,.int .i64 c] 61));have HT:=hid (ht.sT HS0.o);obtain⟨c0,c1,c2,c3,cf⟩:=p.cells;clear hv;go_enter Tryz.func117,Tryz.ntmps117;go_wp2_with (go_at_call 187;refine(H.o _).mono ?_;rintro e w' ⟨he,hw⟩;rw[he,hw];clear he hw w');refine(OT v _ HT.o).mono ?_;rintro e w1 ⟨x,rfl,ho,h1⟩;rw[HP.o]at ho;have p1:=p.sT h1;clear c0 c1 c2 c3 cf p;obtain⟨c0,c1,c2,c3,cf⟩:=p1.cells;have HT1:=hid h1;have p2:=OU w1 a b c;have o2:=ho.alloc (.cells #[.int .i64 a,.int .i64 b,.int .i64 c] 215);have HSW:=hid ((HS0.o.trans h1).trans (sA w1 (.cells #[.int .i64 a,.int .i64 b,.int .i64 c] 215)));obtain⟨ao,cap,rfl,_⟩:=o2.slice;obtain⟨n,en⟩:∃n,ps.length=n:=⟨_,rfl⟩;rw[en];have HN:=hid en;clear ho h1 HT1 en;go_wp2_with fail;go_loopw [6] (fun u wr=>∃k:Nat,k<=3/\u=.int .i64 (k:Int)/\(∀i,i<k->okI ps (gv a b c i) i=true)/\Yc (w1.alloc (.cells #[.int .i64 a,.int .i64 b,.int .i64 c] 215)) wr) (fun u _=>3-(intOf u).toNat);case atStart=>exact⟨0,by omega,rfl,fun i hi=>by omega,Fr.refl _ _⟩
 case round =>
  clear c0 c1 c2 c3 cf;obtain⟨k,hk,rfl,hF,hs⟩:=hrel;by_cases hk3:k<3
  ·have q2:=p2.sT hs;have r2:=o2.sT hs;have HS2:=hid hs;have k0:=kC (q2.at k hk3);have hne:=Aft.here wr;have hi3:(k:Int)<3:=by omega
   obtain⟨y,ey⟩:∃y,gv a b c k=y:=⟨_,rfl⟩;rw[ey]at k0;clear hs q2;by_cases hkn:k<n
   ·have hlt:(k:Int)<(n:Int):=by omega
    have hng:decide ((n:Int)<=(k:Int))=false:=by simp;omega
    have hng':decide (n<=k)=false:=by simp;omega
    have hlt':decide (k<n)=true:=by simp;omega
    have hpl:k<ps.length:=by rw[HN.o];exact hkn
    obtain⟨g,cg,e1,_,_⟩:=r2.head (by omega);rw[HN.o]at e1;cases e1;obtain⟨_,m1,m2,_⟩:=r2.cell k hpl;have hx:=OW (ps:=ps) (x:=gv a b c k) (i:=k) hpl;obtain⟨lw,elw⟩:∃z,(ps[k]).2.1=z:=⟨_,rfl⟩;obtain⟨up,eup⟩:∃z,(ps[k]).2.2=z:=⟨_,rfl⟩;rw[elw]at m1 hx;rw[eup]at m2 hx;rw[ey]at hx;have k1:=kC m1;have k2:=kC m2;clear hkn r2 m1 m2 elw eup;by_cases hy:lw<=y
    ·have hd1:decide (y<lw)=false:=by simp;omega
     by_cases hz:y<=up
     ·have HE:=hid (show okI ps (gv a b c k) k=true by rw[ey,hx];simp[hy,hz]);have hd2:decide (up<y)=false:=by simp;omega
      clear hx ey hy hz;go_wp2_with fail;refine Yk (by kernel_rfl) (by kernel_rfl) ?_;repeat(go_big_quiet_step (fail))
      refine wpQuiet_nil ?_;intro w2 h2;have HS3:=hid (Yc.trans HS2.o h2);clear hne k0 k1 k2 h2 HS2;go_wp2_with fail;go_roundw;case rel=>exact⟨k+1,by omega,by go_num,fun i hi=>by
       by_cases e:i=k
       ·subst e;exact HE.o
       ·exact hF i (by omega),HS3.o⟩
      case measure=>simp[intOf];omega
     ·have HE:=hid (show okI ps (gv a b c k) k=false by rw[ey,hx];simp;omega);have hd2:decide (up<y)=true:=by simp;omega
      have hu:up<y:=by omega
      clear hx ey hy hz;go_wp2_with fail;refine Yk (by kernel_rfl) (by kernel_rfl) ?_;repeat(go_big_quiet_step (fail))
      refine wpQuiet_nil ?_;intro w2 h2;have HS3:=hid (Yc.trans HS2.o h2);clear hne k0 k1 k2 h2 HS2;go_wp2_with fail;first|rw[Exit.noGoto_ret]|skip
      go_ret;exact⟨by rw[<- HX.o,<- no3 hk3 HE.o];rfl,Yc.trans HSW.o HS3.o⟩
    ·have HE:=hid (show okI ps (gv a b c k) k=false by rw[ey,hx];simp;omega);have hd1:decide (y<lw)=true:=by simp;omega
     have hu:y<lw:=by omega
     clear hx ey hy;go_wp2_with fail;refine Yk (by kernel_rfl) (by kernel_rfl) ?_;repeat(go_big_quiet_step (fail))
     refine wpQuiet_nil ?_;intro w2 h2;have HS3:=hid (Yc.trans HS2.o h2);clear hne k0 k1 k2 h2 HS2;go_wp2_with fail;first|rw[Exit.noGoto_ret]|skip
     go_ret;exact⟨by rw[<- HX.o,<- no3 hk3 HE.o];rfl,Yc.trans HSW.o HS3.o⟩
   ·have hge:(n:Int)<=(k:Int):=by omega
    have hnl:decide ((k:Int)<(n:Int))=false:=by simp;omega
    have hnl':decide (k<n)=false:=by simp;omega
    have hge':decide (n<=k)=true:=by simp;omega
    have hx:=OV (ps:=ps) (x:=gv a b c k) (i:=k) (by rw[HN.o];omega);rw[ey]at hx;clear hkn r2;by_cases hy:y=0
    ·subst hy;have HE:=hid (show okI ps (gv a b c k) k=true by rw[ey,hx];rfl);clear hx ey;go_wp2_with fail;refine Yk (by kernel_rfl) (by kernel_rfl) ?_;repeat(go_big_quiet_step (fail))
     refine wpQuiet_nil ?_;intro w2 h2;have HS3:=hid (Yc.trans HS2.o h2);clear hne k0 h2 HS2;go_wp2_with fail;go_roundw;case rel=>exact⟨k+1,by omega,by go_num,fun i hi=>by
      by_cases e:i=k
      ·subst e;exact HE.o
      ·exact hF i (by omega),HS3.o⟩
     case measure=>simp[intOf];omega
    ·have HE:=hid (show okI ps (gv a b c k) k=false by rw[ey,hx];simpa using hy);have hb:(y != 0)=true:=by simpa using hy
     clear hx ey;go_wp2_with fail;refine Yk (by kernel_rfl) (by kernel_rfl) ?_;repeat(go_big_quiet_step (fail))
     refine wpQuiet_nil ?_;intro w2 h2;have HS3:=hid (Yc.trans HS2.o h2);clear hne k0 h2 HS2;go_wp2_with fail;first|rw[Exit.noGoto_ret]|skip
     go_ret;exact⟨by rw[<- HX.o,<- no3 hk3 HE.o];rfl,Yc.trans HSW.o HS3.o⟩
  ·have HE:=hid (ok3 (fun i hi=>hF i (by omega)));have HS2:=hid hs;clear hs hF;go_wp2_with fail;go_ret;exact⟨by rw[<- HX.o,<- HE.o];rfl,Yc.trans HSW.o HS2.o⟩
theorem OZ{v a b c:Int}(h:isV v=true):(okI (opV v) a 0 && okI (opV v) b 1 && okI (opV v) c 2)=okO v a b c:=by
 rcases JB h with rfl|rfl|rfl|rfl|rfl|rfl|rfl
 ·rw[show opV 1=[(⟨#[120]⟩,-8,8),(⟨#[121]⟩,-8,8)]from rfl];unfold okO;rw[show lo ((1:Int)-1).toNat=-8 from rfl,show hi ((1:Int)-1).toNat=8 from rfl,if_pos rfl];rfl
 ·rw[show opV 2=[]from rfl];unfold okO;rw[show lo ((2:Int)-1).toNat=0 from rfl,show hi ((2:Int)-1).toNat=0 from rfl,if_neg (by decide)];show(decide (a=0) && decide (b=0) && decide (c=0))=_;rw[Bool.eq_iff_iff];simp only[Bool.and_eq_true,decide_eq_true_eq];omega
 all_goals
  unfold okO;rw[if_neg (by decide)];rfl
theorem La(v a b c:Int)(hv:isV v=false)(w:World):Ya 117 #[od v a b c] w (.int .i64 70):=by
 have p:=JH w v a b c;have H:=hid (fun u=>XJ v u);rw[hv]at H;have HS0:=hid (sA w (.cells #[.int .i64 v,.int .i64 a,.int .i64 b,.int .i64 c] 61));obtain⟨c0,c1,c2,c3,cf⟩:=p.cells;clear hv;go_enter Tryz.func117,Tryz.ntmps117;go_wp2_with (go_at_call 187;refine(H.o _).mono ?_;rintro e w' ⟨he,hw⟩;rw[he,hw];clear he hw w');go_ret;exact⟨rfl,HS0.o⟩
theorem GK(v a b c:Int)(w:World)(ht:OTab w):Ya 117 #[od v a b c] w (.int .i64 (YB v a b c)):=by
 unfold YB;cases h:isV v with
 | false=>exact La v a b c h w
 | true =>
  have:=OY v a b c h w ht;rw[OZ h]at this;rw[if_pos rfl];exact this
end
section
open Go.RowKit
open Pu Gp Ap Vp Np
attribute [local go_sem] zr Y0
abbrev mx(a b c d e f g h i:Int)(s:Bool)(j k l:Int):Value:=.agg #[.int .i64 a,.int .i64 b,.int .i64 c,.int .i64 d,.int .i64 e,.int .i64 f,.int .i64 g,.int .i64 h,.int .i64 i,.bool s,.int .i64 j,.int .i64 k,.int .i64 l]
theorem BZ(a b c d e f g h i:Int)(s:Bool)(j k l x:Int)(w:World):Ya 217 #[mx a b c d e f g h i s j k l,.int .i64 x] w (mx a b 0 0 0 0 g 0 0 false 0 x l):=by
 unfold Ya;go_in;go_wp2
 refine bodyPost_ret (XV zbk rfl rfl) rfl ⟨?_,zst⟩;rfl
theorem UN(n l h:Int)(w:World):Ya 215 #[.int .i64 n,.int .i64 l,.int .i64 h] w (.bool (amg n l h)):=by
 unfold Ya;go_in;go_wp2
 all_goals go_ret;exact⟨by simp_all[amg]<;>omega,zst⟩
def bw(x y k:Int):Bool:=amg x (-k) k && amg y (-k) k
theorem Eb(x y k:Int)(h1:0<=k)(h2:k<=1024)(w:World):Ya 214 #[pt x y,.int .i64 k] w (.bool (bw x y k)):=by
 unfold Ya;go_in;go_wp2
 all_goals go_ret;exact⟨by simp_all[bw,amg]<;>omega,zst⟩
def rB(m:Mv):Bool:=(bnd m.ax == m.ax && bnd m.ay == m.ay) && bw m.sx m.sy 1024 && bw m.px m.py 256 && amg m.fc 0 15 && amg m.hl 0 100 && amg m.en 0 100 && amg m.co 0 12 && amg m.ou 0 30 && amg m.sd 0 255
theorem Lb(m:Mv):(rB m && mD m)=Yw m:=by
 rw[BT];unfold rB mA mB mC bw;simp only[Bool.and_assoc]
theorem Lc(m:Mv)(b0 b1 b2 b3 b4 b5 b6 b7 b8:Bool)(e0:Hid ((bnd m.ax == m.ax && bnd m.ay == m.ay)=b0))(e1:Hid (bw m.sx m.sy 1024=b1))(e2:Hid (bw m.px m.py 256=b2))(e3:Hid (amg m.fc 0 15=b3))(e4:Hid (amg m.hl 0 100=b4))(e5:Hid (amg m.en 0 100=b5))(e6:Hid (amg m.co 0 12=b6))(e7:Hid (amg m.ou 0 30=b7))(e8:Hid (amg m.sd 0 255=b8))(w:World):Ya 160 #[mv m] w (.bool (rB m)):=by
 have hq:=Kw (bnd m.ax) (bnd m.ay) m.ax m.ay;have hg:=U6;have HB:=hid (fun u=>Eb m.sx m.sy 1024 (by omega) (by omega) u);have HC:=hid (fun u=>Eb m.px m.py 256 (by omega) (by omega) u);have k3:=hid (UN m.fc 0 15);rw[e3.o]at k3
 have k4:=hid (UN m.hl 0 100);rw[e4.o]at k4
 have k5:=hid (UN m.en 0 100);rw[e5.o]at k5
 have k6:=hid (UN m.co 0 12);rw[e6.o]at k6
 have k7:=hid (UN m.ou 0 30);rw[e7.o]at k7
 have k8:=hid (UN m.sd 0 255);rw[e8.o]at k8
 have HX:=hid UB;rw[e0.o]at hq;rw[e1.o]at HB;rw[e2.o]at HC
 unfold Ya;go_in
 go_wp2_with fail;refine Yk (by kernel_rfl) (by kernel_rfl) ?_;repeat(any_goals (first|go_big_quiet_step (first|with_reducible exact Calls.cl (HX.o _ _ _)|with_reducible exact Calls.cl (HB.o _)|with_reducible exact Calls.cl (HC.o _)|(go_at_call 215;first|with_reducible exact Calls.cl (k3.o _)|with_reducible exact Calls.cl (k4.o _)|with_reducible exact Calls.cl (k5.o _)|with_reducible exact Calls.cl (k6.o _)|with_reducible exact Calls.cl (k7.o _)|with_reducible exact Calls.cl (k8.o _)))|(refine wpQuiet_nil ?_;intro w' h';obtain⟨J,n,rfl⟩:=h'.more)|cases b0|cases b1|cases b2|cases b3|cases b4|cases b5|cases b6|cases b7|cases b8))
 all_goals
  go_wp2_with fail;go_ret;exact⟨by simp[rB,e0.o,e1.o,e2.o,e3.o,e4.o,e5.o,e6.o,e7.o,e8.o],zst⟩
theorem Ld(m:Mv)(b:Bool)(eb:Hid (eqM m (Vb m)=b))(w:World):Ya 161 #[mv m] w (.bool (mD m)):=by
 have E:=BS m (Vb m);rw[eb.o]at E
 have G:=GI;have HG:Hid (∀w,Ya 217 #[mv m,.int .i64 m.ou] w (mv (Vb m))):=hid (BZ _ _ _ _ _ _ _ _ _ _ _ _ _ _);unfold Ya;go_in;go_wp2
 ·go_ret;exact⟨by simp_all[mD]<;>omega,zst⟩
 ·refine Yk (by kernel_rfl) (by kernel_rfl) ?_;repeat(go_big_quiet_step (with_reducible exact Calls.cl (HG.o _)))
  refine wpQuiet_nil ?_;intro w' h';obtain⟨J,n,rfl⟩:=h'.more
  go_wp2;go_ret
  exact⟨by simp_all[mD,eb.o],zst⟩
theorem V5(m:Mv)(w:World):Ya 95 #[mv m] w (.int .i64 (YC m)):=by
 have H1:=hid (fun w=>Lc m _ _ _ _ _ _ _ _ _ (hid rfl) (hid rfl) (hid rfl) (hid rfl) (hid rfl) (hid rfl) (hid rfl) (hid rfl) (hid rfl) w);have H2:=hid (fun w=>Ld m _ (hid rfl) w);have HC:Hid (YC m=if(rB m && mD m)then 0 else 80):=hid (by rw[Lb];rfl);generalize rB m=a at *;generalize mD m=b at *
 unfold Ya;go_in
 cases a<;>cases b<;>go_wp2_with (first|(with_reducible refine zc (H1.o _) ?_;intro J n)|(with_reducible refine zc (H2.o _) ?_;intro J n))
 all_goals go_ret;exact⟨by rw[HC.o];rfl,zst⟩
attribute [local go_sem] zr Y0
theorem Xt(m:Mv):Hid (Yw m=false)/\YC m=80\/Hid (Yw m=true)/\YC m=0/\May m:=by
 cases h:Yw m
 ·exact .inl ⟨rfl,by simp[YC,h]⟩
 ·exact .inr ⟨rfl,by simp[YC,h],mayB_iff.1 h⟩
theorem GL(x y f:Int)(w:World):Ya 79 #[pt x y,.int .i64 f] w (mx (bnd x) (bnd y) 0 0 0 0 (f % 16) 100 50 false 0 0 0):=by
 have H1:=hid (UB x y);have H2:=hid (fun u=>Ya.of (Am f 0 u));unfold Ya;go_in;go_wp2_with (first|(go_at_call 136;refine zc (H1.o _) ?_;intro J n)|(go_at_call 137;refine zc (H2.o _) ?_;intro J n)|go_in)
 refine bodyPost_ret (XV zbk rfl rfl) rfl ⟨?_,zst⟩;simp
theorem Le(x y f:Int)(w:World):Ya 79 #[pt x y,.int .i64 f] w (mv (XH x y f)):=GL x y f w
theorem Lf(m:Mv)(h:Int)(w:World):Ya 244 #[mv m,.int .i64 h] w (.tuple #[mv (Zu m h),.bool (Zh m h),.int .i64 (YX m h)]):=by
 have HC:=hid (fun w=>V5 m w);rcases Xt m with⟨HM,e⟩|⟨HM,e,hm⟩<;>rw[e]at HC<;>clear e<;>unfold Ya
 ·go_in;go_wp2_with (first|(go_at_call 95;refine zc (HC.o _) ?_;intro J n))
  refine bodyPost_ret (Y9 zbk rfl rfl) rfl ⟨?_,zst⟩;simp[Zu,Zh,YX,HM.o,zM]
 ·obtain⟨-,-,-,-,⟨a1,a2⟩,⟨b1,b2⟩,-,⟨o1,o2⟩,-,-,-⟩:=hm;by_cases ha:1<=h/\h<=100
  ·obtain⟨h1,h2⟩:=ha;have HE:Hid (YX m h=0):=hid (by unfold YX;rw[if_pos HM.o,if_neg (by omega)]);go_in;go_wp2_with (first|(go_at_call 95;refine zc (HC.o _) ?_;intro J n)|(go_at_call 217;refine zc (BZ _ _ _ _ _ _ _ _ _ _ _ _ _ _ _) ?_;intro J n)|go_in)
   all_goals
    refine bodyPost_ret (Y9 zbk rfl rfl) rfl ⟨?_,zst⟩;go_tidy
    clear HC;simp[Zu,Zh,HE.o,UK,JE,tak,JD, *];try (split<;>(try (exfalso;omega))<;>simp<;>omega)
  ·have HE:Hid (YX m h=1):=hid (by unfold YX;rw[if_pos HM.o,if_pos (by omega)]);go_in;go_wp2_with (first|(go_at_call 95;refine zc (HC.o _) ?_;intro J n)|go_in)
   all_goals
    first|(exfalso;simp_all;omega)|(refine bodyPost_ret (Y9 zbk rfl rfl) rfl ⟨?_,zst⟩;simp[Zu,Zh,HE.o,zM])
theorem Lg(m:Mv)(x y:Int)(w:World):Ya 185 #[mv m,pt x y] w (.tuple #[mv (ZU m x y),.bool (X5 m),.int .i64 (YC m)]):=by
 have HC:=hid (fun w=>V5 m w);rcases Xt m with⟨HM,e⟩|⟨HM,e,hm⟩<;>rw[e]at HC<;>have HE:=hid e<;>clear e<;>unfold Ya
 ·go_in;go_wp2_with (first|(go_at_call 95;refine zc (HC.o _) ?_;intro J n))
  refine bodyPost_ret (Y9 zbk rfl rfl) rfl ⟨?_,zst⟩;simp[ZU,X5,HE.o,HM.o,zM]
 ·obtain⟨-,-,-,-,-,⟨b1,b2⟩,⟨c1,c2⟩,⟨o1,o2⟩,-,-,-⟩:=hm;go_in;go_wp2_with (first|(go_at_call 95;refine zc (HC.o _) ?_;intro J n)|(go_at_call 79;refine zc (GL _ _ _ _) ?_;intro J n)|go_in|((first|go_end0|refine bodyPost_ret (results_none rfl _ _ _) rfl ?_);simp only[];go_at_K))
  all_goals
   try (go_region_with (go_at_call 79;refine zc (GL _ _ _ _) ?_;intro J n))
   go_wp2_with ((first|go_end0|refine bodyPost_ret (results_none rfl _ _ _) rfl ?_);simp only[];go_at_K);all_goals
   refine bodyPost_ret (Y9 zbk rfl rfl) rfl ⟨?_,zst⟩;go_tidy
   clear HC;simp[ZU,X5,KJ,HE.o,HM.o,XH, *];try ((repeat' split)<;>(try (exfalso;omega))<;>simp_all<;>omega)
end
section
open Go.RowKit
open Pu Gp Ap Vp Np Za
attribute [local go_sem] zr Y0
theorem tsw{p:Prop}(h:p:=by
  unfold Ya;go_in;go_wp2
  all_goals go_ret;exact⟨by simp_all[amg]<;>omega,zst⟩):p:=h
theorem GM(n l h:Int)(w:World):Ya 223 #[.int .i64 n,.int .i64 l,.int .i64 h] w (.bool (amg n l h)):=tsw
theorem Ec(n:Int)(w:World):Ya 222 #[.int .i64 n] w (.bool (amg n 1 3)):=tsw
theorem Ed(n:Int)(w:World):Ya 221 #[.int .i64 n] w (.bool (amg n 0 5)):=tsw
theorem Ee(n:Int)(w:World):Ya 220 #[.int .i64 n] w (.bool (amg n 1 1099511627776)):=tsw
theorem Lh(p:Int)(w:World):Yb 245 #[.int .i64 p] w (.int .i64 (dmg p)):=by
 by_cases h1:1<=p<;>by_cases h2:p<=3
 all_goals
  have e:dmg p=if 1<=p/\p<=3 then 15*p else 0:=by unfold dmg;split<;>split<;>omega
  rw[e];clear e;unfold Yb;go_in;go_wp2
  all_goals go_ret;exact⟨by simp[*],rfl⟩
theorem Li(s:Sh):YH s=(amg s.no 1 1099511627776 && amg s.ow 0 5 && amg s.pw 1 3 && (bnd s.ax == s.ax && bnd s.ay == s.ay) && amg s.sx (-1536) 1536 && amg s.sy (-1536) 1536 && amg s.lf 1 40):=by
 rw[Bool.eq_iff_iff,maySB_iff];unfold amg ZP;simp only[Bool.and_eq_true,beq_iff_eq,bnd_is,decide_eq_true_eq];omega
theorem Ef(s:Sh)(w:World):Ya 163 #[sv s] w (.bool (YH s)):=by
 have E:=Kw (bnd s.ax) (bnd s.ay) s.ax s.ay;have G:=U6;have HB:=hid (UB s.ax s.ay);have k0:=hid (Ee s.no);have k1:=hid (Ed s.ow);have k2:=hid (Ec s.pw);have k4:=hid (GM s.sx (-1536) 1536);have k5:=hid (GM s.sy (-1536) 1536);have k6:=hid (GM s.lf 1 40);have HR:=hid (Li s);generalize amg s.no 1 1099511627776=b0 at *
 generalize amg s.ow 0 5=b1 at *
 generalize amg s.pw 1 3=b2 at *
 generalize (bnd s.ax == s.ax && bnd s.ay == s.ay)=b3 at *
 generalize amg s.sx (-1536) 1536=b4 at *
 generalize amg s.sy (-1536) 1536=b5 at *
 generalize amg s.lf 1 40=b6 at *
 unfold Ya;go_in
 go_wp2_with fail;refine Yk (by kernel_rfl) (by kernel_rfl) ?_;repeat(any_goals (first|go_big_quiet_step (first|with_reducible exact Calls.cl (HB.o _)|(go_at_call 220;with_reducible exact Calls.cl (k0.o _))|(go_at_call 221;with_reducible exact Calls.cl (k1.o _))|(go_at_call 222;with_reducible exact Calls.cl (k2.o _))|(go_at_call 223;first|with_reducible exact Calls.cl (k4.o _)|with_reducible exact Calls.cl (k5.o _)|with_reducible exact Calls.cl (k6.o _)))|(refine wpQuiet_nil ?_;intro w' h';obtain⟨J,n,rfl⟩:=h'.more)|cases b0|cases b1|cases b2|cases b3|cases b4|cases b5|cases b6))
 all_goals
  go_wp2_with fail;go_ret;exact⟨by rw[HR.o];rfl,zst⟩
theorem Eg(s:Sh)(w:World):Ya 99 #[sv s] w (.int .i64 (YM s)):=by
 have H:=hid (Ef s);unfold YM Ya;generalize YH s=b at *
 go_in;go_wp2_with (go_at_call 163;refine zc (H.o _) ?_;intro J n)
 all_goals go_ret;exact⟨by simp_all,zst⟩
theorem Lk(m:Mv)(ow pw no:Int)(w:World)(ht:Tab w):Ya 229 #[mv m,.int .i64 ow,.int .i64 pw,.int .i64 no] w (.tuple #[sv (YV m ow pw no),.int .i64 (ZQ m ow pw no)]):=by
 have HC:=hid (V5 m);have HU:=hid (fun u (h:Yc w u)=>WK m.fc u (ht.sT h));rcases Xt m with⟨HM,e⟩|⟨HM,e,-⟩<;>rw[e]at HC<;>clear e ht<;>unfold Ya
 ·go_in;go_wp2_with (go_at_call 95;refine zc (HC.o _) ?_;intro J n)
  refine bodyPost_ret (YF zbk rfl rfl) rfl ⟨?_,zst⟩;simp[YV,ZQ,HM.o,zS]
 have k1:=hid (Ed ow);have k2:=hid (Ec pw);have k3:=hid (Ee no);have HA:Hid (V3 ow pw no=(amg ow 0 5 && amg pw 1 3 && amg no 1 1099511627776)):=hid (by rw[Bool.eq_iff_iff,argB_iff];simp only[Bool.and_eq_true,amg_iff];omega);have HP:Hid (amg pw 1 3=true->1<=pw/\pw<=3):=hid amg_iff.1;generalize amg ow 0 5=b1 at *
 generalize amg pw 1 3=b2 at *
 generalize amg no 1 1099511627776=b3 at *
 cases h:b1 && b2 && b3
 ·go_in;go_wp2_with (first|(go_at_call 95;refine zc (HC.o _) ?_;intro J n)|(go_at_call 221;refine zc (k1.o _) ?_;intro J1 n1)|(go_at_call 222;refine zc (k2.o _) ?_;intro J2 n2)|(go_at_call 220;refine zc (k3.o _) ?_;intro J3 n3)|(go_at_call 282;fail))
  all_goals first|(exfalso;simp_all;done)|skip
  all_goals
   refine bodyPost_ret (YF zbk rfl rfl) rfl ⟨?_,zst⟩;simp[YV,ZQ,HM.o,HA.o,h,zS]
 ·simp only[Bool.and_eq_true]at h;obtain⟨⟨rfl,rfl⟩,rfl⟩:=h;obtain⟨p1,p2⟩:=HP.o rfl;go_in;go_wp2_with (first|(go_at_call 95;refine zc (HC.o _) ?_;intro J n)|(go_at_call 221;refine zc (k1.o _) ?_;intro J1 n1)|(go_at_call 222;refine zc (k2.o _) ?_;intro J2 n2)|(go_at_call 220;refine zc (k3.o _) ?_;intro J3 n3)|(go_at_call 282;refine zc (HU.o _ zst) ?_;intro J4 n4))
  refine Yp 14 (by kernel_rfl) (by kernel_rfl) ?_;simp only[tkd];repeat(go_big_quiet_step (first|(go_at_call 284;exact Calls.cl (WS _ _ _ _))|(go_at_call 283;exact Calls.cl (K1 _ _ _ _ _))))
  refine wpQuiet_nil ?_;intro w' h';obtain⟨J6,n6,rfl⟩:=h'.more
  go_wp2
  refine bodyPost_ret (YF zbk rfl rfl) rfl ⟨?_,zst⟩;simp[YV,ZQ,HM.o,HA.o,JG,dir,Int.mul_comm]
theorem Ll(s:Sh)(X Y:Int)(l1:1<=s.lf)(l2:s.lf<=40)(w:World):Ya 239 #[sv s,pt X Y] w (sv { s with ax:=X,ay:=Y,lf:=s.lf-1 }):=by
 unfold Ya;go_in;go_wp2_with fail
 exact bodyPost_ret (XV zbk rfl rfl) rfl ⟨rfl,zst⟩
theorem Lm(C R x y p q X Y:Int)(b:ByteArray)(t:Bool)(HR:Hid (∀u,Ya 291 #[ar C R b,pt x y,pt p q] u (.tuple #[pt X Y,.bool t])))(w:World):Ya 237 #[ar C R b,pt x y,pt p q] w (.tuple #[pt X Y,.bool t]):=by
 unfold Ya;go_in;go_wp2_with (go_at_call 291;refine zc (HR.o _) ?_;intro J n)
 exact bodyPost_ret (YF zbk rfl rfl) rfl ⟨rfl,zst⟩
theorem Ln(s:Sh)(C R:Int)(b:ByteArray)(hz:b.size<=281474976710656)(w:World):Ya 176 #[sv s,ar C R b] w (.tuple #[sv (Z6 (Yg C R b) s),.bool (YY (Yg C R b) s),.int .i64 (YM s)]):=by
 have HM:=hid (Ef s);have HR:=hid (Lm _ _ _ _ _ _ _ _ _ _ (hid (fun u=>IH C R s.ax s.ay s.sx s.sy b hz _ _ _ _ (rn s) (rk (Yg C R b) s) rfl rfl rfl rfl rfl rfl u)));have HG:Hid (YY (Yg C R b) s=(YH s && !(decide (rk (Yg C R b) s<rn s)) && !(s.lf == 1))):=hid rfl;have HF:Hid (∀x,YY (Yg C R b) s=x->Z6 (Yg C R b) s=if x then VZ (Yg C R b) s else zS):=hid fun _ h=>h ▸ rfl;have HC:Hid (YM s=if YH s then 0 else 90):=hid rfl;have HL:Hid (YH s=true->1<=s.lf/\s.lf<=40):=hid fun h=>(maySB_iff.1 h).2.2.2.2.2;unfold Ya;generalize YY (Yg C R b) s=g at *
 generalize YH s=a at *
 generalize decide (rk (Yg C R b) s<rn s)=c at *
 cases a
 ·go_in;go_wp2_with (first|(go_at_call 163;refine zc (HM.o _) ?_;intro J n))
  refine bodyPost_ret (Y9 zbk rfl rfl) rfl ⟨?_,zst⟩;have hg:=HG.o;simp at hg
  simp[hg,HF.o _ hg,HC.o,zS]
 ·obtain⟨l1,l2⟩:=HL.o rfl;cases c;all_goals
   go_in;go_wp2_with (first|(go_at_call 163;refine zc (HM.o _) ?_;intro J n)|(go_at_call 237;refine zc (HR.o _) ?_;intro J1 n1)|(go_at_call 239;refine zc (Ll _ _ _ l1 l2 _) ?_;intro J2 n2)|go_in)
   all_goals
    refine bodyPost_ret (Y9 zbk rfl rfl) rfl ⟨?_,zst⟩;go_tidy
    have hg:=HG.o;simp[*]at hg
    simp[hg,HF.o _ hg,HC.o,zS,VZ]
end
section
open Go.RowKit
open Pu Gp Ap Vp Np
attribute [local go_sem] zr Y0
theorem GN(m:Mv)(w:World):Ya 114 #[mv m] w (.bool (Yw m)):=by
 have HB:=hid (fun u=>VS m.ax m.ay u);have G1:=U6;have G2:=GI;have E:=Kw (bnd m.ax) (bnd m.ay) m.ax m.ay;have E2:=BS m (Vb m);simp only[Vb]at E2;rw[BT];have HA:Hid (∀b,(bnd m.ax == m.ax && bnd m.ay == m.ay)=b->mA m=(b && amg m.sx (-1024) 1024 && amg m.sy (-1024) 1024)):=hid fun _ h=>h ▸ rfl;have HD:Hid (mD m=if m.ou=0 then decide (1<=m.hl)else eqM m (Vb m)):=hid rfl;generalize (bnd m.ax == m.ax && bnd m.ay == m.ay)=b at E HA;replace HA:=hid (HA.o _ rfl)
 unfold Ya;go_in
 go_upto_region 2 with(go_at_call 84;refine zc (HB.o _) ?_;intro J n);refine gw ?_;intro W eW
 go_cut [4] (fun v wx=>v=.bool (mA m)/\wx=W)
 case first =>
  subst eW;go_wp2
  all_goals go_meet;exact⟨by rw[HA.o];simp_all[amg]<;>omega,rfl⟩
 case rest =>
  obtain⟨rfl,rfl⟩:=hcut;subst eW;go_upto_region 3 with fail;refine gw ?_;intro W eW
  go_cut [5] (fun v wx=>v=.bool (mB m)/\wx=W)
  case first =>
   subst eW;go_wp2
   all_goals go_meet;exact⟨by simp_all[mB,amg]<;>omega,rfl⟩
  case rest =>
   obtain⟨rfl,rfl⟩:=hcut;subst eW;go_upto_region 4 with fail;refine gw ?_;intro W eW
   go_cut [6] (fun v wx=>v=.bool (mC m)/\wx=W)
   case first =>
    subst eW;go_wp2
    all_goals go_meet;exact⟨by simp_all[mC,amg]<;>omega,rfl⟩
   case rest =>
    obtain⟨rfl,rfl⟩:=hcut;subst eW;clear HA HB;go_wp2
    all_goals go_ret;exact⟨by rw[HD.o];clear HD;simp_all[Vb]<;>omega,zst⟩
theorem UO(m:Mv)(w:World):Ya 118 #[mv m] w (.int .i64 (YC m)):=by
 have H:=hid (GN m);unfold YC Ya;generalize Yw m=b at *
 go_in;go_wp2_with (refine zc (H.o _) ?_;intro J n)
 all_goals go_ret;exact⟨by simp_all,zst⟩
attribute [local go_sem] zr Y0
theorem Eh(x y f:Int)(w:World):Ya 39 #[pt x y,.int .i64 f] w (mx (bnd x) (bnd y) 0 0 0 0 (f % 16) 100 50 false 0 0 0):=by
 have H1:=hid (VS x y);have H2:=hid (fun u=>Ya.of (Wr f u));unfold Ya;go_in;go_wp2_with (first|(go_at_call 84;refine zc (H1.o _) ?_;intro J n)|(go_at_call 85;refine zc (H2.o _) ?_;intro J n))
 exact bodyPost_ret (XV zbk rfl rfl) rfl ⟨by simp,zst⟩
theorem Lo(x y f:Int)(w:World):Ya 39 #[pt x y,.int .i64 f] w (mv (XH x y f)):=Eh x y f w
theorem Lp(m:Mv)(x y:Int)(w:World):Ya 78 #[mv m,pt x y] w (.tuple #[mv (ZU m x y),.bool (X5 m),.int .i64 (YC m)]):=by
 have HC:=hid (fun w=>UO m w);rcases Xt m with⟨HM,e⟩|⟨HM,e,hm⟩<;>rw[e]at HC<;>have HE:=hid e<;>clear e<;>unfold Ya
 ·go_in;go_wp2_with (first|(go_at_call 118;refine zc (HC.o _) ?_;intro J n))
  refine bodyPost_ret (Y9 zbk rfl rfl) rfl ⟨?_,zst⟩;simp[ZU,X5,HE.o,HM.o,zM]
 ·obtain⟨-,-,-,-,-,⟨b1,b2⟩,⟨c1,c2⟩,⟨o1,o2⟩,-,-,-⟩:=hm;go_in;go_wp2_with (first|(go_at_call 118;refine zc (HC.o _) ?_;intro J n)|(go_at_call 39;refine zc (Eh _ _ _ _) ?_;intro J n))
  all_goals
   refine bodyPost_ret (Y9 zbk rfl rfl) rfl ⟨?_,zst⟩;go_tidy
   clear HC;simp[ZU,X5,KJ,HE.o,HM.o,XH, *];try ((repeat' split)<;>(try (exfalso;omega))<;>simp_all<;>omega)
end
section
open Go.RowKit
open Pu Gp Ap Vp Np Za
attribute [local go_sem] zr Y0
def aB(s:Sh):Bool:=decide (1<=s.no) && decide (s.no<=1099511627776) && decide (0<=s.ow) && decide (s.ow<=5) && decide (1<=s.pw) && decide (s.pw<=3) && (bnd s.ax == s.ax && bnd s.ay == s.ay)
def bB(s:Sh):Bool:=decide (-1536<=s.sx) && decide (s.sx<=1536) && decide (-1536<=s.sy) && decide (s.sy<=1536)
theorem Lr(s:Sh):YH s=(aB s && bB s && decide (1<=s.lf) && decide (s.lf<=40)):=by
 rw[Bool.eq_iff_iff,maySB_iff];unfold aB bB ZP;simp only[Bool.and_eq_true,beq_iff_eq,bnd_is,decide_eq_true_eq];omega
theorem Ei(s:Sh)(w:World):Ya 116 #[sv s] w (.int .i64 (YM s)):=by
 have HB:=hid (fun u=>VS s.ax s.ay u);have G1:=U6;have E:=Kw (bnd s.ax) (bnd s.ay) s.ax s.ay;have HR:Hid (YM s=if aB s && bB s && decide (1<=s.lf) && decide (s.lf<=40)then 0 else 90):=hid (by unfold YM;rw[Lr]);have HA:Hid (∀b,(bnd s.ax == s.ax && bnd s.ay == s.ay)=b->aB s=(decide (1<=s.no) && decide (s.no<=1099511627776) && decide (0<=s.ow) && decide (s.ow<=5) && decide (1<=s.pw) && decide (s.pw<=3) && b)):=hid fun _ h=>h ▸ rfl;generalize (bnd s.ax == s.ax && bnd s.ay == s.ay)=b at E HA;replace HA:=hid (HA.o _ rfl)
 unfold Ya;go_in
 go_upto_region 2 with(go_at_call 84;refine zc (HB.o _) ?_;intro J n);refine gw ?_;intro W eW
 go_cut [4] (fun v wx=>v=.bool (aB s)/\wx=W)
 case first =>
  subst eW;go_wp2
  all_goals go_meet;exact⟨by rw[HA.o];simp_all<;>omega,rfl⟩
 case rest =>
  obtain⟨rfl,rfl⟩:=hcut;subst eW;go_upto_region 3 with fail;refine gw ?_;intro W eW
  go_cut [5] (fun v wx=>v=.bool (bB s)/\wx=W)
  case first =>
   subst eW;go_wp2
   all_goals go_meet;exact⟨by simp_all[bB]<;>omega,rfl⟩
  case rest =>
   obtain⟨rfl,rfl⟩:=hcut;subst eW;clear HA HB;go_wp2
   all_goals go_ret;exact⟨by rw[HR.o];clear HR;simp_all<;>omega,zst⟩
theorem Ls(p:Int)(w:World):Yb 130 #[.int .i64 p] w (.int .i64 (dmg p)):=by
 by_cases h1:p<1<;>by_cases h2:3<p
 all_goals
  have e:dmg p=if p<1\/3<p then 0 else 15*p:=rfl;rw[e];clear e;unfold Yb;go_in;go_wp2
  all_goals go_ret;exact⟨by simp[*],rfl⟩
theorem Lt(m:Mv)(ow pw no:Int)(w:World)(ht:RTab w):Ya 66 #[mv m,.int .i64 ow,.int .i64 pw,.int .i64 no] w (.tuple #[sv (YV m ow pw no),.int .i64 (ZQ m ow pw no)]):=by
 have HC:=hid (UO m);have HU:=hid (fun u (h:Yc w u)=>WL m.fc u (ht.sT h));rcases Xt m with⟨HM,e⟩|⟨HM,e,-⟩<;>rw[e]at HC<;>clear e ht<;>unfold Ya
 ·go_in;go_wp2_with (go_at_call 118;refine zc (HC.o _) ?_;intro J n)
  refine bodyPost_ret (YF zbk rfl rfl) rfl ⟨?_,zst⟩;simp[YV,ZQ,HM.o,zS]
 cases h:V3 ow pw no
 ·have HA:=hid h;have h':¬((0<=ow/\ow<=5)/\(1<=pw/\pw<=3)/\1<=no/\no<=1099511627776):=fun k=>by rw[argB_iff.2 k]at h;cases h
  clear h;go_in;go_wp2_with (first|(go_at_call 118;refine zc (HC.o _) ?_;intro J n)|(go_at_call 120;fail))
  all_goals first
   | (exfalso;omega)
   | (refine bodyPost_ret (YF zbk rfl rfl) rfl ⟨?_,zst⟩;simp[YV,ZQ,HM.o,HA.o,zS];done)
 ·obtain⟨⟨h1,h2⟩,⟨h3,h4⟩,h5,h6⟩:=argB_iff.1 h;have HA:=hid h;clear h;go_in;go_wp2_with (first|(go_at_call 118;refine zc (HC.o _) ?_;intro J n)|(go_at_call 120;refine zc (HU.o _ zst) ?_;intro J4 n4))
  refine Bt 5 12 #[.int .i64 0,.int .i64 0] #[.int .i64 (Yd m.ax (Y7 (ux (dir m.fc)) 1792)),.int .i64 (Yd m.ay (Y7 (uy (dir m.fc)) 1792))] 57 rfl rfl nwz ?_;apply Exists.intro;refine And.intro ?_ (And.intro ?_ ?_)
  ·intro u hu;obtain⟨J2,n2,rfl⟩:=hu.more;simp only[Y4,tkd,tkq,Nat.reduceAdd];repeat(go_big_quiet_step (first|(go_at_call 119;exact Calls.cl (Gr _ _ _ _))|(go_at_call 121;exact Calls.cl (VT _ _ _ _ _))))
   exact wpQuiet_nil rfl
  ·exact fun u g hh=>stz hh rfl rfl rfl (by kernel_rfl) (by simp[Value.oneCell']) ⟨rfl,rfl⟩
  intro J2 n2 K k;go_wp2_with fail;simp only[Act.put,List.setIfInBounds_toArray,List.set_cons_succ,List.set_cons_zero,zr,World.size_alloc];refine Yp 10 (by kernel_rfl) (by kernel_rfl) ?_;simp only[tkd];repeat(go_big_quiet_step (exact Calls.cl (Gr _ _ _ _)))
  refine wpQuiet_nil ?_;intro w' h';obtain⟨J6,n6,rfl⟩:=h'.more
  go_wp2
  refine bodyPost_ret (YF zbk rfl rfl) rfl ⟨?_,zst⟩;simp[YV,ZQ,HM.o,HA.o,JG,dir,Int.mul_comm]
theorem Lu(s:Sh)(C R:Int)(b:ByteArray)(hz:b.size<=281474976710656)(hC:C<=9223372036854775807)(w:World):Ya 71 #[sv s,ar C R b] w (.tuple #[sv (Z6 (Yg C R b) s),.bool (YY (Yg C R b) s),.int .i64 (YM s)]):=by
 have HM:=hid (Ei s);have HR:=hid (fun u=>Iz C R s.ax s.ay s.sx s.sy b hz hC _ _ _ _ (rn s) (rk (Yg C R b) s) rfl rfl rfl rfl rfl rfl u);have HG:Hid (YY (Yg C R b) s=(YH s && !(decide (rk (Yg C R b) s<rn s)) && !(s.lf == 1))):=hid rfl;have HF:Hid (∀x,YY (Yg C R b) s=x->Z6 (Yg C R b) s=if x then VZ (Yg C R b) s else zS):=hid fun _ h=>h ▸ rfl;have HC:Hid (YM s=if YH s then 0 else 90):=hid rfl;have HL:Hid (YH s=true->1<=s.lf/\s.lf<=40):=hid fun h=>(maySB_iff.1 h).2.2.2.2.2;rw[HC.o]at HM⊢;unfold Ya;generalize YY (Yg C R b) s=g at *
 generalize YH s=a at *
 generalize decide (rk (Yg C R b) s<rn s)=c at *
 cases a
 ·go_in;go_wp2_with (go_at_call 116;refine zc (HM.o _) ?_;intro J n)
  refine bodyPost_ret (Y9 zbk rfl rfl) rfl ⟨?_,zst⟩;have hg:=HG.o;simp at hg
  simp[hg,HF.o _ hg,zS]
 ·obtain⟨l1,l2⟩:=HL.o rfl;cases c;all_goals
   go_in;go_wp2_with (first|(go_at_call 116;refine zc (HM.o _) ?_;intro J n)|(go_at_call 127;refine zc (HR.o _) ?_;intro J1 n1))
   all_goals try (go_region;all_goals go_wp2_with fail)
   all_goals
    refine bodyPost_ret (Y9 zbk rfl rfl) rfl ⟨?_,zst⟩;go_tidy
    have hg:=HG.o;simp[*]at hg
    simp[hg,HF.o _ hg,zS,VZ]
end
section
open Go.RowKit
open Pu Gp Ap Vp Np
attribute [local go_sem] zr Y0
abbrev RG(m:Mv)(v a b c:Int)(w:World):Prop:=Hid (∀u,Ya 118 #[mv m] u (.int .i64 0))->Hid (∀u,Yc w u->Ya 117 #[od v a b c] u (.int .i64 (YB v a b c)))->Hid (Yw m=true)->Hid (YB v a b c=0)->Ya 65 #[mv m,od v a b c] w (.tuple #[mv (YR m v a b c),.bool (Zt m v a b c),.int .i64 (YU m v a b c)])
theorem V6{p:Prop}(h:p:=by
  unfold RG Ya;intro HC HO HM HX;rw[HX.o]at HO;go_in
  go_wp2_with (first|(go_at_call 118;refine zc (HC.o _) ?_;intro J n)|(go_at_call 117;refine zc (HO.o _ zst) ?_;intro J1 n1)|(go_at_call 120;refine zc (HU.o _ zst) ?_;intro J2 n2)|(go_at_call 119;refine zc (Gr _ _ _ _) ?_;intro J3 n3)|go_in);all_goals
   refine bodyPost_ret (Y9 zbk rfl rfl) rfl ⟨?_,zst⟩;go_tidy
   clear HC HO;simp[YR,Zt,YU,HM.o,HX.o,VY,JC,dir, *];try ((repeat' split)<;>(try (exfalso;omega))<;>simp_all<;>omega)):p:=h
variable (m:Mv) (a b c:Int) (w:World)
theorem Lv(h1:-8<=a)(h2:a<=8)(h3:-8<=b)(h4:b<=8):RG m 1 a b c w:=V6
theorem Lw:RG m 2 a b c w:=V6
theorem Lx:RG m 3 a b c w:=V6
theorem Ly(h1:1<=a)(h2:a<=3)(h3:0<=m.en)(h4:m.en<=100):RG m 4 a b c w:=V6
theorem Lz:RG m 5 0 b c w:=V6
theorem L0:RG m 5 1 b c w:=V6
theorem L5(h3:0<=m.en)(h4:m.en<=100)(HU:Hid (∀u,Yc w u->Ya 120 #[.int .i64 a] u (pt (ux (dir a)) (uy (dir a))))):RG m 6 a b c w:=V6
theorem L6:RG m 7 a b c w:=V6
theorem L7(m:Mv)(v a b c:Int)(w:World)(ht:OTab w)(hu:RTab w):Ya 65 #[mv m,od v a b c] w (.tuple #[mv (YR m v a b c),.bool (Zt m v a b c),.int .i64 (YU m v a b c)]):=by
 have HC:=hid (UO m);have HO:=hid (fun u (h:Yc w u)=>GK v a b c u (ht.sT h));rcases Xt m with⟨HM,e⟩|⟨HM,e,hb⟩<;>rw[e]at HC<;>clear e
 ·unfold Ya;go_in;go_wp2_with (go_at_call 118;refine zc (HC.o _) ?_;intro J n)
  refine bodyPost_ret (Y9 zbk rfl rfl) rfl ⟨?_,zst⟩;simp[YR,Zt,YU,HM.o,zM]
 by_cases hx:YB v a b c=0
 ·obtain⟨i,j⟩:=hb.2.2.2.2.2.1;have HX:=hid hx;rcases JF hx with⟨rfl,h1,h2,h3,h4⟩|rfl|⟨rfl,h1,h2⟩|⟨rfl,h1,h2⟩|⟨rfl,h1,h2⟩|⟨rfl,h1,h2⟩|⟨rfl,h1,h2⟩
  ·exact Lv m a b c w h1 h2 h3 h4 HC HO HM HX
  ·exact Lw m a b c w HC HO HM HX
  ·exact Lx m a b c w HC HO HM HX
  ·exact Ly m a b c w h1 h2 i j HC HO HM HX
  ·obtain rfl|rfl:a=0\/a=1:=by omega
   ·exact Lz m b c w HC HO HM HX
   ·exact L0 m b c w HC HO HM HX
  ·exact L5 m a b c w i j (hid (fun u h=>WL a u (hu.sT h))) HC HO HM HX
  ·exact L6 m a b c w HC HO HM HX
 ·clear hb;have HX:=hid hx;generalize ex:YB v a b c=x at *
  have HE:=hid ex;have hx1:(x != 0)=true:=by simpa using hx
  clear ex hx;unfold Ya;go_in;go_wp2_with (first|(go_at_call 118;refine zc (HC.o _) ?_;intro J n)|(go_at_call 117;refine zc (HO.o _ zst) ?_;intro J1 n1))
  refine bodyPost_ret (Y9 zbk rfl rfl) rfl ⟨?_,zst⟩;have hx:=HX.o;simp[YR,Zt,YU,HM.o,hx,HE.o,zM]
attribute [local go_sem] zr Y0
theorem L8(m:Mv)(h:Int)(w:World):Ya 129 #[mv m,.int .i64 h] w (.tuple #[mv (Zu m h),.bool (Zh m h),.int .i64 (YX m h)]):=by
 have HC:=hid (fun w=>UO m w);rcases Xt m with⟨HM,e⟩|⟨HM,e,hm⟩<;>rw[e]at HC<;>clear e<;>unfold Ya
 ·go_in;go_wp2_with (go_at_call 118;refine zc (HC.o _) ?_;intro J n)
  refine bodyPost_ret (Y9 zbk rfl rfl) rfl ⟨?_,zst⟩;simp[Zu,Zh,YX,HM.o,zM]
 obtain⟨-,-,-,-,⟨a1,a2⟩,⟨b1,b2⟩,-,⟨o1,o2⟩,-,-,-⟩:=hm;by_cases ha:1<=h/\h<=100
 ·obtain⟨h1,h2⟩:=ha;have HE:Hid (YX m h=0):=hid (by unfold YX;rw[if_pos HM.o,if_neg (by omega)]);by_cases h0:0<m.ou
  ·go_in;go_wp2_with (go_at_call 118;refine zc (HC.o _) ?_;intro J n)
   refine bodyPost_ret (Y9 zbk rfl rfl) rfl ⟨?_,zst⟩;simp[Zu,Zh,HE.o,UK,JE,show m.ou≠0 by omega]
  ·obtain⟨ax,ay,sx,sy,px,py,fc,hl,en,sh,co,ou,sd⟩:=m;dsimp only[mv,mcs]at *
   cases sh;all_goals
    go_in;go_wp2_with (go_at_call 118;refine zc (HC.o _) ?_;intro J n)
   ·go_loopw [1] (fun x wr=>x=.int .i64 h/\wr=more ((w.alloc (.cells #[.int .i64 ax,.int .i64 ay,.int .i64 sx,.int .i64 sy,.int .i64 px,.int .i64 py,.int .i64 fc,.int .i64 hl,.int .i64 en,.bool false,.int .i64 co,.int .i64 ou,.int .i64 sd] 59)).alloc (.cells (mcs zM) 59)) J n) (fun _ _=>0);case atStart=>exact⟨rfl,by simp[zM]⟩
    case round =>
     obtain⟨rfl,rfl⟩:=hrel;go_wp2_with fail;all_goals
      refine bodyPost_ret (Y9 zbk rfl rfl) rfl ⟨?_,zst⟩;go_tidy
      clear HC;obtain rfl:ou=0:=by omega
      simp[Zu,Zh,HE.o,UK,JE,JD,tak, *];try ((repeat' split)<;>(try (exfalso;omega))<;>simp_all<;>omega)
   go_loopw [1] (fun x wr=>∃t:Int,0<=t/\t<=en/\t<=h/\x=.int .i64 (h-t)/\wr=more ((w.alloc (.cells #[.int .i64 ax,.int .i64 ay,.int .i64 sx,.int .i64 sy,.int .i64 px,.int .i64 py,.int .i64 fc,.int .i64 hl,.int .i64 (en-t),.bool true,.int .i64 co,.int .i64 ou,.int .i64 sd] 59)).alloc (.cells (mcs zM) 59)) J n) (fun x _=>(intOf x).toNat);case atStart=>exact⟨0,by omega,by omega,by omega,by simp,by simp[zM]⟩
   case round =>
    obtain⟨t,t0,t2,t3,rfl,rfl⟩:=hrel;go_wp2_with fail
    ·go_roundw;case rel=>exact⟨t+1,by omega,by omega,by omega,by congr 1;omega,by simp[Int.sub_sub,zM]⟩
     case measure=>simp[intOf];omega
    all_goals
     refine bodyPost_ret (Y9 zbk rfl rfl) rfl ⟨?_,zst⟩;go_tidy
     clear HC;obtain rfl:ou=0:=by omega
     simp[Zu,Zh,HE.o,UK,JE,JD,tak, *];try ((repeat' split)<;>(try (exfalso;omega))<;>simp_all<;>omega)
 ·have HE:Hid (YX m h=1):=hid (by unfold YX;rw[if_pos HM.o,if_pos (by omega)]);go_in;go_wp2_with (go_at_call 118;refine zc (HC.o _) ?_;intro J n)
  all_goals
   first|(exfalso;simp_all;omega)|(refine bodyPost_ret (Y9 zbk rfl rfl) rfl ⟨?_,zst⟩;simp[Zu,Zh,HE.o,zM])
attribute [local go_sem] zr Y0
theorem KP{n d:Int}(hd:1<=d)(k:Int)(h1:-k*d<=n)(h2:n<=k*d):-k<=n.tdiv d/\n.tdiv d<=k:=by
 rcases Int.le_total 0 n with h|h
 ·rw[Int.tdiv_eq_ediv_of_nonneg h];have h3:n / d<=k:=by
   have:=Int.ediv_le_ediv (show 0<d by omega) h2;rwa [Int.mul_ediv_cancel _ (by omega)]at this
  have h4:0<=n / d:=Int.ediv_nonneg h (by omega);omega
 ·have e:n.tdiv d=-((-n).tdiv d):=by rw[Int.neg_tdiv];omega
  rw[e,Int.tdiv_eq_ediv_of_nonneg (by omega)];have h3:-n / d<=k:=by
   have:=Int.ediv_le_ediv (show 0<d by omega) (show -n<=k*d by rw[Int.neg_mul]at h1;omega);rwa [Int.mul_ediv_cancel _ (by omega)]at this
  have h4:0 <= -n / d:=Int.ediv_nonneg (by omega) (by omega);omega
theorem L9(a b c d:Nat):ZM a b c d=0\/ZM a b c d=1\/ZM a b c d=2\/ZM a b c d=3:=by
 unfold ZM;split<;>split<;>omega
theorem LA(m:Mv)(C R:Int)(s:ByteArray)(SX SY P Q X Y N DP DQ:Int)(hN:N=0\/N=1\/N=2\/N=3)(HC:Hid (∀u,Ya 118 #[mv m] u (.int .i64 0)))(h0:¬0<m.ou)(hx1:-1024<=m.sx)(hx2:m.sx<=1024)(hy1:-1024<=m.sy)(hy2:m.sy<=1024)(hp1:-256<=m.px)(hp2:m.px<=256)(hq1:-256<=m.py)(hq2:m.py<=256)
  (eSX:(m.sx*7).tdiv 8=SX) (eSY:(m.sy*7).tdiv 8=SY) (hsx1:-1024<=SX) (hsx2:SX<=1024) (hsy1:-1024<=SY) (hsy2:SY<=1024)
  (eP:Yl (SX+m.px) (-1024) 1024=P) (eQ:Yl (SY+m.py) (-1024) 1024=Q)
  (eDP:P.tdiv 2=DP) (eDQ:Q.tdiv 2=DQ) (hdp1:-1024<=DP) (hdp2:DP<=1024) (hdq1:-1024<=DQ) (hdq2:DQ<=1024)
  (HS:Hid (∀u,Ya 123 #[ar C R s,pt m.ax m.ay,pt P Q,.int .i64 1280] u (.tuple #[pt X Y,.int .i64 N]))) (w:World) :
  Ya 68 #[mv m,ar C R s] w (.tuple #[mv { m with ax:=X,ay:=Y,sx:=if N % 2=1 then -DP else P,sy:=if 2<=N then -DQ else Q },.int .i64 0]):=by
 unfold Ya;rcases hN with rfl|rfl|rfl|rfl;all_goals
  go_in
  go_wp2_with (first|(go_at_call 118;refine zc (HC.o _) ?_;intro J n)|(go_at_call 122;refine zc (Ya.of (Jo _ _ _ _)) ?_;intro J1 n1;(first|rw[eP]|rw[eQ]))|(go_at_call 123;with_reducible refine zc (HS.o _) ?_;intro J2 n2));refine bodyPost_ret (YF zbk rfl rfl) rfl ⟨?_,zst⟩;rfl
theorem LB(m:Mv)(C R:Int)(s:ByteArray)(hz:s.size<=281474976710656)(hC:C<=9223372036854775807)(w:World):Ya 68 #[mv m,ar C R s] w (.tuple #[mv (Zl (Yg C R s) m),.int .i64 (YC m)]):=by
  have HC:=hid (UO m);rcases Xt m with⟨HM,e⟩|⟨HM,e,g1,g2,g3,g4,g5,g6,g7,g8,g9,g10,g11⟩<;>rw[e]at HC⊢<;>clear e
  · unfold Ya;go_in;go_wp2_with (go_at_call 118;refine zc (HC.o _) ?_;intro J n)
    refine bodyPost_ret (YF zbk rfl rfl) rfl ⟨?_,zst⟩;simp[Zl,HM.o,zM]
  by_cases h0:0<m.ou
  · have HG:Hid (Zl (Yg C R s) m=m):=hid (by unfold Zl UJ;rw[if_pos HM.o,if_neg (by omega)])
    rw[HG.o];unfold Ya;go_in;go_wp2_with (go_at_call 118;refine zc (HC.o _) ?_;intro J n)
    refine bodyPost_ret (YF zbk rfl rfl) rfl ⟨rfl,zst⟩
  · have t1:=KP (n:=m.sx*7) (d:=8) (by omega) 1024 (by omega) (by omega)
    have t2:=KP (n:=m.sy*7) (d:=8) (by omega) 1024 (by omega) (by omega);have s1:=UL m.sx m.px;have s2:=UL m.sy m.py;have t3:=KP (n:=spd m.sx m.px) (d:=2) (by omega) 1024 (by omega) (by omega);have t4:=KP (n:=spd m.sy m.py) (d:=2) (by omega) 1024 (by omega) (by omega);have k:=LA m C R s _ _ (spd m.sx m.px) (spd m.sy m.py) _ _ _ _ _ (L9 _ _ _ _) HC h0 g2.1 g2.2.1 g2.2.2.1 g2.2.2.2 g3.1 g3.2.1 g3.2.2.1 g3.2.2.2 rfl rfl t1.1 t1.2 t2.1 t2.2
        rfl rfl rfl rfl t3.1 t3.2 t4.1 t4.2
        (hid (fun u=>Iy C R m.ax m.ay (spd m.sx m.px) (spd m.sy m.py) 1280 s hz hC _ _ _ _ 1280 _ _ _ _ _ _ rfl rfl rfl rfl (by decide) rfl rfl rfl rfl rfl rfl u)) w
    unfold Zl UJ;rw[if_pos HM.o,if_pos (by omega)];exact k
end
end Go.Proofs.YtcgmohldcokccaaGreatDoor
