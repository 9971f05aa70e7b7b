import Derived.Test.YtcgmohldcokccaaGreatDoorXR11
import Derived.Test.YtcgmohldcokccaaGreatDoorXR12
import Derived.Test.YtcgmohldcokccaaGreatDoorXR14
set_option linter.unusedVariables false
set_option maxHeartbeats 4000000
set_option maxRecDepth 100000
namespace Go.Proofs.YtcgmohldcokccaaGreatDoor
open Go.RowKit
open Pu Gp Ap Vp Np Za Ka Ja Ea Ha Hg Hi
abbrev sec(S:Se):Array Value:=#[.int .i64 S.F.p,.int .u64 S.F.q,.int .i64 S.F.C,.int .i64 S.F.R,.string S.F.s,S.F.lg,S.st,S.sp]
def Seb(w:World)(g:Nat)(S:Se):Prop:=w.heap[g]?=some (.cells (sec S) 74 (0,0))
theorem Seb.sT{w w':World}{g:Nat}{S:Se}(h:Seb w g S)(hs:Yc w w'):Seb w' g S:=hs.kept_still h
theorem Seb.cells{w:World}{g:Nat}{S:Se}(h:Seb w g S):w.cell? ⟨g,0,none⟩=some (.int .i64 S.F.p)/\w.cell? ⟨g,1,none⟩=some (.int .u64 S.F.q)/\w.cell? ⟨g,2,none⟩=some (.int .i64 S.F.C)/\w.cell? ⟨g,3,none⟩=some (.int .i64 S.F.R)/\w.cell? ⟨g,4,none⟩=some (.string S.F.s)/\w.cell? ⟨g,5,none⟩=some S.F.lg/\w.cell? ⟨g,6,none⟩=some S.st/\w.cell? ⟨g,7,none⟩=some S.sp/\∀o,w.frozen? ⟨g,o,none⟩=false:=by
 refine⟨?_,?_,?_,?_,?_,?_,?_,?_,fun o=>frozen_of_row w g o _ _ h⟩<;>(rw[cell_of_row _ _ _ _ _ _ h];rfl)
theorem D6(w:World)(S:Se):Seb (w.alloc (.cells (sec S) 74)) w.heap.size S:=heap_alloc_new w _
theorem JZ(S:Se)(N:Nat)(hp:S.F.p=(N:Int))(hN:N<=6)(y:Cm)(w:World) :
  Calls Tryz.prog 57 #[.agg (sec S),xv y] w fun e w'=>IsB e (Rgt N y)/\Yc w w':=by
 have A0:=sA w (.cells (sec S) 74);have A1:=sA (w.alloc (.cells (sec S) 74)) (.cells (xcs y) 63);have p0:=(D6 w S).sT A1;have q0:=Xc (w.alloc (.cells (sec S) 74)) y;rw[size_alloc]at q0;have HS:=hid (A0.trans A1);have HQ:=hid q0;obtain⟨c0,c1,c2,c3,c4,c5,c6,c7,cf⟩:=p0.cells;obtain⟨d0,d1,d2,d3,d4,d5,d6,df⟩:=q0.cells;rw[hp]at c0;have HW:=hid (fun u=>Uk y.pe 0 ((N:Int)-1) u);have HV:=hid (fun u=>Ft y.v y.a y.b y.c u);have HR:Hid (Rgt N y ↔ (0<=y.pe/\y.pe<=(N:Int)-1)/\1<=y.sq/\YB y.v y.a y.b y.c=0):=hid ⟨fun⟨h1,h2,h3,h4⟩=>⟨⟨h1,by omega⟩,h3,h4⟩,fun⟨⟨h1,h2⟩,h3,h4⟩=>⟨h1,by omega,h3,h4⟩⟩;obtain⟨v0,ev0⟩:∃v,YB y.v y.a y.b y.c=v:=⟨_,rfl⟩;rw[ev0]at HV HR;clear A0 A1 p0 q0 hp ev0;have hwr:IntKind.i64.wrap ((N:Int)-1)=(N:Int)-1:=by rw[IntKind.wrap_i64];omega
 by_cases t0:0<=y.pe/\y.pe<=(N:Int)-1;rotate_left
 ·rw[decide_eq_false t0]at HW;have HN:=hid (fun h=>t0 (HR.o.1 h).1);clear t0;go_enter Tryz.func57,Tryz.ntmps57;go_wp2_with fail;refine(HW.o _).mono ?_;rintro e w1 ⟨he,hw⟩;rw[he,hw];clear he hw w1;go_wp2_with fail;go_ret;exact⟨IsB.no HN.o,HS.o⟩
 rw[decide_eq_true t0]at HW;have T0:=hid t0;clear t0;by_cases t1:1<=y.sq;rotate_left
 ·have b1:decide (y.sq ≥ 1)=false:=decide_eq_false t1;have b1':decide (1<=y.sq)=false:=decide_eq_false t1;have HN:=hid (fun h=>t1 (HR.o.1 h).2.1);clear t1;go_enter Tryz.func57,Tryz.ntmps57;go_wp2_with fail;refine(HW.o _).mono ?_;rintro e w1 ⟨he,hw⟩;rw[he,hw];clear he hw w1;go_wp2_with fail;go_ret;exact⟨IsB.no HN.o,HS.o⟩
 have b1:decide (y.sq ≥ 1)=true:=decide_eq_true t1;have b1':decide (1<=y.sq)=true:=decide_eq_true t1;have T1:=hid t1;clear t1;go_enter Tryz.func57,Tryz.ntmps57;go_wp2_with fail;refine(HW.o _).mono ?_;rintro e w1 ⟨he,hw⟩;rw[he,hw];clear he hw w1;go_wp2_with fail;refine(HV.o _).mono ?_;rintro e w1 ⟨rfl,h1⟩;have HS1:=hid (HS.o.trans h1);clear h1 HS HQ c0 c1 c2 c3 c4 c5 c6 c7 cf d0 d1 d2 d3 d4 d5 d6 df;by_cases t2:v0=0
 ·have b2:(v0 == 0)=true:=by simpa using t2
  have HY:=hid (HR.o.2 ⟨T0.o,T1.o,t2⟩);clear t2;go_wp2_with fail;go_ret;exact⟨IsB.yes HY.o,HS1.o⟩
 ·have b2:(v0 == 0)=false:=by simpa using t2
  have HN:=hid (fun h=>t2 (HR.o.1 h).2.2);clear t2;go_wp2_with fail;go_ret;exact⟨IsB.no HN.o,HS1.o⟩
structure Q13 (x:World) (F:Cf) (v:Int) (st sp:List (Int × Int)):Prop where
 chk:∀u:World,Yc x u->Ya 51 #[ar F.C F.R F.s] u (.int .i64 v)
 sts:∀u:World,Yc x u->Calls Tryz.prog 52 #[ar F.C F.R F.s] u fun e w'=>∃a,e=.returned a/\OwG KT 57 w' u.heap.size a st/\Yc u w'
 sps:∀u:World,Yc x u->Calls Tryz.prog 53 #[ar F.C F.R F.s] u fun e w'=>∃a,e=.returned a/\OwG KT 57 w' u.heap.size a sp/\Yc u w'
theorem S1{w:World}{g:Nat}{p q C R:Int}{s:ByteArray}{lo ao bo:Option Addr}{ln lc an ac bn bc:Nat}(h:w.heap[g]?=some (.cells #[.int .i64 p,.int .u64 q,.int .i64 C,.int .i64 R,.string s,.slice lo ln lc,.slice ao an ac,.slice bo bn bc] 74 (0,0))):(loadVar 74 ⟨g,0,none⟩).run Tryz.prog w=.ok (.agg #[.int .i64 p,.int .u64 q,.int .i64 C,.int .i64 R,.string s,.slice lo ln lc,.slice ao an ac,.slice bo bn bc]) w:=by
 have c0:w.cell? ⟨g,0,none⟩=some (.int .i64 p):=by rw[cell_of_row _ _ _ _ _ _ h];rfl
 have c1:w.cell? ⟨g,1,none⟩=some (.int .u64 q):=by rw[cell_of_row _ _ _ _ _ _ h];rfl
 have c2:w.cell? ⟨g,2,none⟩=some (.int .i64 C):=by rw[cell_of_row _ _ _ _ _ _ h];rfl
 have c3:w.cell? ⟨g,3,none⟩=some (.int .i64 R):=by rw[cell_of_row _ _ _ _ _ _ h];rfl
 have c4:w.cell? ⟨g,4,none⟩=some (.string s):=by rw[cell_of_row _ _ _ _ _ _ h];rfl
 have c5:w.cell? ⟨g,5,none⟩=some (.slice lo ln lc):=by rw[cell_of_row _ _ _ _ _ _ h];rfl
 have c6:w.cell? ⟨g,6,none⟩=some (.slice ao an ac):=by rw[cell_of_row _ _ _ _ _ _ h];rfl
 have c7:w.cell? ⟨g,7,none⟩=some (.slice bo bn bc):=by rw[cell_of_row _ _ _ _ _ _ h];rfl
 clear h;go_simp
theorem Jg{w:World}{g:Nat}{z0 z1 z2 z3 z4 z5 z6 z7:Value}{p q C R:Int}{s:ByteArray}{lo ao bo:Option Addr}{ln lc an ac bn bc:Nat}(h0:w.heap[g]?=some (.cells #[z0,z1,z2,z3,z4,z5,z6,z7] 74 (0,0))):(((((((((w.setCell ⟨g,0,none⟩ (.int .i64 p)).setCell ⟨g,1,none⟩ (.int .u64 q)).setCell ⟨g,2,none⟩ (.int .i64 C)).setCell ⟨g,3,none⟩ (.int .i64 R)).setCell ⟨g,4,none⟩ (.string s)).setCell ⟨g,5,none⟩ (.slice lo ln lc)).setCell ⟨g,6,none⟩ (.slice ao an ac)).setCell ⟨g,7,none⟩ (.slice bo bn bc))).heap[g]?=some (.cells #[.int .i64 p,.int .u64 q,.int .i64 C,.int .i64 R,.string s,.slice lo ln lc,.slice ao an ac,.slice bo bn bc] 74 (0,0)):=by
 have h1:(w.setCell ⟨g,0,none⟩ (.int .i64 p)).heap[g]?=some (.cells #[.int .i64 p,z1,z2,z3,z4,z5,z6,z7] 74 (0,0)):=(heap_setCell_same w g 0 _ _ (.int .i64 p) h0).trans (by kernel_rfl);have h2:((w.setCell ⟨g,0,none⟩ (.int .i64 p)).setCell ⟨g,1,none⟩ (.int .u64 q)).heap[g]?=some (.cells #[.int .i64 p,.int .u64 q,z2,z3,z4,z5,z6,z7] 74 (0,0)):=(heap_setCell_same (w.setCell ⟨g,0,none⟩ (.int .i64 p)) g 1 _ _ (.int .u64 q) h1).trans (by kernel_rfl);have h3:(((w.setCell ⟨g,0,none⟩ (.int .i64 p)).setCell ⟨g,1,none⟩ (.int .u64 q)).setCell ⟨g,2,none⟩ (.int .i64 C)).heap[g]?=some (.cells #[.int .i64 p,.int .u64 q,.int .i64 C,z3,z4,z5,z6,z7] 74 (0,0)):=(heap_setCell_same ((w.setCell ⟨g,0,none⟩ (.int .i64 p)).setCell ⟨g,1,none⟩ (.int .u64 q)) g 2 _ _ (.int .i64 C) h2).trans (by kernel_rfl);have h4:((((w.setCell ⟨g,0,none⟩ (.int .i64 p)).setCell ⟨g,1,none⟩ (.int .u64 q)).setCell ⟨g,2,none⟩ (.int .i64 C)).setCell ⟨g,3,none⟩ (.int .i64 R)).heap[g]?=some (.cells #[.int .i64 p,.int .u64 q,.int .i64 C,.int .i64 R,z4,z5,z6,z7] 74 (0,0)):=(heap_setCell_same (((w.setCell ⟨g,0,none⟩ (.int .i64 p)).setCell ⟨g,1,none⟩ (.int .u64 q)).setCell ⟨g,2,none⟩ (.int .i64 C)) g 3 _ _ (.int .i64 R) h3).trans (by kernel_rfl);have h5:(((((w.setCell ⟨g,0,none⟩ (.int .i64 p)).setCell ⟨g,1,none⟩ (.int .u64 q)).setCell ⟨g,2,none⟩ (.int .i64 C)).setCell ⟨g,3,none⟩ (.int .i64 R)).setCell ⟨g,4,none⟩ (.string s)).heap[g]?=some (.cells #[.int .i64 p,.int .u64 q,.int .i64 C,.int .i64 R,.string s,z5,z6,z7] 74 (0,0)):=(heap_setCell_same ((((w.setCell ⟨g,0,none⟩ (.int .i64 p)).setCell ⟨g,1,none⟩ (.int .u64 q)).setCell ⟨g,2,none⟩ (.int .i64 C)).setCell ⟨g,3,none⟩ (.int .i64 R)) g 4 _ _ (.string s) h4).trans (by kernel_rfl);have h6:((((((w.setCell ⟨g,0,none⟩ (.int .i64 p)).setCell ⟨g,1,none⟩ (.int .u64 q)).setCell ⟨g,2,none⟩ (.int .i64 C)).setCell ⟨g,3,none⟩ (.int .i64 R)).setCell ⟨g,4,none⟩ (.string s)).setCell ⟨g,5,none⟩ (.slice lo ln lc)).heap[g]?=some (.cells #[.int .i64 p,.int .u64 q,.int .i64 C,.int .i64 R,.string s,.slice lo ln lc,z6,z7] 74 (0,0)):=(heap_setCell_same (((((w.setCell ⟨g,0,none⟩ (.int .i64 p)).setCell ⟨g,1,none⟩ (.int .u64 q)).setCell ⟨g,2,none⟩ (.int .i64 C)).setCell ⟨g,3,none⟩ (.int .i64 R)).setCell ⟨g,4,none⟩ (.string s)) g 5 _ _ (.slice lo ln lc) h5).trans (by kernel_rfl);have h7:(((((((w.setCell ⟨g,0,none⟩ (.int .i64 p)).setCell ⟨g,1,none⟩ (.int .u64 q)).setCell ⟨g,2,none⟩ (.int .i64 C)).setCell ⟨g,3,none⟩ (.int .i64 R)).setCell ⟨g,4,none⟩ (.string s)).setCell ⟨g,5,none⟩ (.slice lo ln lc)).setCell ⟨g,6,none⟩ (.slice ao an ac)).heap[g]?=some (.cells #[.int .i64 p,.int .u64 q,.int .i64 C,.int .i64 R,.string s,.slice lo ln lc,.slice ao an ac,z7] 74 (0,0)):=(heap_setCell_same ((((((w.setCell ⟨g,0,none⟩ (.int .i64 p)).setCell ⟨g,1,none⟩ (.int .u64 q)).setCell ⟨g,2,none⟩ (.int .i64 C)).setCell ⟨g,3,none⟩ (.int .i64 R)).setCell ⟨g,4,none⟩ (.string s)).setCell ⟨g,5,none⟩ (.slice lo ln lc)) g 6 _ _ (.slice ao an ac) h6).trans (by kernel_rfl);have h8:((((((((w.setCell ⟨g,0,none⟩ (.int .i64 p)).setCell ⟨g,1,none⟩ (.int .u64 q)).setCell ⟨g,2,none⟩ (.int .i64 C)).setCell ⟨g,3,none⟩ (.int .i64 R)).setCell ⟨g,4,none⟩ (.string s)).setCell ⟨g,5,none⟩ (.slice lo ln lc)).setCell ⟨g,6,none⟩ (.slice ao an ac)).setCell ⟨g,7,none⟩ (.slice bo bn bc)).heap[g]?=some (.cells #[.int .i64 p,.int .u64 q,.int .i64 C,.int .i64 R,.string s,.slice lo ln lc,.slice ao an ac,.slice bo bn bc] 74 (0,0)):=(heap_setCell_same (((((((w.setCell ⟨g,0,none⟩ (.int .i64 p)).setCell ⟨g,1,none⟩ (.int .u64 q)).setCell ⟨g,2,none⟩ (.int .i64 C)).setCell ⟨g,3,none⟩ (.int .i64 R)).setCell ⟨g,4,none⟩ (.string s)).setCell ⟨g,5,none⟩ (.slice lo ln lc)).setCell ⟨g,6,none⟩ (.slice ao an ac)) g 7 _ _ (.slice bo bn bc) h7).trans (by kernel_rfl);exact h8
theorem Ke{fn:Func}{a r:Tmp}{w:World}{g:Nat}{p q C R:Int}{s:ByteArray}{lo ao bo:Option Addr}{ln lc an ac bn bc:Nat}(hb:w.heap[g]?=some (.cells #[.int .i64 p,.int .u64 q,.int .i64 C,.int .i64 R,.string s,.slice lo ln lc,.slice ao an ac,.slice bo bn bc] 74 (0,0)))(h:fn.results=#[.cell a 74,.tmp r])(tmps:Array Value)(t:Value)(hp:tmps.getD a undef=.pointer (some ⟨g,0,none⟩))(ht:tmps.getD r undef=t) :
  (results fn tmps).run Tryz.prog w=.ok (.tuple #[.agg #[.int .i64 p,.int .u64 q,.int .i64 C,.int .i64 R,.string s,.slice lo ln lc,.slice ao an ac,.slice bo bn bc],t]) w:=by
 have hp':tmps[a]?.getD undef=.pointer (some ⟨g,0,none⟩):=by simpa using hp
 have ht':tmps[r]?.getD undef=t:=by simpa using ht
 simp[results,h,hp',ht',asAddr,S1 hb]
theorem Jh{x w:World}{g:Nat}(h:Yc x w)(hg:x.heap.size<=g)(v0 v1 v2 v3 v4 v5 v6 v7:Value):Yc x ((((((((w.setCell ⟨g,0,none⟩ v0).setCell ⟨g,1,none⟩ v1).setCell ⟨g,2,none⟩ v2).setCell ⟨g,3,none⟩ v3).setCell ⟨g,4,none⟩ v4).setCell ⟨g,5,none⟩ v5).setCell ⟨g,6,none⟩ v6).setCell ⟨g,7,none⟩ v7):=
 (((((((Fr.setCell h _ v0 (.inr hg)).setCell _ v1 (.inr hg)).setCell _ v2 (.inr hg)).setCell _ v3 (.inr hg)).setCell _ v4 (.inr hg)).setCell _ v5 (.inr hg)).setCell _ v6 (.inr hg)).setCell _ v7 (.inr hg)
theorem Uq{w:World}{g:Nat}{z0 z1 z2 z3 z4 z5 z6 z7:Value}(h:w.heap[g]?=some (.cells #[z0,z1,z2,z3,z4,z5,z6,z7] 74 (0,0))):w.cell? ⟨g,0,none⟩=some z0/\w.cell? ⟨g,1,none⟩=some z1/\w.cell? ⟨g,2,none⟩=some z2/\w.cell? ⟨g,3,none⟩=some z3/\w.cell? ⟨g,4,none⟩=some z4/\w.cell? ⟨g,5,none⟩=some z5/\w.cell? ⟨g,6,none⟩=some z6/\w.cell? ⟨g,7,none⟩=some z7/\∀o,w.frozen? ⟨g,o,none⟩=false:=by
 refine⟨?_,?_,?_,?_,?_,?_,?_,?_,fun o=>frozen_of_row w g o _ _ h⟩<;>(rw[cell_of_row _ _ _ _ _ _ h];rfl)
theorem S2(F:Cf)(v:Int)(st sp:List (Int × Int))(l:List Int)(lo:Option Addr)(n cap:Nat)(hlg:F.lg=.slice lo n cap)(w:World)(Q:Q13 w F v st sp)(hr:RdI w lo n cap l)(hc:¬((2<=F.p/\F.p<=6)/\Vh l/\v=0)) :
  Ya 24 #[cfv F] w (.tuple #[.agg #[.int .i64 0,.int .u64 0,.int .i64 0,.int .i64 0,.string ByteArray.empty,.slice none 0 0,.slice none 0 0,.slice none 0 0],.int .i64 130]):=by
 have A0:=sA w (.cells (cfc F) 27);have A1:=sA (w.alloc (.cells (cfc F) 27)) (.cells #[.int .i64 0,.int .u64 0,.int .i64 0,.int .i64 0,.string ByteArray.empty,.slice none 0 0,.slice none 0 0,.slice none 0 0] 74);have p0:=(Xp w F).sT A1;have q0:=heap_alloc_new (w.alloc (.cells (cfc F) 27)) (.cells #[.int .i64 0,.int .u64 0,.int .i64 0,.int .i64 0,.string ByteArray.empty,.slice none 0 0,.slice none 0 0,.slice none 0 0] 74);rw[size_alloc]at q0;have HS0:=hid (A0.trans A1);have HP0:Hid (Cfb ((w.alloc (.cells (cfc F) 27)).alloc (.cells #[.int .i64 0,.int .u64 0,.int .i64 0,.int .i64 0,.string ByteArray.empty,.slice none 0 0,.slice none 0 0,.slice none 0 0] 74)) w.heap.size F):=hid p0;have HZ0:=hid q0;have HZa:=hid q0;have HSa:=hid (A0.trans A1);have HPa:=hid p0;obtain⟨W0,eW0⟩:∃X,(w.alloc (.cells (cfc F) 27)).alloc (.cells #[.int .i64 0,.int .u64 0,.int .i64 0,.int .i64 0,.string ByteArray.empty,.slice none 0 0,.slice none 0 0,.slice none 0 0] 74)=X:=⟨_,rfl⟩;rw[eW0]at HS0 HP0 HZ0;have HQ:=hid Q;have HR:=hid hr;have HL:=hid hlg;have HC:=hid hc;have HM:=hid (fun u (hu:Yc w u)=>NF l lo n cap u (hr.sT hu));have HK:=hid (fun u (hu:Yc w u)=>Q.chk u hu);obtain⟨c0,c1,c2,c3,c4,c5,cf⟩:=HP0.o.cells;rw[hlg]at c5;clear Q hr hlg hc A0 A1 p0 q0;by_cases t0:2<=F.p/\F.p<=6;rotate_left
 ·have HW:=hid (fun u=>Uk F.p 2 6 u);rw[decide_eq_false t0]at HW;clear t0;go_enter Tryz.func24,Tryz.ntmps24;go_wp2_with fail;refine(HW.o _).mono ?_;rintro e w1 ⟨he,hw⟩;rw[he,hw];clear he hw w1;go_wp2_with fail;refine bodyPost_ret (Ke HZa.o rfl _ _ rfl rfl) rfl ⟨rfl,HSa.o⟩
 have HW:=hid (fun u=>Uk F.p 2 6 u);rw[decide_eq_true t0]at HW;have T0:=hid t0;clear t0;go_enter Tryz.func24,Tryz.ntmps24;go_wp2_with fail;refine(HW.o _).mono ?_;rintro e w1 ⟨he,hw⟩;rw[he,hw];clear he hw w1;go_wp2_with fail;rw[HL.o];refine(HM.o _ HSa.o).mono ?_;rintro e w2 ⟨⟨b2,rfl,hb2⟩,h2⟩;have HS2:=hid (HSa.o.trans h2);have HP2:=hid (HPa.o.sT h2);have HZ2:=hid (h2.kept_still HZa.o);have HB2:=hid hb2;clear c0 c1 c2 c3 c4 c5 cf h2 hb2 HP0 HS0 HZ0 eW0;cases b2 with
 | false =>
  obtain⟨d0,d1,d2,d3,d4,d5,d6,d7,df⟩:=Uq HZ2.o;go_wp2_with fail;refine bodyPost_ret (Ke (Jg HZ2.o) rfl _ _ rfl rfl) rfl ⟨rfl,Jh HS2.o (by omega) _ _ _ _ _ _ _ _⟩
 | true =>
  have HB3:=hid (HB2.o.1 rfl);clear HB2;obtain⟨c0,c1,c2,c3,c4,c5,cf⟩:=HP2.o.cells;rw[HL.o]at c5;go_wp2_with fail;refine(HK.o _ HS2.o).mono ?_;rintro e w3 ⟨rfl,h3⟩;have HS3:=hid (HS2.o.trans h3);have HP3:=hid (HP2.o.sT h3);have HZ3:=hid (h3.kept_still HZ2.o);clear c0 c1 c2 c3 c4 c5 cf h3 HP2 HS2 HZ2;by_cases t3:v=0;rotate_left
  ·have f3:(v != 0)=true:=by simpa using t3
   clear t3;obtain⟨d0,d1,d2,d3,d4,d5,d6,d7,df⟩:=Uq HZ3.o;go_wp2_with fail;refine bodyPost_ret (Ke (Jg HZ3.o) rfl _ _ rfl rfl) rfl ⟨rfl,Jh HS3.o (by omega) _ _ _ _ _ _ _ _⟩
  exact absurd ⟨T0.o,HB3.o,t3⟩ HC.o
theorem D7(w:World)(a b:Int):RdI (w.alloc (.cells #[.int .i64 a,.int .i64 b] 3)) (some ⟨w.heap.size,0,none⟩) 2 2 [a,b]:=
 (OwI.fresh (e:=3) w #[.int .i64 a,.int .i64 b] 2 2 [a,b] rfl (Nat.le_refl _) (by unfold maxLen;omega) rfl (fun j hj=>by
  have:j=0\/j=1:=by simp at hj;omega
  rcases this with rfl|rfl<;>rfl)).rd
def itn(y z:Cm):Int:=orI [cI y.pe z.pe,cI y.sq z.sq]
theorem Kf(y z:Cm):itn y z<0 ↔ Y8 y z=true:=by
 rw[lessC_iff];unfold itn;rcases Qk y.pe z.pe with⟨h1,h2⟩|⟨h1,h2⟩|⟨h1,h2⟩<;>rcases Qk y.sq z.sq with⟨h3,h4⟩|⟨h3,h4⟩|⟨h3,h4⟩<;>rw[h2,h4]<;>simp[orI]<;>omega
theorem Fu(y z:Cm):itn y z=0 ↔ y.pe=z.pe/\y.sq=z.sq:=by
 unfold itn;rcases Qk y.pe z.pe with⟨h1,h2⟩|⟨h1,h2⟩|⟨h1,h2⟩<;>rcases Qk y.sq z.sq with⟨h3,h4⟩|⟨h3,h4⟩|⟨h3,h4⟩<;>rw[h2,h4]<;>simp[orI]<;>omega
theorem Ur(y z:Cm)(w:World):Ya 44 #[xv y,xv z] w (.int .i64 (itn y z)):=by
 have A0:=sA w (.cells (xcs y) 63);have A1:=sA (Zx w y) (.cells (xcs z) 63);have p0:=(Xc w y).sT A1;have q0:=Xc (Zx w y) z;rw[size_alloc]at q0;have HS:Hid (Yc w (Zx (Zx w y) z)):=hid (A0.trans A1);have HU:Hid (itn y z=orI [cI y.pe z.pe,cI y.sq z.sq]):=hid rfl;have H0:=hid (fun w=>Q1 y.pe z.pe w);have H1:=hid (fun w=>Q1 y.sq z.sq w);obtain⟨r0,e0⟩:∃r,cI y.pe z.pe=r:=⟨_,rfl⟩;obtain⟨r1,e1⟩:∃r,cI y.sq z.sq=r:=⟨_,rfl⟩;rw[e0,e1]at HU;rw[e0]at H0;rw[e1]at H1;obtain⟨v,ev⟩:∃v,itn y z=v:=⟨_,rfl⟩;rw[ev]at HU⊢;clear e0 e1 ev;obtain⟨k0,k1,k2,k3,k4,k5,k6⟩:=p0.cl;obtain⟨l0,l1,l2,l3,l4,l5,l6⟩:=q0.cl;have hne:=Aft.here (Zx (Zx w y) z);clear A0 A1 p0 q0;go_enter Tryz.func44,Tryz.ntmps44;go_wp2_with fail;refine Yp 10 (by kernel_rfl) (by kernel_rfl) ?_;simp only[tkd];repeat(go_big_quiet_step ((first|(go_at_call 89;with_reducible exact Calls.cl_same (H0.o _))|(go_at_call 89;with_reducible exact Calls.cl_same (H1.o _)))))
 refine wpQuiet_nil ?_;intro w1 h1;have HS1:=hid ((HS.o.trans h1).trans (sA w1 (.cells #[.int .i64 r0,.int .i64 r1] 3)));have HO:=hid (Fh _ _ _ _ _ (D7 w1 r0 r1));rw[<- HU.o]at HO;clear HU h1 k0 k1 k2 k3 k4 k5 k6 l0 l1 l2 l3 l4 l5 l6 hne H0 H1 HS;go_wp2_with fail;refine HO.o.mono ?_;rintro e w2 ⟨he,hw⟩;rw[he,hw];clear he hw w2 HO;go_wp2_with fail
 (try simp only[Exit.inBlock,Exit.then])
 go_ret;exact⟨rfl,HS1.o⟩
theorem IsB.is_no{e:Ending}{Q:Prop}(h:IsB e Q)(hq:¬Q):e=.returned (.bool false):=by
 obtain⟨b,h1,h2⟩:=h;cases b with
 | false=>exact h1
 | true=>exact absurd (h2.1 rfl) hq
theorem IsB.is_yes{e:Ending}{Q:Prop}(h:IsB e Q)(hq:Q):e=.returned (.bool true):=by
 obtain⟨b,h1,h2⟩:=h;cases b with
 | true=>exact h1
 | false=>exact absurd (h2.2 hq) (by simp)
def Us(N:Nat)(f:Int)(l:List Cm)(i:Nat):Prop:=(Rgt N (cm l i)/\(cm l i).fr=f)/\(0<i->Y8 (cm l (i-1)) (cm l i)=true)
theorem S3(S:Se)(N:Nat)(hp:S.F.p=(N:Int))(hN:N<=6)(f:Int)(l:List Cm)(xo:Option Addr)(n xcp:Nat)(w:World)(hr:RdG KX w xo n l) :
  Calls Tryz.prog 26 #[.agg (sec S),.int .i64 f,.slice xo n xcp] w fun e w'=>IsB e (Z1 (N:Int) f l)/\Yc w w':=by
 have A0:=sA w (.cells (sec S) 74);have HP:=hid (D6 w S);have HS:=hid A0;have HR:=hid hr;have HL:=hid hr.1;have hn48:n<=281474976710656:=hr.2.1;have HPp:=hid hp;clear A0 hr hp;have HO:Hid (Z1 (N:Int) f l ↔ ∀i,i<l.length->Us N f l i):=hid (by
  unfold Z1 Us cm;rw[Int.toNat_natCast];rfl)
 go_enter Tryz.func26,Tryz.ntmps26;go_wp2_with fail;go_loopw [11] (fun u wr=>∃i:Nat,i<=n/\u=.int .i64 (i:Int)/\Hid (∀j,j<i->Us N f l j)/\Yc (w.alloc (.cells (sec S) 74)) wr) (fun u _=>n-(intOf u).toNat);case atStart=>exact⟨0,by omega,rfl,hid (fun j h=>by omega),Fr.refl _ _⟩
 case round =>
  obtain⟨i,hi,rfl,HJ,hs⟩:=hrel;by_cases hin:i<n
  ·have hlt:(i:Int)<(n:Int):=by omega
   have hrd:=HR.o.sT (HS.o.trans hs);obtain⟨C,o,rfl⟩:=hrd.at (by omega);obtain⟨q0,q1,q2,q3,q4,q5,q6⟩:=rdX hrd hin;have HNo:Hid (¬Us N f l i->¬Z1 (N:Int) f l):=hid (fun h h2=>h (HO.o.1 h2 i (by have:=HL.o;omega)));have HYs:Hid (Us N f l i->∀j,j<i+1->Us N f l j):=hid (fun h j hj=>by
    by_cases e:j=i
    ·subst e;exact h
    ·exact HJ.o j (by omega))
   have HD:Hid (Us N f l i ↔ (Rgt N (cm l i)/\(cm l i).fr=f)/\(0<i->Y8 (cm l (i-1)) (cm l i)=true)):=hid Iff.rfl;obtain⟨y,ey⟩:∃z,cm l i=z:=⟨_,rfl⟩;simp only[ey]at q0 q1 q2 q3 q4 q5 q6;rw[ey]at HD;have A1:=sA wr (.cells (xcs y) 63);have HSx:=hid ((HS.o.trans hs).trans A1);have HSy:=hid (hs.trans A1);have p1:=(HP.o.sT hs).sT A1;have x1:=Xc wr y;have HRx:=hid (HR.o.sT HSx.o);obtain⟨c0,c1,c2,c3,c4,c5,c6,c7,cf⟩:=p1.cells;obtain⟨d0,d1,d2,d3,d4,d5,d6,df⟩:=x1.cells;have k0:=kC c0;have k1:=kC c1;have k2:=kC c2;have k3:=kC c3;have k4:=kC c4;have k5:=kC c5;have k6:=kC c6;have k7:=kC c7;obtain⟨n0,n1,n2,n3,n4,n5,n6⟩:=x1.cl;have hne:=Aft.here (Zx wr y);clear ey A1 hs hrd p1 x1;by_cases t0:y.fr=f;rotate_left
   ·have b0:(y.fr != f)=true:=by simpa using t0
    have HX:=hid (HNo.o (fun h=>t0 (HD.o.1 h).1.2));clear t0;have HMo:=hid (fun u=>JZ S N HPp.o hN y u);have HIt:=hid (fun u=>Ur y y u);go_upto_region 4 with fail;refine Yk (by kernel_rfl) (by kernel_rfl) ?_;repeat(go_big_quiet_step ((first|(go_at_call 57;with_reducible exact Calls.cl (HMo.o _))|(go_at_call 44;with_reducible exact Calls.cl (HIt.o _)))))
    refine wpQuiet_nil ?_;intro w3 h3;have HS3:=hid (HSx.o.trans h3);clear h3 k0 k1 k2 k3 k4 k5 k6 k7 n0 n1 n2 n3 n4 n5 n6 hne q0 q1 q2 q3 q4 q5 q6 c0 c1 c2 c3 c4 c5 c6 c7 cf d0 d1 d2 d3 d4 d5 d6 df;go_wp2_with fail
    (try rw[Exit.noGoto_ret])
    go_ret;exact⟨IsB.no HX.o,HS3.o⟩
   subst t0;by_cases t1:Rgt N y;rotate_left
   ·have HMo:=hid (fun u=>(JZ S N HPp.o hN y u).mono fun e w' ⟨h1,h2⟩=>And.intro (h1.is_no t1) h2);have HIt:=hid (fun u=>Ur y y u);have HX:=hid (HNo.o (fun h=>t1 (HD.o.1 h).1.1));clear t1;go_upto_region 4 with fail;refine Yk (by kernel_rfl) (by kernel_rfl) ?_;repeat(go_big_quiet_step ((first|(go_at_call 57;with_reducible exact Calls.cl (HMo.o _))|(go_at_call 44;with_reducible exact Calls.cl (HIt.o _)))))
    refine wpQuiet_nil ?_;intro w3 h3;have HS3:=hid (HSx.o.trans h3);clear h3 k0 k1 k2 k3 k4 k5 k6 k7 n0 n1 n2 n3 n4 n5 n6 hne q0 q1 q2 q3 q4 q5 q6 c0 c1 c2 c3 c4 c5 c6 c7 cf d0 d1 d2 d3 d4 d5 d6 df;go_wp2_with fail
    (try rw[Exit.noGoto_ret])
    go_ret;exact⟨IsB.no HX.o,HS3.o⟩
   have HMo:=hid (fun u=>(JZ S N HPp.o hN y u).mono fun e w' ⟨h1,h2⟩=>And.intro (h1.is_yes t1) h2);have T1:=hid t1;clear t1;by_cases hi0:i=0
   ·have b3:decide ((i:Int) > 0)=false:=by simp;omega
    have b3':decide ((0:Int)<(i:Int))=false:=b3;have b5:decide (0<i)=false:=by simp;omega
    have b6:¬0<i:=by omega
    have HX:=hid (HYs.o (HD.o.2 ⟨⟨T1.o,rfl⟩,fun h=>absurd h (by omega)⟩));clear hi0;have HIt:=hid (fun u=>Ur y y u);go_upto_region 4 with fail;refine Yk (by kernel_rfl) (by kernel_rfl) ?_;repeat(go_big_quiet_step ((first|(go_at_call 57;with_reducible exact Calls.cl (HMo.o _))|(go_at_call 44;with_reducible exact Calls.cl (HIt.o _)))))
    refine wpQuiet_nil ?_;intro w3 h3;have HSR:=hid (HSy.o.trans h3);clear h3 k0 k1 k2 k3 k4 k5 k6 k7 n0 n1 n2 n3 n4 n5 n6 hne q0 q1 q2 q3 q4 q5 q6 c0 c1 c2 c3 c4 c5 c6 c7 cf d0 d1 d2 d3 d4 d5 d6 df;go_wp2_with fail;go_roundw;case rel=>exact⟨i+1,by omega,by go_num,HX,HSR.o⟩
    case measure=>first|(simp[intOf];done)|(simp[intOf];omega)
   ·obtain⟨m,rfl⟩:∃m,i=m+1:=⟨i-1,by omega⟩;obtain⟨r0,r1,r2,r3,r4,r5,r6⟩:=rdX (HRx.o) (i:=m) (by omega);rw[show m+1-1=m by omega]at HD;have HIt:=hid (fun u=>Ur (cm l m) y u);have HLs:=hid (Kf (cm l m) y);obtain⟨z,ez⟩:∃z,cm l m=z:=⟨_,rfl⟩;simp only[ez]at r0 r1 r2 r3 r4 r5 r6;rw[ez]at HD HIt HLs;have s0:=kC r0;have s1:=kC r1;have s2:=kC r2;have s3:=kC r3;have s4:=kC r4;have s5:=kC r5;have s6:=kC r6;have z1:((m:Int)+1).toNat=m+1:=by omega
    have z3:(m:Int)+1<(n:Int):=by omega
    have z4:(m:Int)<(n:Int):=by omega
    have z5:(0:Int)<=(m:Int)+1:=by omega
    have z6:(0:Int)<(m:Int)+1:=by omega
    obtain⟨v,ev⟩:∃v,itn z y=v:=⟨_,rfl⟩;rw[ev]at HIt HLs;clear ez ev;by_cases t2:v ≥ 0
    ·have b2:decide (v ≥ 0)=true:=decide_eq_true t2;have b2':decide (0<=v)=true:=decide_eq_true t2;have HX:=hid (HNo.o (fun h=>by have:=HLs.o.2 ((HD.o.1 h).2 (by omega));omega));clear t2;go_upto_region 4 with fail;refine Yk (by kernel_rfl) (by kernel_rfl) ?_;repeat(go_big_quiet_step ((first|(go_at_call 57;with_reducible exact Calls.cl (HMo.o _))|(go_at_call 44;with_reducible exact Calls.cl (HIt.o _)))))
     refine wpQuiet_nil ?_;intro w3 h3;have HS3:=hid (HSx.o.trans h3);have HSR:=hid (HSy.o.trans h3);clear h3 k0 k1 k2 k3 k4 k5 k6 k7 n0 n1 n2 n3 n4 n5 n6 hne q0 q1 q2 q3 q4 q5 q6 c0 c1 c2 c3 c4 c5 c6 c7 cf d0 d1 d2 d3 d4 d5 d6 df s0 s1 s2 s3 s4 s5 s6 r0 r1 r2 r3 r4 r5 r6;go_wp2_with fail
     (try rw[Exit.noGoto_ret])
     go_ret;exact⟨IsB.no HX.o,HS3.o⟩
    ·have b2:decide (v ≥ 0)=false:=decide_eq_false t2;have b2':decide (0<=v)=false:=decide_eq_false t2;have HX:=hid (HYs.o (HD.o.2 ⟨⟨T1.o,rfl⟩,fun _=>HLs.o.1 (by omega)⟩));clear t2;go_upto_region 4 with fail;refine Yk (by kernel_rfl) (by kernel_rfl) ?_;repeat(go_big_quiet_step ((first|(go_at_call 57;with_reducible exact Calls.cl (HMo.o _))|(go_at_call 44;with_reducible exact Calls.cl (HIt.o _)))))
     refine wpQuiet_nil ?_;intro w3 h3;have HS3:=hid (HSx.o.trans h3);have HSR:=hid (HSy.o.trans h3);clear h3 k0 k1 k2 k3 k4 k5 k6 k7 n0 n1 n2 n3 n4 n5 n6 hne q0 q1 q2 q3 q4 q5 q6 c0 c1 c2 c3 c4 c5 c6 c7 cf d0 d1 d2 d3 d4 d5 d6 df s0 s1 s2 s3 s4 s5 s6 r0 r1 r2 r3 r4 r5 r6;go_wp2_with fail;go_roundw;case rel=>exact⟨m+1+1,by omega,by go_num,HX,HSR.o⟩
     case measure=>first|(simp[intOf];done)|(simp[intOf];omega)
  ·have hge:¬(i:Int)<(n:Int):=by omega
   have HY:=hid (HO.o.2 (fun j hj=>HJ.o j (by have:=HL.o;omega)));have HS1:=hid (HS.o.trans hs);clear hs HJ;go_wp2_with fail;go_ret;exact⟨IsB.yes HY.o,HS1.o⟩
def Ut(N:Nat)(l:List Cm)(i:Nat):Prop:=Rgt N (cm l i)/\(0<i->¬itn (cm l (i-1)) (cm l i)=0)
def Kg(N:Nat)(l:List Cm):Prop:=∀i,i<l.length->Ut N l i
theorem S4(S:Se)(N:Nat)(hp:S.F.p=(N:Int))(hN:N<=6)(l:List Cm)(xo:Option Addr)(n xcp:Nat)(w:World)(hr:RdG KX w xo n l) :
  Calls Tryz.prog 45 #[.agg (sec S),.slice xo n xcp] w fun e w'=>IsB e (Kg N l)/\Yc w w':=by
 have A0:=sA w (.cells (sec S) 74);have HP:=hid (D6 w S);have HS:=hid A0;have HR:=hid hr;have HL:=hid hr.1;have hn48:n<=281474976710656:=hr.2.1;have HPp:=hid hp;clear A0 hr hp;have HO:Hid (Kg N l ↔ ∀i,i<l.length->Ut N l i):=hid Iff.rfl;go_enter Tryz.func45,Tryz.ntmps45;go_wp2_with fail;go_loopw [9] (fun u wr=>∃i:Nat,i<=n/\u=.int .i64 (i:Int)/\Hid (∀j,j<i->Ut N l j)/\Yc (w.alloc (.cells (sec S) 74)) wr) (fun u _=>n-(intOf u).toNat);case atStart=>exact⟨0,by omega,rfl,hid (fun j h=>by omega),Fr.refl _ _⟩
 case round =>
  obtain⟨i,hi,rfl,HJ,hs⟩:=hrel;by_cases hin:i<n
  ·have hlt:(i:Int)<(n:Int):=by omega
   have hrd:=HR.o.sT (HS.o.trans hs);obtain⟨C,o,rfl⟩:=hrd.at (by omega);obtain⟨q0,q1,q2,q3,q4,q5,q6⟩:=rdX hrd hin;have HNo:Hid (¬Ut N l i->¬Kg N l):=hid (fun h h2=>h (HO.o.1 h2 i (by have:=HL.o;omega)));have HYs:Hid (Ut N l i->∀j,j<i+1->Ut N l j):=hid (fun h j hj=>by
    by_cases e:j=i
    ·subst e;exact h
    ·exact HJ.o j (by omega))
   have HD:Hid (Ut N l i ↔ Rgt N (cm l i)/\(0<i->¬itn (cm l (i-1)) (cm l i)=0)):=hid Iff.rfl;obtain⟨y,ey⟩:∃z,cm l i=z:=⟨_,rfl⟩;simp only[ey]at q0 q1 q2 q3 q4 q5 q6;rw[ey]at HD;have A1:=sA wr (.cells (xcs y) 63);have HSx:=hid ((HS.o.trans hs).trans A1);have HSy:=hid (hs.trans A1);have p1:=(HP.o.sT hs).sT A1;have x1:=Xc wr y;have HRx:=hid (HR.o.sT HSx.o);obtain⟨c0,c1,c2,c3,c4,c5,c6,c7,cf⟩:=p1.cells;obtain⟨d0,d1,d2,d3,d4,d5,d6,df⟩:=x1.cells;have k0:=kC c0;have k1:=kC c1;have k2:=kC c2;have k3:=kC c3;have k4:=kC c4;have k5:=kC c5;have k6:=kC c6;have k7:=kC c7;obtain⟨n0,n1,n2,n3,n4,n5,n6⟩:=x1.cl;have hne:=Aft.here (Zx wr y);clear ey A1 hs hrd p1 x1;by_cases t1:Rgt N y;rotate_left
   ·have HMo:=hid (fun u=>(JZ S N HPp.o hN y u).mono fun e w' ⟨h1,h2⟩=>And.intro (h1.is_no t1) h2);have HIt:=hid (fun u=>Ur y y u);have HX:=hid (HNo.o (fun h=>t1 (HD.o.1 h).1));clear t1;go_upto_region 4 with fail;refine Yk (by kernel_rfl) (by kernel_rfl) ?_;repeat(go_big_quiet_step ((first|(go_at_call 57;with_reducible exact Calls.cl (HMo.o _))|(go_at_call 44;with_reducible exact Calls.cl (HIt.o _)))))
    refine wpQuiet_nil ?_;intro w3 h3;have HS3:=hid (HSx.o.trans h3);clear h3 k0 k1 k2 k3 k4 k5 k6 k7 n0 n1 n2 n3 n4 n5 n6 hne q0 q1 q2 q3 q4 q5 q6 c0 c1 c2 c3 c4 c5 c6 c7 cf d0 d1 d2 d3 d4 d5 d6 df;go_wp2_with fail
    (try rw[Exit.noGoto_ret])
    go_ret;exact⟨IsB.no HX.o,HS3.o⟩
   have HMo:=hid (fun u=>(JZ S N HPp.o hN y u).mono fun e w' ⟨h1,h2⟩=>And.intro (h1.is_yes t1) h2);have T1:=hid t1;clear t1;by_cases hi0:i=0
   ·have b3:decide ((i:Int) > 0)=false:=by simp;omega
    have b3':decide ((0:Int)<(i:Int))=false:=b3;have b5:decide (0<i)=false:=by simp;omega
    have b6:¬0<i:=by omega
    have HX:=hid (HYs.o (HD.o.2 ⟨T1.o,fun h=>absurd h (by omega)⟩));clear hi0;have HIt:=hid (fun u=>Ur y y u);go_upto_region 4 with fail;refine Yk (by kernel_rfl) (by kernel_rfl) ?_;repeat(go_big_quiet_step ((first|(go_at_call 57;with_reducible exact Calls.cl (HMo.o _))|(go_at_call 44;with_reducible exact Calls.cl (HIt.o _)))))
    refine wpQuiet_nil ?_;intro w3 h3;have HSR:=hid (HSy.o.trans h3);clear h3 k0 k1 k2 k3 k4 k5 k6 k7 n0 n1 n2 n3 n4 n5 n6 hne q0 q1 q2 q3 q4 q5 q6 c0 c1 c2 c3 c4 c5 c6 c7 cf d0 d1 d2 d3 d4 d5 d6 df;go_wp2_with fail;go_roundw;case rel=>exact⟨i+1,by omega,by go_num,HX,HSR.o⟩
    case measure=>first|(simp[intOf];done)|(simp[intOf];omega)
   ·obtain⟨m,rfl⟩:∃m,i=m+1:=⟨i-1,by omega⟩;obtain⟨r0,r1,r2,r3,r4,r5,r6⟩:=rdX (HRx.o) (i:=m) (by omega);rw[show m+1-1=m by omega]at HD;have HIt:=hid (fun u=>Ur (cm l m) y u);obtain⟨z,ez⟩:∃z,cm l m=z:=⟨_,rfl⟩;simp only[ez]at r0 r1 r2 r3 r4 r5 r6;rw[ez]at HD HIt;have s0:=kC r0;have s1:=kC r1;have s2:=kC r2;have s3:=kC r3;have s4:=kC r4;have s5:=kC r5;have s6:=kC r6;have z1:((m:Int)+1).toNat=m+1:=by omega
    have z3:(m:Int)+1<(n:Int):=by omega
    have z4:(m:Int)<(n:Int):=by omega
    have z5:(0:Int)<=(m:Int)+1:=by omega
    have z6:(0:Int)<(m:Int)+1:=by omega
    obtain⟨v,ev⟩:∃v,itn z y=v:=⟨_,rfl⟩;rw[ev]at HIt HD;clear ez ev;by_cases t2:v=0
    ·have HX:=hid (HNo.o (fun h=>(HD.o.1 h).2 (by omega) t2));subst t2;go_upto_region 4 with fail;refine Yk (by kernel_rfl) (by kernel_rfl) ?_;repeat(go_big_quiet_step ((first|(go_at_call 57;with_reducible exact Calls.cl (HMo.o _))|(go_at_call 44;with_reducible exact Calls.cl (HIt.o _)))))
     refine wpQuiet_nil ?_;intro w3 h3;have HS3:=hid (HSx.o.trans h3);have HSR:=hid (HSy.o.trans h3);clear h3 k0 k1 k2 k3 k4 k5 k6 k7 n0 n1 n2 n3 n4 n5 n6 hne q0 q1 q2 q3 q4 q5 q6 c0 c1 c2 c3 c4 c5 c6 c7 cf d0 d1 d2 d3 d4 d5 d6 df s0 s1 s2 s3 s4 s5 s6 r0 r1 r2 r3 r4 r5 r6;go_wp2_with fail
     (try rw[Exit.noGoto_ret])
     go_ret;exact⟨IsB.no HX.o,HS3.o⟩
    ·have b2:(v == 0)=false:=by simpa using t2
     have HX:=hid (HYs.o (HD.o.2 ⟨T1.o,fun _=>t2⟩));clear t2;go_upto_region 4 with fail;refine Yk (by kernel_rfl) (by kernel_rfl) ?_;repeat(go_big_quiet_step ((first|(go_at_call 57;with_reducible exact Calls.cl (HMo.o _))|(go_at_call 44;with_reducible exact Calls.cl (HIt.o _)))))
     refine wpQuiet_nil ?_;intro w3 h3;have HS3:=hid (HSx.o.trans h3);have HSR:=hid (HSy.o.trans h3);clear h3 k0 k1 k2 k3 k4 k5 k6 k7 n0 n1 n2 n3 n4 n5 n6 hne q0 q1 q2 q3 q4 q5 q6 c0 c1 c2 c3 c4 c5 c6 c7 cf d0 d1 d2 d3 d4 d5 d6 df s0 s1 s2 s3 s4 s5 s6 r0 r1 r2 r3 r4 r5 r6;go_wp2_with fail;go_roundw;case rel=>exact⟨m+1+1,by omega,by go_num,HX,HSR.o⟩
     case measure=>first|(simp[intOf];done)|(simp[intOf];omega)
  ·have hge:¬(i:Int)<(n:Int):=by omega
   have HY:=hid (HO.o.2 (fun j hj=>HJ.o j (by have:=HL.o;omega)));have HS1:=hid (HS.o.trans hs);clear hs HJ;go_wp2_with fail;go_ret;exact⟨IsB.yes HY.o,HS1.o⟩
def Z3(E:Env)(N:Nat)(L:List Cm):Nat->Wd
 | 0=>nw0 E N
 | k+1=>(frame E (Z3 E N L k) (ofC L ((k:Int)+1))).w
theorem D8{L M:List Cm}(hp:L.Perm M)(h:Dst L):Dst M:=by
 unfold Dst at *
 exact(hp.pairwise_iff (fun {a b} hn e=>hn ⟨e.1.symm,e.2.symm⟩)).1 h
theorem S5{L S:List Cm}(hp:S.Perm L)(hs:S.Pairwise (fun x y=>¬Y8 y x=true))(hd:Dst L)(f:Int):S.filter (fun x=>decide (x.fr=f))=ofC L f:=by
 have hdS:Dst S:=D8 hp.symm hd;have h1:(S.filter (fun x=>decide (x.fr=f))).Pairwise fun a b=>Y8 a b=true:=by
  have h0:S.Pairwise fun a b=>Y8 a b=true:=by
   refine(hs.and hdS).imp ?_;rintro a b ⟨h1,h2⟩;rw[lessC_iff]at h1⊢;omega
  exact h0.filter _
 refine List.Perm.eq_of_pairwise (le:=fun a b=>Y8 a b=true) (fun a b _ _ e1 e2=>?_) h1 (Nk hd f) ((hp.filter _).trans (Qf L f).symm);rw[lessC_iff]at e1 e2;omega
theorem Uu{l:List Cm}{i:Nat}(h:i<l.length):cm l i=l[i]:=by simp[cm,List.getD,h]
theorem S6{N:Nat}{S:List Cm}(hs:S.Pairwise (fun x y=>¬Y8 y x=true)):Kg N S ↔ (∀x∈S,Rgt N x)/\Dst S:=by
 constructor
 ·intro h;refine⟨fun x hx=>?_,?_⟩
  ·obtain⟨i,hi,rfl⟩:=List.mem_iff_getElem.1 hx;have:=(h i hi).1;rwa [Uu hi]at this
  ·rw[List.pairwise_iff_getElem]at hs;have step:∀i j (hi:i<S.length) (hj:j<S.length),i<j->Y8 S[i] S[j]=true:=by
    intro i j hi hj hij;induction j with
    | zero=>omega
    | succ j ih =>
     have hj':j<S.length:=by omega
     have a1:=(h (j+1) hj).2 (by omega);rw[show j+1-1=j by omega,Uu hj,Uu hj',Fu]at a1;have a2:=hs j (j+1) hj' hj (by omega);rw[lessC_iff]at a2;by_cases e:i=j
     ·subst e;rw[lessC_iff];omega
     ·have a3:=ih hj' (by omega);rw[lessC_iff]at a3⊢;omega
   unfold Dst;rw[List.pairwise_iff_getElem];intro i j hi hj hij e;have:=step i j hi hj hij;rw[lessC_iff]at this;omega
 ·rintro⟨h1,h2⟩ i hi;refine⟨by rw[Uu hi];exact h1 _ (List.getElem_mem hi),fun h0 e=>?_⟩;have hi':i-1<S.length:=by omega
  rw[Uu hi,Uu hi',Fu]at e;unfold Dst at h2;rw[List.pairwise_iff_getElem]at h2;exact h2 (i-1) i hi' hi (by omega) e
theorem D9{E:Env}{N:Nat}{L:List Cm}(hN:N<=6)(h0:Ha.Good N E (nw0 E N))(hr:∀x∈L,Rgt N x):∀k,Ha.Good N E (Z3 E N L k)/\(Z3 E N L k).fr=(k:Int)
 | 0=>⟨h0,rfl⟩
 | k+1=>by
  obtain⟨h1,h2⟩:=D9 hN h0 hr k;have h3:=Ni (E:=E) (l:=ofC L ((k:Int)+1)) hN h1 (fun x hx=>hr x (ofC_mem.1 hx).1);exact⟨h3.1,by rw[Z3,h3.2,h2];omega⟩
end Go.Proofs.YtcgmohldcokccaaGreatDoor
