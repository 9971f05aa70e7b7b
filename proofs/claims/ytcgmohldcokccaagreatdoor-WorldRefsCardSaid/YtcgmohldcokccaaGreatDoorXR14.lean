import Derived.Test.YtcgmohldcokccaaGreatDoorXR13
import Derived.Shelf.Abstract
set_option linter.unusedVariables false
set_option maxHeartbeats 4000000
set_option maxRecDepth 100000
namespace Go.Proofs.YtcgmohldcokccaaGreatDoor
section
open Go.RowKit Go.Shelf
open Vp
theorem Vkb.lt{w:World}{g:Nat}{s:ByteArray}{x:Value}(h:Vkb w g s x):g<w.heap.size:=Yz h
theorem Uo{w:World}{b:Nat}(h:Acb w b)(v:Int)(k:Nat)(z:Value)(hf:Instr.findNow (.int .i64) (.int .i64 v) acE.toList 0=some (some (k,z)))(ok:Bool) :
  (Instr.lookup 244 (.map (some b)) (.int .i64 v) ok).run Tryz.prog w=.ok (if ok then .tuple #[z,.bool true]else z) w:=by
 have h':w.heap[b]?=some (.map acE 7):=h;cases ok<;>simp[Instr.lookup,run_underlying Tryz.underlying244,MapKept.run_getObj_map h',JW,JX v _ _ hf,Result.andThen]
theorem Sk{w:World}{b:Nat}(h:Acb w b)(v:Int)(hv:isV v=false) :
  ∃z,(Instr.lookup 244 (.map (some b)) (.int .i64 v) true).run Tryz.prog w=.ok (.tuple #[z,.bool false]) w:=by
 have h':w.heap[b]?=some (.map acE 7):=h;have hf:Instr.findNow (.int .i64) (.int .i64 v) acE.toList 0=some none:=by
  have:=isV_no.1 hv;have e:∀n:Int,1<=n->n<=7->(v == n)=false:=fun n h1 h2=>by simp;omega
  simp[acE,Instr.findNow,Instr.sameNow,e 1,e 2,e 3,e 4,e 5,e 6,e 7]
 have hz:∃z,(zeroValue 242).run Tryz.prog w=.ok z w:=⟨.nilFunc,by go_simp⟩;obtain⟨z,hz⟩:=hz;refine⟨z,?_⟩;simp[Instr.lookup,run_underlying Tryz.underlying244,MapKept.run_getObj_map h',JW,JX v _ _ hf,Result.andThen,hz]
theorem Vkb.rest{fn:Func}{p q:Tmp}{w:World}{g:Nat}{s:ByteArray}{x:Value}(hb:Vkb w g s x)(h:fn.results=#[.cell p 212,.tmp q])(tmps:Array Value)(t:Value)(hp:tmps.getD p undef=.pointer (some ⟨g,0,none⟩))(hq:tmps.getD q undef=t) :
  (results fn tmps).run Tryz.prog w=.ok (.tuple #[.agg #[.string s,x],t]) w:=by
 rw[results_cell_tmp h,hp,hq];simp[asAddr,Result.andThen,Fm w g s x hb.cells.1 hb.cells.2.1]
abbrev Fo(w:World)(g:Nat)(s:ByteArray)(x:Value):World:=(w.setCell ⟨g,0,none⟩ (.string s)).setCell ⟨g,1,none⟩ x
theorem Vkb.set{w:World}{g:Nat}{s:ByteArray}{x:Value}(h:Vkb w g s x)(s':ByteArray)(x':Value):Vkb (Fo w g s' x') g s' x':=by
 unfold Vkb;have h1:=heap_setCell_same w g 0 _ _ (.string s') h;have h2:=heap_setCell_same _ g 1 _ _ x' h1;rw[h2];rfl
theorem D5{F:Nat->Prop}{y w:World}(h:Fr F y w)(g:Nat)(s:ByteArray)(x:Value)(hb:F g\/y.heap.size<=g):Fr F y (Fo w g s x):=(h.setCell _ _ hb).setCell _ _ hb
theorem Sm(v:Int)(hv:isV v=false)(w:World):Ya 167 #[.int .i64 v] w (.tuple #[.agg #[.string ByteArray.empty,.slice none 0 0],.bool false]):=by
 have q:=JY w ByteArray.empty (.slice none 0 0);have HS0:=hid (sA w (.cells #[.string ByteArray.empty,.slice none 0 0] 212));go_enter Tryz.func167,Tryz.ntmps167;go_wp2_with fail;refine(Fj _).mono ?_;rintro e w1 ⟨b,rfl,hb,ha,h1⟩;obtain⟨z,hl⟩:=Sk ha v hv;have q1:=q.sT h1;have HS1:=hid (HS0.o.trans h1);obtain⟨c0,c1,cf⟩:=q1.cells;clear h1 hb HS0 q hv;go_wp2_with fail;exact bodyPost_ret ((q1.set _ _).rest rfl _ _ rfl rfl) rfl ⟨rfl,D5 HS1.o _ _ _ (.inr (Nat.le_refl _))⟩
theorem Sn{v:Int}(hv:isV v=true):∃f,(∀w b,Acb w b->∀ok,(Instr.lookup 244 (.map (some b)) (.int .i64 v) ok).run Tryz.prog w=.ok (if ok then .tuple #[mth f,.bool true]else mth f) w) /\
  (∀args w,(callFunc f args).run Tryz.prog w=.ok (.enter f args) w) /\
  (∀w,Calls Tryz.prog f #[.agg #[]] w fun e w'=>∃x,e=.returned (.agg #[.string (nmV v),x])/\OwO w' w.heap.size x (opV v)/\Yc w w'):=by
 rcases JB hv with rfl|rfl|rfl|rfl|rfl|rfl|rfl
 ·exact⟨268,fun w b h ok=>Uo h 1 0 _ rfl ok,enters_of Tryz.func268 (by kernel_rfl) rfl,Sa⟩
 ·exact⟨269,fun w b h ok=>Uo h 2 1 _ rfl ok,enters_of Tryz.func269 (by kernel_rfl) rfl,Sc⟩
 ·exact⟨270,fun w b h ok=>Uo h 3 2 _ rfl ok,enters_of Tryz.func270 (by kernel_rfl) rfl,Sd⟩
 ·exact⟨271,fun w b h ok=>Uo h 4 3 _ rfl ok,enters_of Tryz.func271 (by kernel_rfl) rfl,Sf⟩
 ·exact⟨272,fun w b h ok=>Uo h 5 4 _ rfl ok,enters_of Tryz.func272 (by kernel_rfl) rfl,Sg⟩
 ·exact⟨273,fun w b h ok=>Uo h 6 5 _ rfl ok,enters_of Tryz.func273 (by kernel_rfl) rfl,Si⟩
 ·exact⟨274,fun w b h ok=>Uo h 7 6 _ rfl ok,enters_of Tryz.func274 (by kernel_rfl) rfl,Sj⟩
theorem So(v:Int)(hv:isV v=true)(w:World):Calls Tryz.prog 167 #[.int .i64 v] w fun e w'=>∃x,e=.returned (.tuple #[.agg #[.string (nmV v),x],.bool true])/\OwO w' w.heap.size x (opV v)/\Yc w w':=by
 have q:=JY w ByteArray.empty (.slice none 0 0);have HS0:=hid (sA w (.cells #[.string ByteArray.empty,.slice none 0 0] 212));obtain⟨f,hl,ef,hm⟩:=Sn hv;have HL:=hid hl;have HM:=hid hm;clear hl hm hv;go_enter Tryz.func167,Tryz.ntmps167;go_wp2_with fail;refine(Fj _).mono ?_;rintro e w1 ⟨b,rfl,hb,ha,h1⟩;have hl:=HL.o _ _ ha true;have q1:=q.sT h1;have HS1:=hid (HS0.o.trans h1);clear h1 hb HS0 q;go_wp2_with fail;refine(HM.o _).mono ?_;rintro e w2 ⟨x,rfl,ho,h2⟩;obtain⟨ao,cap,rfl,hao⟩:=ho.slice;have q2:=q1.sT h2;have HS2:=hid (HS1.o.trans h2);have HO:=hid (And.intro ho (And.intro HS1.o.size q1.lt));obtain⟨c0,c1,cf⟩:=q2.cells;clear h2 HS1 q1 ho hao;go_wp2_with fail;refine bodyPost_ret ((q2.set _ _).rest rfl _ _ rfl rfl) rfl ⟨_,rfl,?_,D5 HS2.o _ _ _ (.inr (Nat.le_refl _))⟩;obtain⟨h1,h2,h3⟩:=HO.o;refine(h1.keep (D5 (F:=fun k=>k=w.heap.size) (Fr.refl _ _) _ _ _ (.inl rfl)) ?_).less h2;rintro k rfl e;have:=(h1.block e).1;omega
theorem Fp(v:Int)(w:World):Calls Tryz.prog 167 #[.int .i64 v] w fun e w'=>∃ao n cap,e=.returned (.tuple #[.agg #[.string (nmV v),.slice ao n cap],.bool (isV v)])/\OwO w' w.heap.size (.slice ao n cap) (opV v)/\Yc w w':=by
 cases hv:isV v with
 | true =>
  refine(So v hv w).mono ?_;rintro e w' ⟨x,rfl,ho,hs⟩;obtain⟨ao,cap,rfl,hao⟩:=ho.slice;exact⟨_,_,_,rfl,ho,hs⟩
 | false =>
  refine(Sm v hv w).mono ?_;rintro e w' ⟨rfl,hs⟩;have e1:nmV v=ByteArray.empty:=by unfold nmV;rw[hv];rfl
  have e2:opV v=[]:=by unfold opV;rw[hv];rfl
  exact⟨none,0,0,by rw[e1],by rw[e2];exact OwO.nil _ _,hs⟩
end
section
open Go.RowKit
open Vp
def N3(w:World)(g:Nat)(a b c:Int):Prop:=w.heap[g]?=some (.cells #[.int .i64 a,.int .i64 b,.int .i64 c] 215 (0,0))
theorem N3.cells{w:World}{g:Nat}{a b c:Int}(h:N3 w g a b c) :
  w.cell? ⟨g,0,none⟩=some (.int .i64 a)/\w.cell? ⟨g,1,none⟩=some (.int .i64 b)/\w.cell? ⟨g,2,none⟩=some (.int .i64 c)/\∀o,w.frozen? ⟨g,o,none⟩=false:=by
 refine⟨?_,?_,?_,fun o=>frozen_of_row w g o _ _ h⟩<;>(rw[cell_of_row _ _ _ _ _ _ h];rfl)
theorem Sp(w:World)(a b c:Int):N3 (w.alloc (.cells #[.int .i64 a,.int .i64 b,.int .i64 c] 215)) w.heap.size a b c:=heap_alloc_new w _
abbrev n3(a b c:Int):Value:=.agg #[.int .i64 a,.int .i64 b,.int .i64 c]
theorem Sq(w:World)(g:Nat)(a b c:Int)(c0:w.cell? ⟨g,0,none⟩=some (.int .i64 a))(c1:w.cell? ⟨g,1,none⟩=some (.int .i64 b))(c2:w.cell? ⟨g,2,none⟩=some (.int .i64 c)):(loadVar 215 ⟨g,0,none⟩).run Tryz.prog w=.ok (n3 a b c) w:=by
 go_simp
theorem N3.res{fn:Func}{p:Tmp}{w:World}{g:Nat}{a b c:Int}(hb:N3 w g a b c)(h:fn.results=#[.cell p 215])(tmps:Array Value)(hp:tmps.getD p undef=.pointer (some ⟨g,0,none⟩)) :
  (results fn tmps).run Tryz.prog w=.ok (n3 a b c) w:=by
 have hp':tmps[p]?.getD undef=.pointer (some ⟨g,0,none⟩):=by simpa using hp
 simp[results,h,hp',asAddr,Sq w g a b c hb.cells.1 hb.cells.2.1 hb.cells.2.2.1]
theorem Sr(v a b c:Int)(w:World):Ya 168 #[od v a b c] w (n3 a b c):=by
 have p:=JH w v a b c;have HS0:=hid (sA w (.cells #[.int .i64 v,.int .i64 a,.int .i64 b,.int .i64 c] 61));go_enter Tryz.func168,Tryz.ntmps168;go_wp2_with fail;have h:=Sp (BW w v a b c) a b c;rw[sz]at h;exact bodyPost_ret (h.res rfl _ rfl) rfl ⟨rfl,HS0.o.trans (sA _ _)⟩
abbrev opw(s:ByteArray)(x y:Int):Value:=.agg #[.string s,.int .i64 x,.int .i64 y]
theorem Ss(w:World)(g o:Nat)(s:ByteArray)(x y:Int)(c0:w.cell? ⟨g,o,none⟩=some (.string s))(c1:w.cell? ⟨g,o+1,none⟩=some (.int .i64 x))(c2:w.cell? ⟨g,o+2,none⟩=some (.int .i64 y)):(loadVar 218 ⟨g,o,none⟩).run Tryz.prog w=.ok (opw s x y) w:=by
 go_simp
theorem Opb.res{fn:Func}{p:Tmp}{w:World}{g:Nat}{s:ByteArray}{x y:Int}(hb:Opb w g s x y)(h:fn.results=#[.cell p 218])(tmps:Array Value)(hp:tmps.getD p undef=.pointer (some ⟨g,0,none⟩)) :
  (results fn tmps).run Tryz.prog w=.ok (opw s x y) w:=by
 have hp':tmps[p]?.getD undef=.pointer (some ⟨g,0,none⟩):=by simpa using hp
 simp[results,h,hp',asAddr,Ss w g 0 s x y hb.cells.1 hb.cells.2.1 hb.cells.2.2.1]
theorem St(s0:ByteArray)(ao:Option Addr)(n cap:Nat)(ps:List (ByteArray × Int × Int))(k:Nat)(hk:k<ps.length)(hk2:k<3)(B:Nat)(w:World)(ho:OwO w B (.slice ao n cap) ps) :
  Ya 169 #[.agg #[.string s0,.slice ao n cap],.int .i64 (k:Int)] w (opw ps[k].1 ps[k].2.1 ps[k].2.2):=by
 obtain⟨g,cap',e,hB,hg⟩:=ho.head (by omega);cases e;obtain⟨d0,d1,d2,df⟩:=ho.cell k hk;have hki:(k:Int)<(ps.length:Int):=by omega
 have HS0:=hid (sA w (.cells #[.string s0,.slice (some ⟨g,0,none⟩) ps.length cap] 212));obtain⟨x0,ex0⟩:∃x,ps[k].1=x:=⟨_,rfl⟩;obtain⟨x1,ex1⟩:∃x,ps[k].2.1=x:=⟨_,rfl⟩;obtain⟨x2,ex2⟩:∃x,ps[k].2.2=x:=⟨_,rfl⟩;rw[ex0]at d0⊢;rw[ex1]at d1⊢;rw[ex2]at d2⊢;clear ex0 ex1 ex2 ho;go_enter Tryz.func169,Tryz.ntmps169;go_wp2_with fail;have h:=XI (D4 w s0 (.slice (some ⟨g,0,none⟩) ps.length cap)) x0 x1 x2;rw[sz]at h;exact bodyPost_ret (h.res rfl _ rfl) rfl ⟨rfl,HS0.o.trans (sA _ _)⟩
theorem Su(s0:ByteArray)(ao:Option Addr)(n cap:Nat)(k:Nat)(hk:n<=k)(w:World) :
  Ya 169 #[.agg #[.string s0,.slice ao n cap],.int .i64 (k:Int)] w (opw ByteArray.empty 0 0):=by
 have hki:¬(k:Int)<(n:Int):=by omega
 have HS0:=hid (sA w (.cells #[.string s0,.slice ao n cap] 212));go_enter Tryz.func169,Tryz.ntmps169;go_wp2_with fail;have h:=XI (D4 w s0 (.slice ao n cap)) ByteArray.empty 0 0;rw[sz]at h;exact bodyPost_ret (h.res rfl _ rfl) rfl ⟨rfl,HS0.o.trans (sA _ _)⟩
def rg(ps:List (ByteArray × Int × Int))(k:Nat):ByteArray × Int × Int:=ps.getD k (ByteArray.empty,0,0)
theorem Sv(s0:ByteArray)(ao:Option Addr)(n cap:Nat)(ps:List (ByteArray × Int × Int))(k:Nat)(hk2:k<3)(B:Nat)(w:World)(ho:OwO w B (.slice ao n cap) ps) :
  Ya 169 #[.agg #[.string s0,.slice ao n cap],.int .i64 (k:Int)] w (opw (rg ps k).1 (rg ps k).2.1 (rg ps k).2.2):=by
 obtain⟨ao',cap',e,_⟩:=ho.slice;cases e;by_cases hk:k<ps.length
 ·have e:rg ps k=ps[k]:=by unfold rg;simp[hk]
  rw[e];exact St s0 ao _ cap ps k hk hk2 B w ho
 ·have e:rg ps k=(ByteArray.empty,0,0):=by unfold rg;rw[List.getD_eq_getElem?_getD,List.getElem?_eq_none (by omega)];rfl
  rw[e];exact Su s0 ao _ cap k (by omega) w
theorem ix3(a b c:Int)(k:Nat)(h:k<3)(w:World):(Instr.index 215 (n3 a b c) (.int .i64 (k:Int))).run Tryz.prog w=.ok (.int .i64 (gv a b c k)) w:=by
 have hs:(sizeOf 3).run Tryz.prog w=.ok 1 w:=by go_simp
 have ha:(isAgg 3).run Tryz.prog w=.ok false w:=by go_simp
 match k,h with
 | 0,_=>simp[Instr.index,asIntOf,run_underlying Tryz.underlying215,part,hs,ha,gv,Result.andThen]
 | 1,_=>simp[Instr.index,asIntOf,run_underlying Tryz.underlying215,part,hs,ha,gv,Result.andThen]
 | 2,_=>simp[Instr.index,asIntOf,run_underlying Tryz.underlying215,part,hs,ha,gv,Result.andThen]
def inr(v:Int)(k:Nat)(n:Int):Prop:=(rg (opV v) k).2.1<=n/\n<=(rg (opV v) k).2.2
theorem Fq{v a b c:Int}(hv:isV v=true):okO v a b c=true ↔ inr v 0 a/\inr v 1 b/\inr v 2 c:=by
 unfold okO inr rg opV;rw[hv];rcases JB hv with rfl|rfl|rfl|rfl|rfl|rfl|rfl<;>simp[lo,hi,loL,hiL]<;>omega
theorem Sw{v:Int}(hv:isV v=false)(a b c:Int):YB v a b c=70:=by unfold YB;rw[hv];rfl
theorem Sx{v a b c:Int}(hv:isV v=true)(h:∀k,k<3->inr v k (gv a b c k)):YB v a b c=0:=by
 unfold YB;have e:okO v a b c=true:=(Fq hv).2 ⟨h 0 (by omega),h 1 (by omega),h 2 (by omega)⟩;rw[if_pos hv,if_pos e]
theorem Sy{v a b c:Int}(hv:isV v=true){k:Nat}(hk:k<3)(h:¬inr v k (gv a b c k)):YB v a b c=71:=by
 unfold YB;rw[if_pos hv,if_neg ?_];intro e;obtain⟨h0,h1,h2⟩:=(Fq hv).1 e;match k,hk,h with
 | 0,_,h=>exact h h0
 | 1,_,h=>exact h h1
 | 2,_,h=>exact h h2
theorem Sz(v a b c:Int)(hv:isV v=false)(w:World):Ya 101 #[od v a b c] w (.int .i64 70):=by
 have p:=JH w v a b c;have HS0:=hid (sA w (.cells #[.int .i64 v,.int .i64 a,.int .i64 b,.int .i64 c] 61));obtain⟨c0,c1,c2,c3,cf⟩:=p.cells;go_enter Tryz.func101,Tryz.ntmps101;go_wp2_with fail;refine(Fp v _).mono ?_;rintro e w1 ⟨ao,n,cap,rfl,ho,h1⟩;rw[hv];have HS1:=hid ((HS0.o.trans h1).trans (sA w1 (.cells #[.string (nmV v),.slice ao n cap] 212)));clear h1 ho HS0;go_wp2_with fail;go_ret;exact⟨rfl,HS1.o⟩
theorem S0(v a b c:Int)(hv:isV v=true)(w:World):Ya 101 #[od v a b c] w (.int .i64 (YB v a b c)):=by
 have p:=JH w v a b c;have HS0:=hid (sA w (.cells #[.int .i64 v,.int .i64 a,.int .i64 b,.int .i64 c] 61));have HI:=hid (fun h=>Sx (a:=a) (b:=b) (c:=c) hv h);have HO:=hid (fun(k:Nat) (hk:k<3) h=>Sy (a:=a) (b:=b) (c:=c) hv hk h);obtain⟨c0,c1,c2,c3,cf⟩:=p.cells;obtain⟨x,ex⟩:∃x,YB v a b c=x:=⟨_,rfl⟩;rw[ex]at HI HO⊢;clear ex;go_enter Tryz.func101,Tryz.ntmps101;go_wp2_with fail;refine(Fp v _).mono ?_;rintro e w1 ⟨ao,n,cap,rfl,ho,h1⟩;rw[hv];have A1:=sA w1 (.cells #[.string (nmV v),.slice ao n cap] 212);have p1:=(p.sT h1).sT A1;have q1:=JY w1 (nmV v) (.slice ao n cap);have HW:=hid (ho.sT A1);have HS1:=hid ((HS0.o.trans h1).trans A1);have hb1:w1.heap.size=w1.heap.size:=rfl;clear h1 ho HS0 A1 p hb1 c0 c1 c2 c3 cf hv;obtain⟨c0,c1,c2,c3,cf⟩:=p1.cells;go_wp2_with fail;refine(Sr v a b c _).mono ?_;rintro e w2 ⟨rfl,h2⟩;have q2:=q1.sT h2;have HW2:=hid (HW.o.sT h2);have HS2:=hid (HS1.o.trans h2);clear h2 HS1 HW q1 p1 c0 c1 c2 c3 cf;go_wp2_with fail;go_loopw [18] (fun i wr=>∃k:Nat,k<=3/\i=.int .i64 (k:Int)/\Hid (∀j,j<k->inr v j (gv a b c j))/\Yc w2 wr) (fun i _=>3-(intOf i).toNat);case atStart=>exact⟨0,by omega,rfl,hid (fun j h=>by omega),Fr.refl _ _⟩
 case round =>
  obtain⟨k,hk,rfl,HF,hs⟩:=hrel;have q3:=q2.sT hs;have HW3:=hid (HW2.o.sT hs);have HS3:=hid (HS2.o.trans hs);have HSr:=hid hs;clear hs HS2 HW2 q2;obtain⟨k0,k1,kf⟩:=q3.cells;by_cases h3:k<3
  ·have hix:=ix3 a b c k h3;have hki:(k:Int)<3:=by omega
   have HA:=hid (Sv (nmV v) ao n cap (opV v) k h3 _ wr HW3.o);have HE:Hid ((rg (opV v) k).2.1<=gv a b c k->gv a b c k<=(rg (opV v) k).2.2->∀j,j<k+1->inr v j (gv a b c j)):=hid (fun y1 y2 j hj=>by
    by_cases e:j=k
    ·subst e;exact⟨y1,y2⟩
    ·exact HF.o j (by omega))
   have HX:Hid (¬((rg (opV v) k).2.1<=gv a b c k/\gv a b c k<=(rg (opV v) k).2.2)->x=71):=hid (HO.o k h3);obtain⟨y,ey⟩:∃y,gv a b c k=y:=⟨_,rfl⟩;obtain⟨r0,er0⟩:∃y,(rg (opV v) k).1=y:=⟨_,rfl⟩;obtain⟨r1,er1⟩:∃y,(rg (opV v) k).2.1=y:=⟨_,rfl⟩;obtain⟨r2,er2⟩:∃y,(rg (opV v) k).2.2=y:=⟨_,rfl⟩;rw[er0,er1,er2]at HA;rw[er1,er2,ey]at HE HX;rw[ey]at hix;clear er0 er1 er2 ey HF;go_wp2_with fail;refine HA.o.mono ?_;rintro e w4 ⟨rfl,h4⟩;have o4:=XI w4 r0 r1 r2;have A4:=sA w4 (.cells #[.string r0,.int .i64 r1,.int .i64 r2] 218);have HS4:=hid ((HS3.o.trans h4).trans A4);have HR4:=hid ((HSr.o.trans h4).trans A4);obtain⟨d0,d1,d2,df⟩:=o4.cells;clear h4 A4 HS3 HSr HA HW3 hix;by_cases g1:y<r1
   ·go_wp2_with fail;go_ret;exact⟨by rw[HX.o (by omega)];rfl,HS4.o⟩
   ·by_cases g2:r2<y
    ·go_wp2_with fail;go_ret;exact⟨by rw[HX.o (by omega)];rfl,HS4.o⟩
    ·have g3:¬y > r2:=g2;go_wp2_with fail;go_roundw;case measure=>simp[intOf];omega
     case rel=>exact⟨k+1,by omega,by simp,hid (HE.o (by omega) (by omega)),HR4.o⟩
  ·obtain rfl:k=3:=by omega
   have e:=HI.o HF.o;go_wp2_with fail;go_ret;exact⟨by rw[e];rfl,HS3.o⟩
theorem Ft(v a b c:Int)(w:World):Ya 101 #[od v a b c] w (.int .i64 (YB v a b c)):=by
 cases hv:isV v with
 | true=>exact S0 v a b c hv w
 | false=>rw[Sw hv];exact Sz v a b c hv w
end
end Go.Proofs.YtcgmohldcokccaaGreatDoor
