import Derived.Test.YtcgmohldcokccaaGreatDoorXR44
import Derived.Test.YtcgmohldcokccaaGreatDoorXR39
import Derived.Lay
import Derived.LaidMore
import Derived.Stop.Joined
import Derived.Stop.LaidErr
import Derived.Lib.LaidTab
import Derived.Lib.LaidU8
set_option linter.unusedVariables false
set_option maxRecDepth 100000
namespace Go.Proofs.YtcgmohldcokccaaGreatDoor
section
open Go.ChangeShapes Go.WideShapes Go.ChangeAt Go.RowKit Go.Deep
open Pu Gp Ap Vp Np Za Ka Ja Ea Ha Hg Hi
theorem U0:Tryz.prog.cellsOf 3=1:=by kernel_rfl
theorem TU:Tryz.prog.cellsOf 57=2:=by kernel_rfl
theorem Ybw:Tryz.prog.cellsOf 63=7:=by kernel_rfl
theorem Ybx:Tryz.prog.cellsOf 61=4:=by kernel_rfl
theorem Yby:Tryz.prog.cellsOf 2=1:=by kernel_rfl
theorem Ybz:Tryz.prog.cellsOf 22=1:=by kernel_rfl
theorem Yb0:Tryz.prog.cellsOf 9=1:=by kernel_rfl
theorem Yb1:Tryz.prog.cellsOf 24=3:=by kernel_rfl
theorem Yb2:Tryz.prog.cellsOf 27=6:=by kernel_rfl
theorem Yb3:Tryz.prog.cellsOf 25=1:=by kernel_rfl
section
variable {H:Type} {enc:TypeId × Value->H} {w:World}
theorem Yb4{fuel:Nat}{cs:List Value}{x:DataW H × List MemPlace}(h:DataW.trod enc Tryz.prog w 0 (fun _=>true) true fuel 25 cs=some x) :
  ∃(ao:Option Addr) (n cap:Nat) (bs:List Int),cs=[.slice ao n cap]/\RdI w ao n cap bs:=by
 rcases open_ints Tryz.underlying25 Tryz.underlying3 U0 h with⟨rfl,rfl⟩|⟨a,len,cap,zs,rfl,_,hl,hm,hz,rfl,hcell,hwz⟩
 ·exact⟨none,0,0,[],rfl,RdI.empty w⟩
 ·simp only[if_true]at hz;refine⟨some a,len,cap,zs.take len,rfl,⟨by simp;omega,hl,hm,?_,fun h=>(by cases h),?_⟩⟩
  ·intro a' ha hp;cases ha;have:=hcell 0 (by omega);simpa[Addr.add]using World.cell?_spot this
  ·intro a' ha j hj;cases ha;simp at hj;have h1:=hcell j (by omega);have hsp:a.spot=none:=by
    have:=hcell 0 (by omega);simpa[Addr.add]using World.cell?_spot this
   obtain⟨b,o,s⟩:=a;simp at hsp;subst hsp;rw[add_plain]at h1;rw[h1];have hjz:j<zs.length:=by omega
   simp[List.getD,hjz]
theorem Yb5{fuel:Nat}{cs:List Value}{x:DataW H × List MemPlace}(hl:cs.length=4)(h:DataW.trod enc Tryz.prog w 0 (fun _=>true) true fuel 61 cs=some x):∃a b c d:Int,cs=[.int .i64 a,.int .i64 b,.int .i64 c,.int .i64 d]:=by
 obtain⟨x0,x1,x2,x3,rfl⟩:=QS hl;obtain⟨xs,n,_,_,_,hlen,hfl⟩:=DataW.trod_struct Tryz.underlying61 h;obtain⟨z0,z1,z2,z3,rfl⟩:=QS (l:=xs) (by simpa using hlen);have g0:=hfl 0 _ rfl;have g1:=hfl 1 _ rfl;have g2:=hfl 2 _ rfl;have g3:=hfl 3 _ rfl;simp[U0]at g0 g1 g2 g3;obtain⟨a,e0,_,_⟩:=DataW.trod_int Tryz.underlying3 g0;obtain⟨b,e1,_,_⟩:=DataW.trod_int Tryz.underlying3 g1;obtain⟨c,e2,_,_⟩:=DataW.trod_int Tryz.underlying3 g2;obtain⟨d,e3,_,_⟩:=DataW.trod_int Tryz.underlying3 g3;simp at e0 e1 e2 e3;subst e0 e1 e2 e3;exact⟨a,b,c,d,rfl⟩
def InX(y:Cm):Prop:=(-9223372036854775808<=y.fr/\y.fr<=9223372036854775807)/\(-9223372036854775808<=y.pe/\y.pe<=9223372036854775807)/\(-9223372036854775808<=y.sq/\y.sq<=9223372036854775807)
theorem Yb6{fuel:Nat}{cs:List Value}{x:DataW H × List MemPlace}(hl:cs.length=7)(h:DataW.trod enc Tryz.prog w 0 (fun _=>true) true fuel 63 cs=some x):∃y:Cm,cs=KX.f y/\InX y:=by
 obtain⟨x0,x1,x2,x3,x4,x5,x6,rfl⟩:∃a b c d e f g,cs=[a,b,c,d,e,f,g]:=by
  match cs,hl with
  | [a,b,c,d,e,f,g],_=>exact⟨a,b,c,d,e,f,g,rfl⟩
 obtain⟨xs,n,_,_,_,hlen,hfl⟩:=DataW.trod_struct Tryz.underlying63 h;obtain⟨z0,z1,z2,z3,rfl⟩:=QS (l:=xs) (by simpa using hlen);have g0:=hfl 0 _ rfl;have g1:=hfl 1 _ rfl;have g2:=hfl 2 _ rfl;have g3:=hfl 3 _ rfl;simp[U0,Yby,Ybx]at g0 g1 g2 g3;obtain⟨a,e0,_,w0⟩:=DataW.trod_int Tryz.underlying2 g0;obtain⟨b,e1,_,w1⟩:=DataW.trod_int Tryz.underlying3 g1;obtain⟨c,e2,_,w2⟩:=DataW.trod_int Tryz.underlying3 g2;obtain⟨v1,v2,v3,v4,e3⟩:=Yb5 rfl g3;simp at e0 e1 e2 e3;obtain⟨rfl,rfl,rfl,rfl⟩:=e3;subst e0 e1 e2;exact⟨⟨a,b,c,v1,v2,v3,v4⟩,rfl,QR w0,QR w1,QR w2⟩
theorem open_cs{fuel:Nat}{cs:List Value}{x:DataW H × List MemPlace}(h:DataW.trod enc Tryz.prog w 0 (fun _=>true) true fuel 34 cs=some x) :
  ∃so n cap,cs=[.slice so n cap]/\n<=cap/\(n<=281474976710656->∃L,RdG KX w so n L/\∀i,i<n->InX (L.getD i KX.d))/\(so=none->cap=0)/\(n=0 \/ ∃es sp,x.1=.slice es sp/\es.length=n):=
 Ybv KX InX Tryz.underlying34 Ybw Yb6 h
theorem open_cfg{r:Go.Reach}{b0:Nat}{v:Value}{d:DataW H}{p:List MemPlace}(hv:Value.okWide Tryz.prog w r b0 27 v)(h:DataW.Trod enc Tryz.prog w 0 (fun _=>true) true 27 v d p)(hw:∀n∈d.weights Tryz.prog 27,n<=reachBytes) :
  ∃(p q C R:Int) (s:ByteArray) (lo:Option Addr) (n cap:Nat) (l:List Int),v=.agg #[.int .i64 p,.int .u64 q,.int .i64 C,.int .i64 R,.string s,.slice lo n cap]/\RdI w lo n cap l/\s.size<=281474976710656/\C<=9223372036854775807:=by
 obtain⟨cs,rfl,hsz⟩:=okWide_struct Tryz.underlying27 hv;obtain⟨l⟩:=cs;obtain⟨x0,x1,x2,x3,x4,x5,rfl⟩:=Ybu (l:=l) (by simpa using hsz.trans Yb2);obtain⟨fuel,hf⟩:=h;obtain⟨xs,n,_,hx,_,hlen,hfl⟩:=DataW.trod_struct Tryz.underlying27 hf;obtain⟨z0,z1,z2,z3,rfl⟩:=QS (l:=xs) (by simpa using hlen);have g0:=hfl 0 _ rfl;have g1:=hfl 1 _ rfl;have g2:=hfl 2 _ rfl;have g3:=hfl 3 _ rfl;simp[Value.cells,U0,Ybz,Yb1,Yb3]at g0 g1 g2 g3;obtain⟨a,e0,_,w0⟩:=DataW.trod_int Tryz.underlying3 g0;obtain⟨b,e1,_,w1⟩:=DataW.trod_int Tryz.underlying22 g1;obtain⟨ys,n2,_,hy,_,hlen2,hfl2⟩:=DataW.trod_struct Tryz.underlying24 g2;obtain⟨y0,y1,y2,rfl⟩:=Ybt (l:=ys) (by simpa using hlen2);have k0:=hfl2 0 _ rfl;have k1:=hfl2 1 _ rfl;have k2:=hfl2 2 _ rfl;simp[U0,Yb0]at k0 k1 k2;obtain⟨C,f0,_,u0⟩:=DataW.trod_int Tryz.underlying3 k0;obtain⟨R,f1,_,_⟩:=DataW.trod_int Tryz.underlying3 k1;obtain⟨s,f2,m2,_⟩:=DataW.trod_string Tryz.underlying9 k2;obtain⟨lo,ln,lc,bs,e3,hr⟩:=Yb4 g3;simp at e0 e1 e3 f0 f1 f2;subst e0 e1 e3 f0 f1 f2;refine⟨a,b,C,R,s,lo,ln,lc,bs,rfl,hr,?_,(QR u0).2⟩;have hd:d=.agg ([z0,z1,z2,z3].map (·.1)):=by simpa using congrArg (·.1) hx
 have hd2:z2.1=.agg ([y0,y1,y2].map (·.1)):=by simpa using congrArg (·.1) hy
 have:=hw s.data.toList.length (by
  rw[hd];simp only[DataW.weights,Tryz.underlying27,List.map_cons,List.map_nil,DataW.weightsEach,hd2,Tryz.underlying24,m2];simp)
 have hr2:=reachBytes_lt;rw[Array.length_toList]at this;show s.data.size<=_;omega
end
theorem weights_all{H:Type}{ts:List TypeId}{ds:List (DataW H)}(h:(DataW.weightsEach Tryz.prog ts ds).all (· <= reachBytes)=true){j:Nat}{t:TypeId}{d:DataW H}(ht:ts[j]?=some t)(hd:ds[j]?=some d):∀n∈d.weights Tryz.prog t,n<=reachBytes:=fun n hn=>by
 have:=List.all_eq_true.1 h _ (DataW.weights_mem_each ht hd _ hn);simpa using this
def Wh:DataW Unit:=.agg ((List.range 16).map fun i=>.agg ([ux i,uy i].map fun z=>.lit (.int .i64 z)))
theorem gUnitsW : Tryz.prog.globalNamed "echelon/geom.units" = some 6:=by kernel_rfl
theorem Yb7{W : World}(h : Lib.VarReads Tryz.prog W "echelon/geom.units" Wh) : Tab W:=by
 refine⟨fun i hi=>?_⟩;obtain⟨g,t,cs,fuel,p,hg,hty,hvar,hd⟩:=h;obtain rfl:=Option.some.inj (gUnitsW.symm.trans hg);obtain rfl:=Option.some.inj ((show(Tryz.prog.globals[6]?).map (·.type)=some 292 by kernel_rfl).symm.trans hty);obtain⟨fuel',d,q,hdi,he⟩:=Lib.array_elem (t:=292) (e:=57) (n:=16) Tryz.underlying292 hd i hi;simp only[List.getElem?_map,List.getElem?_range hi,Option.map_some,Option.some.injEq]at hdi;subst hdi;rw[TU]at he;have hcs:=Lib.ints_of_struct Tryz.underlying57 (fun j f hj=>by
  match j,hj with
  | 0,hj=>simp at hj;subst hj;exact⟨Tryz.underlying3,rfl,U0⟩
  | 1,hj=>simp at hj;subst hj;exact⟨Tryz.underlying3,rfl,U0⟩
  | j+2,hj=>simp at hj) (by rw[TU];rfl) he
 have e0:=congrArg (·[0]?) hcs;have e1:=congrArg (·[1]?) hcs;simp only[List.getElem?_take,List.getElem?_drop]at e0 e1;constructor
 ·rw[World.var?_cell hg hvar (i*2),<- Array.getElem?_toList];simpa using e0
 ·rw[World.var?_cell hg hvar (i*2+1),<- Array.getElem?_toList];simpa using e1
def Yb8:List Int:=[13787848793156543929,10723151780598845931,1099511628211,11400714819323198485]
theorem QT : Tryz.prog.globalNamed "echelon/digest.factors" = some 7:=by kernel_rfl
theorem Yb9:(Rows.laid_echelon_geom_units:DataW Unit)=Wh:=by kernel_rfl
theorem YbA{W : World}(hL : laidMet Tryz.prog [("echelon/digest.factors", Rows.laid_echelon_digest_factors), ("echelon/geom.units", Rows.laid_echelon_geom_units)] W) : Tab W /\ DTab W:=by
 rw[Yb9]at hL;have h5 : laidMet Tryz.prog (("echelon/digest.factors", Lib.tabData .u64 Yb8) :: [("echelon/geom.units", Wh)]) W:=hL;have t5:=Lib.tabIs_of_head (t:=302) (e:=22) (n:=4) QT (by kernel_rfl) Tryz.underlying302 Tryz.underlying22 (by kernel_rfl) (by kernel_rfl) h5;exact⟨Yb7 (Lib.laidMet.reads hL (.tail _ (.head _))),⟨t5.cell QT 0 (by decide),t5.cell QT 1 (by decide),t5.cell QT 3 (by decide)⟩⟩
end
section
open Go.ChangeShapes Go.WideShapes Go.ChangeAt Go.RowKit Go.Deep
open Pu Gp Vp
def TV{H:Type}(l:List ByteArray):DataW H:=.agg (l.map fun b=>.lit (.string b.data.toList))
theorem YbB{W:World}{name:String}{g t n:Nat}{l:List ByteArray}(hg:Tryz.prog.globalNamed name=some g)(hty:(Tryz.prog.globals[g]?).map (·.type)=some t)(hu:Tryz.prog.underlying t=some (.array n 9))(hn:l.length=n)
  (h:Lib.VarReads Tryz.prog W name (TV l)) (i:Nat) (hi:i<n):W.cell? ⟨g,i,none⟩=some (.string (l.getD i ByteArray.empty)):=by
 obtain⟨g',t',cs,fuel,p,hg',hty',hvar,hd⟩:=h;obtain rfl:=Option.some.inj (hg.symm.trans hg');obtain rfl:=Option.some.inj (hty.symm.trans hty');obtain⟨fuel',d,q,hdi,he⟩:=Lib.array_elem hu hd i hi;rw[show Tryz.prog.cellsOf 9=1 by kernel_rfl,Nat.mul_one]at he;obtain⟨s,e1,e2,_⟩:=DataW.trod_string Tryz.underlying9 he;have hl:i<l.length:=by omega
 rw[List.getElem?_map,List.getElem?_eq_getElem hl,Option.map_some,Option.some.injEq]at hdi;have e3:d=.lit (.string s.data.toList):=congrArg Prod.fst e2;rw[<- hdi]at e3;have e4:(l[i]'hl).data.toList=s.data.toList:=by simpa using e3
 have e5:l[i]'hl=s:=ByteArray.ext (Array.toList_inj.1 e4);have e0:=congrArg (·[0]?) e1;simp only[List.getElem?_take,List.getElem?_drop]at e0;rw[World.var?_cell hg hvar i,<- Array.getElem?_toList];simp at e0;rw[List.getD_eq_getElem?_getD,List.getElem?_eq_getElem hl];simp only[Option.getD_some,e5];simpa using e0
theorem QU{W:World}{name:String}{g t n:Nat}{l:List Int}(hg:Tryz.prog.globalNamed name=some g)(hty:(Tryz.prog.globals[g]?).map (·.type)=some t)(hu:Tryz.prog.underlying t=some (.array n 3))(hc:Tryz.prog.cellsOf t=n)(hn:l.length=n)
  (h:Lib.VarReads Tryz.prog W name (Lib.tabData .i64 l)) (i:Nat) (hi:i<n):W.cell? ⟨g,i,none⟩=some (.int .i64 (l.getD i 0)):=by
 obtain⟨g',t',cs,fuel,p,hg',hty',hvar,hd⟩:=h;obtain rfl:=Option.some.inj (hg.symm.trans hg');obtain rfl:=Option.some.inj (hty.symm.trans hty');have hcs:=Lib.cells_of_tab hu Tryz.underlying3 (by kernel_rfl) hc hd;rw[World.var?_cell hg hvar i,<- Array.getElem?_toList,hcs];have hl:i<l.length:=by omega
 simp[hl]
theorem tabsR{W : World}(hL : laidMet Tryz.prog [("echelon/echelonref05.unitX", Rows.laid_echelon_echelonref05_unitX), ("echelon/echelonref05.unitY", Rows.laid_echelon_echelonref05_unitY), ("echelon/echelonref07.first", Rows.laid_echelon_echelonref07_first), ("echelon/echelonref07.least", Rows.laid_echelon_echelonref07_least), ("echelon/echelonref07.most", Rows.laid_echelon_echelonref07_most), ("echelon/digest.factors", Rows.laid_echelon_digest_factors), ("echelon/geom.units", Rows.laid_echelon_geom_units)] W) : (Tab W /\ DTab W) /\ OTab W /\ RTab W:=by
  have hM : laidMet Tryz.prog (("echelon/echelonref05.unitX", Lib.tabData .i64 unitX) :: ("echelon/echelonref05.unitY", Lib.tabData .i64 unitY) :: ("echelon/echelonref07.first", TV fsL) :: ("echelon/echelonref07.least", Lib.tabData .i64 loL) :: ("echelon/echelonref07.most", Lib.tabData .i64 hiL) :: [("echelon/digest.factors", Rows.laid_echelon_digest_factors), ("echelon/geom.units", Rows.laid_echelon_geom_units)]) W:=hL;exact⟨YbA (laidMet.tail (laidMet.tail (laidMet.tail (laidMet.tail (laidMet.tail hL))))), ⟨fun d hd => YbB (t:=268) (n:=7) (by kernel_rfl) (by kernel_rfl) Tryz.underlying268 rfl (Lib.laidMet.reads hM (.tail _ (.tail _ (.head _)))) d hd,
     fun d hd=>QU (t:=269) (n:=7) (by kernel_rfl) (by kernel_rfl) Tryz.underlying269 (by kernel_rfl) rfl (Lib.laidMet.reads hM (.tail _ (.tail _ (.tail _ (.head _))))) d hd,
     fun d hd=>QU (t:=269) (n:=7) (by kernel_rfl) (by kernel_rfl) Tryz.underlying269 (by kernel_rfl) rfl (Lib.laidMet.reads hM (.tail _ (.tail _ (.tail _ (.tail _ (.head _)))))) d hd⟩,
    ⟨fun d hd=>QU (t:=225) (n:=16) (by kernel_rfl) (by kernel_rfl) Tryz.underlying225 (by kernel_rfl) rfl (Lib.laidMet.reads hM (.head _)) d hd,
     fun d hd=>QU (t:=225) (n:=16) (by kernel_rfl) (by kernel_rfl) Tryz.underlying225 (by kernel_rfl) rfl (Lib.laidMet.reads hM (.tail _ (.head _))) d hd⟩⟩
end
end Go.Proofs.YtcgmohldcokccaaGreatDoor
