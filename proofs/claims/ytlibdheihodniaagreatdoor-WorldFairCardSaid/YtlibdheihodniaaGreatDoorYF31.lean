/- Parts of the proof, laid end to end. -/
import Derived.Test.YtlibdheihodniaaGreatDoorYF30
import Derived.Test.YtlibdheihodniaaGreatDoorYF28
import Derived.Deep.Slices
import Derived.Deep.Fields
import Derived.ProofKit
import Derived.Lay
import Derived.LaidMore
import Derived.Stop.Joined
import Derived.Stop.LaidErr
import Derived.Lib.LaidTab
import Derived.Lib.LaidU8
import Derived.KernelRfl
import Derived.SizedLaws
namespace Go.Proofs.YtlibdheihodniaaGreatDoor
open Go.ChangeShapes Go.WideShapes Go.ChangeAt Go.RowKit Go.Deep
open Pu Gp Ap Vp Np Za Ka Ja Ea Ha Hg Hi
set_option maxRecDepth 100000
theorem cellsG_int:Tryz.prog.cellsOf 3=1:=by kernel_rfl
theorem cellsG_pt:Tryz.prog.cellsOf 46=2:=by kernel_rfl
theorem cellsW_cm:Tryz.prog.cellsOf 60=7:=by kernel_rfl
theorem cellsW_or:Tryz.prog.cellsOf 58=4:=by kernel_rfl
theorem cellsW_i64:Tryz.prog.cellsOf 2=1:=by kernel_rfl
theorem cellsW_u64:Tryz.prog.cellsOf 22=1:=by kernel_rfl
theorem cellsW_str:Tryz.prog.cellsOf 9=1:=by kernel_rfl
theorem cellsW_ar:Tryz.prog.cellsOf 24=3:=by kernel_rfl
theorem cellsW_cf:Tryz.prog.cellsOf 27=6:=by kernel_rfl
theorem cellsW_li:Tryz.prog.cellsOf 25=1:=by kernel_rfl
section
variable {H:Type} {enc:TypeId × Value->H} {w:World}
theorem open_lags {fuel:Nat} {cs:List Value} {x:DataW H × List MemPlace} (h:DataW.trod enc Tryz.prog w 0 (fun _=>true) true fuel 25 cs=some x) :
  ∃ (ao:Option Addr) (n cap:Nat) (bs:List Int),cs=[.slice ao n cap]/\RdI w ao n cap bs:=by
 rcases open_ints Tryz.underlying25 Tryz.underlying3 cellsG_int h with ⟨rfl,rfl⟩ | ⟨a,len,cap,zs,rfl,_,hl,hm,hz,rfl,hcell,hwz⟩
 ·exact ⟨none,0,0,[],rfl,RdI.empty w⟩
 ·simp only [if_true] at hz
  refine ⟨some a,len,cap,zs.take len,rfl,⟨by simp; omega,hl,hm, ?_,fun h=>(by cases h), ?_⟩⟩
  ·intro a' ha hp
   cases ha
   have:=hcell 0 (by omega)
   simpa [Addr.add] using World.cell?_spot this
  ·intro a' ha j hj
   cases ha
   simp at hj
   have h1:=hcell j (by omega)
   have hsp:a.spot=none:=by
    have:=hcell 0 (by omega)
    simpa [Addr.add] using World.cell?_spot this
   obtain ⟨b,o,s⟩:=a
   simp at hsp
   subst hsp
   rw [add_plain] at h1
   rw [h1]
   have hjz:j<zs.length:=by omega
   simp [List.getD,hjz]
theorem one_or {fuel:Nat} {cs:List Value} {x:DataW H × List MemPlace} (hl:cs.length=4) (h:DataW.trod enc Tryz.prog w 0 (fun _=>true) true fuel 58 cs=some x):∃ a b c d:Int,cs=[.int .i64 a,.int .i64 b,.int .i64 c,.int .i64 d]:=by
 obtain ⟨x0,x1,x2,x3,rfl⟩:=listG4 hl
 obtain ⟨xs,n,_,_,_,hlen,hfl⟩:=DataW.trod_struct Tryz.underlying58 h
 obtain ⟨z0,z1,z2,z3,rfl⟩:=listG4 (l:=xs) (by simpa using hlen)
 have g0:=hfl 0 _ rfl
 have g1:=hfl 1 _ rfl
 have g2:=hfl 2 _ rfl
 have g3:=hfl 3 _ rfl
 simp [cellsG_int] at g0 g1 g2 g3
 obtain ⟨a,e0,_,_⟩:=DataW.trod_int Tryz.underlying3 g0
 obtain ⟨b,e1,_,_⟩:=DataW.trod_int Tryz.underlying3 g1
 obtain ⟨c,e2,_,_⟩:=DataW.trod_int Tryz.underlying3 g2
 obtain ⟨d,e3,_,_⟩:=DataW.trod_int Tryz.underlying3 g3
 simp at e0 e1 e2 e3
 subst e0 e1 e2 e3
 exact ⟨a,b,c,d,rfl⟩
def InX (y:Cm):Prop:=(-9223372036854775808<=y.fr/\y.fr<=9223372036854775807)/\(-9223372036854775808<=y.pe/\y.pe<=9223372036854775807)/\(-9223372036854775808<=y.sq/\y.sq<=9223372036854775807)
theorem one_cm {fuel:Nat} {cs:List Value} {x:DataW H × List MemPlace} (hl:cs.length=7) (h:DataW.trod enc Tryz.prog w 0 (fun _=>true) true fuel 60 cs=some x):∃ y:Cm,cs=KX.f y/\InX y:=by
 obtain ⟨x0,x1,x2,x3,x4,x5,x6,rfl⟩:∃ a b c d e f g,cs=[a,b,c,d,e,f,g]:=by
  match cs,hl with
  | [a,b,c,d,e,f,g],_=>exact ⟨a,b,c,d,e,f,g,rfl⟩
 obtain ⟨xs,n,_,_,_,hlen,hfl⟩:=DataW.trod_struct Tryz.underlying60 h
 obtain ⟨z0,z1,z2,z3,rfl⟩:=listG4 (l:=xs) (by simpa using hlen)
 have g0:=hfl 0 _ rfl
 have g1:=hfl 1 _ rfl
 have g2:=hfl 2 _ rfl
 have g3:=hfl 3 _ rfl
 simp [cellsG_int,cellsW_i64,cellsW_or] at g0 g1 g2 g3
 obtain ⟨a,e0,_,w0⟩:=DataW.trod_int Tryz.underlying2 g0
 obtain ⟨b,e1,_,w1⟩:=DataW.trod_int Tryz.underlying3 g1
 obtain ⟨c,e2,_,w2⟩:=DataW.trod_int Tryz.underlying3 g2
 obtain ⟨v1,v2,v3,v4,e3⟩:=one_or rfl g3
 simp at e0 e1 e2 e3
 obtain ⟨rfl,rfl,rfl,rfl⟩:=e3
 subst e0 e1 e2
 exact ⟨⟨a,b,c,v1,v2,v3,v4⟩,rfl,wfG_i64 w0,wfG_i64 w1,wfG_i64 w2⟩
theorem open_cs {fuel:Nat} {cs:List Value} {x:DataW H × List MemPlace} (h:DataW.trod enc Tryz.prog w 0 (fun _=>true) true fuel 28 cs=some x) :
  ∃ so n cap,cs=[.slice so n cap]/\n<=cap/\(n<=281474976710656->∃ L,RdG KX w so n L/\∀ i,i<n->InX (L.getD i KX.d))/\(so=none->cap=0)/\(n=0 \/ ∃ es sp,x.1=.slice es sp/\es.length=n) :=
 open_rows KX InX Tryz.underlying28 cellsW_cm one_cm h
theorem open_cfg {r:Go.Reach} {b0:Nat} {v:Value} {d:DataW H} {p:List MemPlace} (hv:Value.okWide Tryz.prog w r b0 27 v) (h:DataW.Trod enc Tryz.prog w 0 (fun _=>true) true 27 v d p) (hw:∀ n∈d.weights Tryz.prog 27,n<=reachBytes) :
  ∃ (p q C R:Int) (s:ByteArray) (lo:Option Addr) (n cap:Nat) (l:List Int),v=.agg #[.int .i64 p,.int .u64 q,.int .i64 C,.int .i64 R,.string s,.slice lo n cap]/\RdI w lo n cap l/\s.size<=281474976710656/\C<=9223372036854775807:=by
 obtain ⟨cs,rfl,hsz⟩:=okWide_struct Tryz.underlying27 hv
 obtain ⟨l⟩:=cs
 obtain ⟨x0,x1,x2,x3,x4,x5,rfl⟩:=listG6 (l:=l) (by simpa using hsz.trans cellsW_cf)
 obtain ⟨fuel,hf⟩:=h
 obtain ⟨xs,n,_,hx,_,hlen,hfl⟩:=DataW.trod_struct Tryz.underlying27 hf
 obtain ⟨z0,z1,z2,z3,rfl⟩:=listG4 (l:=xs) (by simpa using hlen)
 have g0:=hfl 0 _ rfl
 have g1:=hfl 1 _ rfl
 have g2:=hfl 2 _ rfl
 have g3:=hfl 3 _ rfl
 simp [Value.cells,cellsG_int,cellsW_u64,cellsW_ar,cellsW_li] at g0 g1 g2 g3
 obtain ⟨a,e0,_,w0⟩:=DataW.trod_int Tryz.underlying3 g0
 obtain ⟨b,e1,_,w1⟩:=DataW.trod_int Tryz.underlying22 g1
 obtain ⟨ys,n2,_,hy,_,hlen2,hfl2⟩:=DataW.trod_struct Tryz.underlying24 g2
 obtain ⟨y0,y1,y2,rfl⟩:=listG3 (l:=ys) (by simpa using hlen2)
 have k0:=hfl2 0 _ rfl
 have k1:=hfl2 1 _ rfl
 have k2:=hfl2 2 _ rfl
 simp [cellsG_int,cellsW_str] at k0 k1 k2
 obtain ⟨C,f0,_,u0⟩:=DataW.trod_int Tryz.underlying3 k0
 obtain ⟨R,f1,_,_⟩:=DataW.trod_int Tryz.underlying3 k1
 obtain ⟨s,f2,m2,_⟩:=DataW.trod_string Tryz.underlying9 k2
 obtain ⟨lo,ln,lc,bs,e3,hr⟩:=open_lags g3
 simp at e0 e1 e3 f0 f1 f2
 subst e0 e1 e3 f0 f1 f2
 refine ⟨a,b,C,R,s,lo,ln,lc,bs,rfl,hr, ?_,(wfG_i64 u0).2⟩
 have hd:d=.agg ([z0,z1,z2,z3].map (·.1)):=by simpa using congrArg (·.1) hx
 have hd2:z2.1=.agg ([y0,y1,y2].map (·.1)):=by simpa using congrArg (·.1) hy
 have:=hw s.data.toList.length (by
  rw [hd]
  simp only [DataW.weights,Tryz.underlying27,List.map_cons,List.map_nil,DataW.weightsEach,hd2,Tryz.underlying24,m2]
  simp)
 have hr2:=reachBytes_lt
 rw [Array.length_toList] at this
 show s.data.size<=_
 omega
end
theorem weights_all {H:Type} {ts:List TypeId} {ds:List (DataW H)} (h:(DataW.weightsEach Tryz.prog ts ds).all (· <= reachBytes)=true) {j:Nat} {t:TypeId} {d:DataW H} (ht:ts[j]?=some t) (hd:ds[j]?=some d):∀ n∈d.weights Tryz.prog t,n<=reachBytes:=fun n hn=>by
 have:=List.all_eq_true.1 h _ (DataW.weights_mem_each ht hd _ hn)
 simpa using this
def unitsW:DataW Unit:=.agg ((List.range 16).map fun i=>.agg ([ux i,uy i].map fun z=>.lit (.int .i64 z)))
theorem gUnitsW : Tryz.prog.globalNamed "echelon/geom.units" = some 1 := by kernel_rfl
theorem tabW_reads {W : World} (h : Lib.VarReads Tryz.prog W "echelon/geom.units" unitsW) : Tab W := by
 refine ⟨fun i hi=>?_⟩
 obtain ⟨g,t,cs,fuel,p,hg,hty,hvar,hd⟩:=h
 obtain rfl:=Option.some.inj (gUnitsW.symm.trans hg)
 obtain rfl:=Option.some.inj ((show (Tryz.prog.globals[1]?).map (·.type)=some 268 by kernel_rfl).symm.trans hty)
 obtain ⟨fuel',d,q,hdi,he⟩:=Lib.array_elem (t:=268) (e:=46) (n:=16) Tryz.underlying268 hd i hi
 simp only [List.getElem?_map,List.getElem?_range hi,Option.map_some,Option.some.injEq] at hdi
 subst hdi
 rw [cellsG_pt] at he
 have hcs:=Lib.ints_of_struct Tryz.underlying46 (fun j f hj=>by
  match j,hj with
  | 0,hj=>simp at hj; subst hj; exact ⟨Tryz.underlying3,rfl,cellsG_int⟩
  | 1,hj=>simp at hj; subst hj; exact ⟨Tryz.underlying3,rfl,cellsG_int⟩
  | j+2,hj=>simp at hj) (by rw [cellsG_pt]; rfl) he
 have e0:=congrArg (·[0]?) hcs
 have e1:=congrArg (·[1]?) hcs
 simp only [List.getElem?_take,List.getElem?_drop] at e0 e1
 constructor
 ·rw [World.var?_cell hg hvar (i*2),<- Array.getElem?_toList]
  simpa using e0
 ·rw [World.var?_cell hg hvar (i*2+1),<- Array.getElem?_toList]
  simpa using e1
def facsW:List Int:=[13787848793156543929,10723151780598845931,1099511628211,11400714819323198485]
theorem gFacW : Tryz.prog.globalNamed "echelon/digest.factors" = some 2 := by kernel_rfl
theorem unitsW_same:(Rows.laid_echelon_geom_units:DataW Unit)=unitsW:=by kernel_rfl
theorem tabsW {W : World} (hL : laidMet Tryz.prog [("echelon/digest.factors", Rows.laid_echelon_digest_factors), ("echelon/geom.units", Rows.laid_echelon_geom_units)] W) : Tab W /\ DTab W := by
 rw [unitsW_same] at hL
 have h5 : laidMet Tryz.prog (("echelon/digest.factors", Lib.tabData .u64 facsW) :: [("echelon/geom.units", unitsW)]) W := hL
 have t5:=Lib.tabIs_of_head (t:=282) (e:=22) (n:=4) gFacW (by kernel_rfl) Tryz.underlying282 Tryz.underlying22 (by kernel_rfl) (by kernel_rfl) h5
 exact ⟨tabW_reads (Lib.laidMet.reads hL (.tail _ (.head _))),⟨t5.cell gFacW 0 (by decide),t5.cell gFacW 1 (by decide),t5.cell gFacW 3 (by decide)⟩⟩
end Go.Proofs.YtlibdheihodniaaGreatDoor
