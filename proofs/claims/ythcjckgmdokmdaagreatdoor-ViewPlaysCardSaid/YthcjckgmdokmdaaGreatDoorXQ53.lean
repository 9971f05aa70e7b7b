import Derived.Test.YthcjckgmdokmdaaGreatDoorXQ51
import Derived.Test.YthcjckgmdokmdaaGreatDoorXQ25
import Derived.Test.YthcjckgmdokmdaaGreatDoorXQ39
import Derived.Lib.LaidU8
import Derived.LaidMore
import Derived.Stop.Joined
import Derived.Stop.LaidErr
import Derived.Lay
namespace Go.Proofs.YthcjckgmdokmdaaGreatDoor
open Go.ChangeShapes Go.WideShapes Go.ChangeAt Go.RowKit Go.Deep
open Pu Gp Np Za Ka Ja Ea Ha
set_option maxRecDepth 100000
theorem RR:Tryz.prog.cellsOf 3=1:=by kernel_rfl
theorem BK:Tryz.prog.cellsOf 9=1:=by kernel_rfl
theorem RS:Tryz.prog.cellsOf 161=2:=by kernel_rfl
section
variable {H:Type} {enc:TypeId × Value->H} {w:World}
end
def kdsV {H:Type}:DataW H:=.agg ((List.range 4).map fun i=>.agg [.lit (.string (kdN i).data.toList),.lit (.string (kdG i).data.toList)])
theorem gKds : Tryz.prog.globalNamed "echelon/view.pickupKinds" = some 0 := by kernel_rfl
theorem ktab_reads {W : World} (h : Lib.VarReads Tryz.prog W "echelon/view.pickupKinds" kdsV) : KTab W := by
 have key:∀ i,i<4->W.cell? ⟨0,i*2,none⟩=some (.string (kdN i))/\W.cell? ⟨0,i*2+1,none⟩=some (.string (kdG i)):=fun i hi=>by
  obtain ⟨g,t,cs,fuel,p,hg,hty,hvar,hd⟩:=h;obtain rfl:=Option.some.inj (gKds.symm.trans hg);obtain rfl:=Option.some.inj ((show (Tryz.prog.globals[0]?).map (·.type)=some 162 by kernel_rfl).symm.trans hty);obtain ⟨fuel',d,q,hdi,he⟩:=Lib.array_elem (t:=162) (e:=161) (n:=4) Tryz.underlying162 hd i hi;simp only [List.getElem?_map,List.getElem?_range hi,Option.map_some,Option.some.injEq] at hdi;subst hdi;rw [RS] at he;obtain ⟨xs,n,_,hx,_,hlen,hfl⟩:=DataW.trod_struct Tryz.underlying161 he;obtain ⟨z0,z1,rfl⟩:=RC (l:=xs) (by simpa using hlen);have g0:=hfl 0 _ rfl;have g1:=hfl 1 _ rfl;simp [BK] at g0 g1;obtain ⟨s0,e0,q0,_⟩:=DataW.trod_string Tryz.underlying9 g0;obtain ⟨s1,e1,q1,_⟩:=DataW.trod_string Tryz.underlying9 g1;have hxx:=congrArg Prod.fst hx;simp only [List.map_cons,List.map_nil,DataW.agg.injEq,List.cons.injEq,and_true] at hxx;have k0:z0.1=.lit (.string s0.data.toList):=congrArg Prod.fst q0;have k1:z1.1=.lit (.string s1.data.toList):=congrArg Prod.fst q1;rw [k0,k1] at hxx;simp at hxx;obtain ⟨h0,h1⟩:=hxx;have m0:kdN i=s0:=ByteArray.ext (by simpa using h0);have m1:kdG i=s1:=ByteArray.ext (by simpa using h1);have f0:=congrArg (·[0]?) e0;have f1:=congrArg (·[0]?) e1;simp only [List.getElem?_take,List.getElem?_drop] at f0 f1;simp at f0 f1;rw [World.var?_cell hg hvar (i*2),World.var?_cell hg hvar (i*2+1),m0,m1];exact ⟨by simpa using f0,by simpa using f1⟩
 exact ⟨fun k hk=>(key k hk).1,fun k hk=>(key k hk).2⟩
theorem kds_same:(Rows.laid_echelon_view_pickupKinds:DataW Unit)=kdsV:=by kernel_rfl
theorem RT : Tryz.prog.globalNamed "internal/strconv.uint64pow10" = some 1 := by kernel_rfl
theorem ptabV_of {W : World} {r : List (String × DataW Unit)} (h : laidMet Tryz.prog (("internal/strconv.uint64pow10", Lib.tabData .u64 Lib.pow10Tab) :: r) W) : PTabV W :=
 Lib.tabIs_of_head (t:=212) (e:=22) (n:=20) RT (by kernel_rfl) Tryz.underlying212 Tryz.underlying22 (by kernel_rfl) (by kernel_rfl) h
end Go.Proofs.YthcjckgmdokmdaaGreatDoor
namespace Go.Proofs.YthcjckgmdokmdaaGreatDoor
open Go.ChangeShapes Go.WideShapes Go.ChangeAt Go.RowKit Go.Deep
open Pu Gp Vp
set_option maxRecDepth 100000
def BL {H:Type} (l:List ByteArray):DataW H:=.agg (l.map fun b=>.lit (.string b.data.toList))
theorem RU {W:World} {name:String} {g t n:Nat} {l:List ByteArray} (hg:Tryz.prog.globalNamed name=some g) (hty:(Tryz.prog.globals[g]?).map (·.type)=some t) (hu:Tryz.prog.underlying t=some (.array n 9)) (hn:l.length=n)
  (h:Lib.VarReads Tryz.prog W name (BL l)) (i:Nat) (hi:i<n):W.cell? ⟨g,i,none⟩=some (.string (l.getD i ByteArray.empty)):=by
 obtain ⟨g',t',cs,fuel,p,hg',hty',hvar,hd⟩:=h;obtain rfl:=Option.some.inj (hg.symm.trans hg');obtain rfl:=Option.some.inj (hty.symm.trans hty');obtain ⟨fuel',d,q,hdi,he⟩:=Lib.array_elem hu hd i hi;rw [BK,Nat.mul_one] at he;obtain ⟨s,e1,e2,_⟩:=DataW.trod_string Tryz.underlying9 he;have hl:i<l.length:=by omega
 rw [List.getElem?_map,List.getElem?_eq_getElem hl,Option.map_some,Option.some.injEq] at hdi;have e3:d=.lit (.string s.data.toList):=congrArg Prod.fst e2;rw [<- hdi] at e3;have e4:(l[i]'hl).data.toList=s.data.toList:=by simpa using e3
 have e5:l[i]'hl=s:=ByteArray.ext (Array.toList_inj.1 e4);have e0:=congrArg (·[0]?) e1;simp only [List.getElem?_take,List.getElem?_drop] at e0;rw [World.var?_cell hg hvar i,<- Array.getElem?_toList];simp at e0;rw [List.getD_eq_getElem?_getD,List.getElem?_eq_getElem hl];simp only [Option.getD_some,e5];simpa using e0
theorem Kv {W:World} {name:String} {g t n:Nat} {l:List Int} (hg:Tryz.prog.globalNamed name=some g) (hty:(Tryz.prog.globals[g]?).map (·.type)=some t) (hu:Tryz.prog.underlying t=some (.array n 3)) (hc:Tryz.prog.cellsOf t=n) (hn:l.length=n)
  (h:Lib.VarReads Tryz.prog W name (Lib.tabData .i64 l)) (i:Nat) (hi:i<n):W.cell? ⟨g,i,none⟩=some (.int .i64 (l.getD i 0)):=by
 obtain ⟨g',t',cs,fuel,p,hg',hty',hvar,hd⟩:=h;obtain rfl:=Option.some.inj (hg.symm.trans hg');obtain rfl:=Option.some.inj (hty.symm.trans hty');have hcs:=Lib.cells_of_tab hu Tryz.underlying3 RR hc hd;rw [World.var?_cell hg hvar i,<- Array.getElem?_toList,hcs];have hl:i<l.length:=by omega
 simp [hl]
theorem tabsP {W : World} {r : List (String × DataW Unit)} (hL : laidMet Tryz.prog (("echelon/echelonref05.unitX", Rows.laid_echelon_echelonref05_unitX) :: ("echelon/echelonref05.unitY", Rows.laid_echelon_echelonref05_unitY) :: ("echelon/echelonref07.first", Rows.laid_echelon_echelonref07_first) :: ("echelon/echelonref07.least", Rows.laid_echelon_echelonref07_least) :: ("echelon/echelonref07.most", Rows.laid_echelon_echelonref07_most) :: r) W) : OTab W /\ RTab W := by
  have hM : laidMet Tryz.prog (("echelon/echelonref05.unitX", Lib.tabData .i64 unitX) :: ("echelon/echelonref05.unitY", Lib.tabData .i64 unitY) :: ("echelon/echelonref07.first", BL fsL) :: ("echelon/echelonref07.least", Lib.tabData .i64 loL) :: ("echelon/echelonref07.most", Lib.tabData .i64 hiL) :: r) W := hL;exact ⟨⟨fun d hd => RU (t := 244) (n := 7) (by kernel_rfl) (by kernel_rfl) Tryz.underlying244 rfl (Lib.laidMet.reads hM (.tail _ (.tail _ (.head _)))) d hd,
     fun d hd=>Kv (t:=245) (n:=7) (by kernel_rfl) (by kernel_rfl) Tryz.underlying245 (by kernel_rfl) rfl (Lib.laidMet.reads hM (.tail _ (.tail _ (.tail _ (.head _))))) d hd,
     fun d hd=>Kv (t:=245) (n:=7) (by kernel_rfl) (by kernel_rfl) Tryz.underlying245 (by kernel_rfl) rfl (Lib.laidMet.reads hM (.tail _ (.tail _ (.tail _ (.tail _ (.head _)))))) d hd⟩,
    ⟨fun d hd=>Kv (t:=225) (n:=16) (by kernel_rfl) (by kernel_rfl) Tryz.underlying225 (by kernel_rfl) rfl (Lib.laidMet.reads hM (.head _)) d hd,
     fun d hd=>Kv (t:=225) (n:=16) (by kernel_rfl) (by kernel_rfl) Tryz.underlying225 (by kernel_rfl) rfl (Lib.laidMet.reads hM (.tail _ (.head _))) d hd⟩⟩
end Go.Proofs.YthcjckgmdokmdaaGreatDoor
