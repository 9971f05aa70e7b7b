import Derived.Test.YtcgmohldcokccaaGreatDoorXR05
import Derived.Test.YtcgmohldcokccaaGreatDoorXR08
set_option linter.unusedVariables false
set_option maxRecDepth 100000
namespace Go.Proofs.YtcgmohldcokccaaGreatDoor
section
open Go.RowKit
open Pu Gp Ap Vp Np Za Ka Ja
def KM:Kd Mv:=⟨fun m=>(mcs m).toList,13,zM,fun _=>rfl,fun m u hu=>by
 simp at hu;rcases hu with rfl|rfl|rfl|rfl|rfl|rfl|rfl|rfl|rfl|rfl|rfl|rfl|rfl<;>rfl,by decide⟩
def KS:Kd Sh:=⟨fun m=>(scs m).toList,8,zS,fun _=>rfl,fun m u hu=>by
 simp at hu;rcases hu with rfl|rfl|rfl|rfl|rfl|rfl|rfl|rfl<;>rfl,by decide⟩
def KT:Kd (Int × Int):=⟨fun p=>[.int .i64 p.1,.int .i64 p.2],2,(0,0),fun _=>rfl,fun m u hu=>by
 simp at hu;rcases hu with rfl|rfl<;>rfl,by decide⟩
theorem Qh:∃i,Tryz.prog.info? 59=some i/\i.zero=some (.agg (KM.f KM.d).toArray)/\i.size=KM.k/\i.bytes=104:=⟨_,rfl,rfl,rfl,rfl⟩
theorem MA:∃i,Tryz.prog.info? 126=some i/\i.zero=some (.agg (KT.f KT.d).toArray)/\i.size=KT.k/\i.bytes=16:=⟨_,rfl,rfl,rfl,rfl⟩
theorem rdM{w:World}{B o n:Nat}{L:List Mv}(h:RdG KM w (some ⟨B,o,none⟩) n L){i:Nat}(hi:i<n):w.cell? ⟨B,o+i*13,none⟩=some (.int .i64 (mm L i).ax)/\w.cell? ⟨B,o+i*13+1,none⟩=some (.int .i64 (mm L i).ay)/\w.cell? ⟨B,o+i*13+2,none⟩=some (.int .i64 (mm L i).sx)/\w.cell? ⟨B,o+i*13+3,none⟩=some (.int .i64 (mm L i).sy)/\w.cell? ⟨B,o+i*13+4,none⟩=some (.int .i64 (mm L i).px)/\w.cell? ⟨B,o+i*13+5,none⟩=some (.int .i64 (mm L i).py)/\w.cell? ⟨B,o+i*13+6,none⟩=some (.int .i64 (mm L i).fc)/\w.cell? ⟨B,o+i*13+7,none⟩=some (.int .i64 (mm L i).hl)/\w.cell? ⟨B,o+i*13+8,none⟩=some (.int .i64 (mm L i).en)/\w.cell? ⟨B,o+i*13+9,none⟩=some (.bool (mm L i).sh)/\w.cell? ⟨B,o+i*13+10,none⟩=some (.int .i64 (mm L i).co)/\w.cell? ⟨B,o+i*13+11,none⟩=some (.int .i64 (mm L i).ou)/\w.cell? ⟨B,o+i*13+12,none⟩=some (.int .i64 (mm L i).sd):=
 ⟨h.get hi 0 _ rfl,h.get hi 1 _ rfl,h.get hi 2 _ rfl,h.get hi 3 _ rfl,h.get hi 4 _ rfl,h.get hi 5 _ rfl,h.get hi 6 _ rfl,h.get hi 7 _ rfl,h.get hi 8 _ rfl,h.get hi 9 _ rfl,h.get hi 10 _ rfl,h.get hi 11 _ rfl,h.get hi 12 _ rfl⟩
theorem rdS{w:World}{B o n:Nat}{L:List Sh}(h:RdG KS w (some ⟨B,o,none⟩) n L){i:Nat}(hi:i<n):w.cell? ⟨B,o+i*8,none⟩=some (.int .i64 (ss L i).no)/\w.cell? ⟨B,o+i*8+1,none⟩=some (.int .i64 (ss L i).ow)/\w.cell? ⟨B,o+i*8+2,none⟩=some (.int .i64 (ss L i).pw)/\w.cell? ⟨B,o+i*8+3,none⟩=some (.int .i64 (ss L i).ax)/\w.cell? ⟨B,o+i*8+4,none⟩=some (.int .i64 (ss L i).ay)/\w.cell? ⟨B,o+i*8+5,none⟩=some (.int .i64 (ss L i).sx)/\w.cell? ⟨B,o+i*8+6,none⟩=some (.int .i64 (ss L i).sy)/\w.cell? ⟨B,o+i*8+7,none⟩=some (.int .i64 (ss L i).lf):=
 ⟨h.get hi 0 _ rfl,h.get hi 1 _ rfl,h.get hi 2 _ rfl,h.get hi 3 _ rfl,h.get hi 4 _ rfl,h.get hi 5 _ rfl,h.get hi 6 _ rfl,h.get hi 7 _ rfl⟩
theorem rdP{w:World}{B o n:Nat}{L:List (Int × Int)}(h:RdG KT w (some ⟨B,o,none⟩) n L){i:Nat}(hi:i<n):w.cell? ⟨B,o+i*2,none⟩=some (.int .i64 (pp L i).1)/\w.cell? ⟨B,o+i*2+1,none⟩=some (.int .i64 (pp L i).2):=
 ⟨h.get hi 0 _ rfl,h.get hi 1 _ rfl⟩
theorem owM{e:TypeId}{w:World}{B g n cap:Nat}{L:List Mv}(h:OwG KM e w B (.slice (some ⟨g,0,none⟩) n cap) L){i:Nat}(hi:i<L.length):w.cell? ⟨g,i*13,none⟩=some (.int .i64 (mm L i).ax)/\w.cell? ⟨g,i*13+1,none⟩=some (.int .i64 (mm L i).ay)/\w.cell? ⟨g,i*13+2,none⟩=some (.int .i64 (mm L i).sx)/\w.cell? ⟨g,i*13+3,none⟩=some (.int .i64 (mm L i).sy)/\w.cell? ⟨g,i*13+4,none⟩=some (.int .i64 (mm L i).px)/\w.cell? ⟨g,i*13+5,none⟩=some (.int .i64 (mm L i).py)/\w.cell? ⟨g,i*13+6,none⟩=some (.int .i64 (mm L i).fc)/\w.cell? ⟨g,i*13+7,none⟩=some (.int .i64 (mm L i).hl)/\w.cell? ⟨g,i*13+8,none⟩=some (.int .i64 (mm L i).en)/\w.cell? ⟨g,i*13+9,none⟩=some (.bool (mm L i).sh)/\w.cell? ⟨g,i*13+10,none⟩=some (.int .i64 (mm L i).co)/\w.cell? ⟨g,i*13+11,none⟩=some (.int .i64 (mm L i).ou)/\w.cell? ⟨g,i*13+12,none⟩=some (.int .i64 (mm L i).sd)/\∀o,w.frozen? ⟨g,o,none⟩=false:=
 ⟨h.get hi 0 _ rfl,h.get hi 1 _ rfl,h.get hi 2 _ rfl,h.get hi 3 _ rfl,h.get hi 4 _ rfl,h.get hi 5 _ rfl,h.get hi 6 _ rfl,h.get hi 7 _ rfl,h.get hi 8 _ rfl,h.get hi 9 _ rfl,h.get hi 10 _ rfl,h.get hi 11 _ rfl,h.get hi 12 _ rfl,h.frozen⟩
theorem owT{e:TypeId}{w:World}{B g n cap:Nat}{L:List (Int × Int)}(h:OwG KT e w B (.slice (some ⟨g,0,none⟩) n cap) L){i:Nat}(hi:i<L.length):w.cell? ⟨g,i*2,none⟩=some (.int .i64 (pp L i).1)/\w.cell? ⟨g,i*2+1,none⟩=some (.int .i64 (pp L i).2)/\∀o,w.frozen? ⟨g,o,none⟩=false:=
 ⟨h.get hi 0 _ rfl,h.get hi 1 _ rfl,h.frozen⟩
theorem US(w:World){ops:Array Oper}{rest:List Oper}{o:Oper}{a:Act}{Q:Exit->Act->World->Prop}(hgd:o.guard=none)(s x:Operand)
  (hop:o.op=.call { callee:=.builtin .append,args:=#[s,x],argTypes:=#[120,120] })
  (B g:Nat) (v:Value) (L:List (Int × Int)) (p q:Int) (hs:a.eval s=v) (hx:a.eval x=.slice (some ⟨g,0,none⟩) 1 1) (ho:OwG KT 126 w B v L) (hr:w.heap[g]?=some (.cells #[.int .i64 p,.int .i64 q] 126 (0,0))) (h47:L.length<=100000) (hB:B<=w.heap.size)
  (h:∀v' w',OwG KT 126 w' B v' (L ++ [(p,q)])->Fr (fun k=>v.ownBlock=some k) w w'->wpList Tryz.prog ops Q rest (a.put o.dst v') w'):wpList Tryz.prog ops Q (o :: rest) a w:=
 M8 KT w hgd s x 120 hop Tryz.underlying120 16 MA (by decide) B g v L (p,q) hs hx ho hr h47 hB h
end
section
open Go.RowKit
open Pu Gp Np Ka
abbrev kcs(x:Pk):Array Value:=#[.int .i64 x.no,.int .i64 x.sp,.int .i64 x.kd]
abbrev kv(x:Pk):Value:=.agg (kcs x)
def Kb(w:World)(g:Nat)(x:Pk):Prop:=w.heap[g]?=some (.cells (kcs x) 71 (0,0))
theorem Kb.sT{w w':World}{g:Nat}{x:Pk}(h:Kb w g x)(hs:Yc w w'):Kb w' g x:=hs.kept_still h
theorem Kb.cells{w:World}{g:Nat}{x:Pk}(h:Kb w g x):w.cell? ⟨g,0,none⟩=some (.int .i64 x.no)/\w.cell? ⟨g,1,none⟩=some (.int .i64 x.sp)/\w.cell? ⟨g,2,none⟩=some (.int .i64 x.kd)/\∀o,w.frozen? ⟨g,o,none⟩=false:=by
 refine⟨?_,?_,?_,fun o=>frozen_of_row w g o _ _ h⟩<;>(rw[cell_of_row _ _ _ _ _ _ h];rfl)
abbrev Di(w:World)(x:Pk):World:=w.alloc (.cells (kcs x) 71)
theorem Xn(w:World)(x:Pk):Kb (Di w x) w.heap.size x:=heap_alloc_new w _
theorem Kb.put{w:World}{g:Nat}{x:Pk}(h0:Kb w g x)(a b c:Int):Kb (((w.setCell ⟨g,0,none⟩ (.int .i64 a)).setCell ⟨g,1,none⟩ (.int .i64 b)).setCell ⟨g,2,none⟩ (.int .i64 c)) g ⟨a,b,c⟩:=by
 unfold Kb at h0⊢;have h1:=heap_setCell_same _ g 0 _ _ (.int .i64 a) h0;have h2:=heap_setCell_same _ g 1 _ _ (.int .i64 b) h1;have h3:=heap_setCell_same _ g 2 _ _ (.int .i64 c) h2;exact h3.trans (by kernel_rfl)
theorem Kb.load{w:World}{g:Nat}{x:Pk}(h:Kb w g x):(loadVar 71 ⟨g,0,none⟩).run Tryz.prog w=.ok (kv x) w:=by
 obtain⟨c0,c1,c2,cf⟩:=h.cells;go_simp
theorem Kb.rest3{fn:Func}{p q r:Tmp}{w:World}{g:Nat}{x:Pk}(hb:Kb w g x)(h:fn.results=#[.cell p 71,.tmp q,.tmp r])(tmps:Array Value)(t s:Value)(hp:tmps.getD p undef=.pointer (some ⟨g,0,none⟩))(hq:tmps.getD q undef=t)(hr:tmps.getD r undef=s) :
  (results fn tmps).run Tryz.prog w=.ok (.tuple #[kv x,t,s]) w:=by
 rw[On h,hp,hq,hr];simp[asAddr,Result.andThen,hb.load]
def eqK(x y:Pk):Bool:=(x.no == y.no) && ((x.sp == y.sp) && (x.kd == y.kd))
theorem MB(x:Pk):eqK x x=true:=by unfold eqK;simp
theorem UT(x:Pk)(w:World):(part 3 (kcs x) 0).run Tryz.prog w=.ok (.int .i64 x.no) w/\(part 3 (kcs x) 1).run Tryz.prog w=.ok (.int .i64 x.sp) w/\(part 3 (kcs x) 2).run Tryz.prog w=.ok (.int .i64 x.kd) w:=by
 refine⟨?_,?_,?_⟩<;>go_simp
theorem MC(x y:Pk)(w:World):(Op.equalIn 10000 71 (kv x) (kv y)).run Tryz.prog w=.ok (eqK x y) w:=by
 have c0:=fun w=>(UT x w).1;have d0:=fun w=>(UT y w).1;have r0:=fun w=>ZF 9998 x.no y.no w;have c1:=fun w=>(UT x w).2.1;have d1:=fun w=>(UT y w).2.1;have r1:=fun w=>ZF 9998 x.sp y.sp w;have c2:=fun w=>(UT x w).2.2;have d2:=fun w=>(UT y w).2.2;have r2:=fun w=>ZF 9998 x.kd y.kd w;rw[run_equalIn_struct w 9999 _ _ _ (by kernel_rfl) (by kernel_rfl)];have e : (Tryz.prog.fieldsOf 71) = #[⟨ "No", 3, 0, false, "", "", 0⟩, ⟨ "Spot", 3, 1, false, "", "", 8⟩, ⟨ "Kind", 3, 2, false, "", "", 16⟩]:=by kernel_rfl
 rw[e];simp only[Op.eqFields,ne_eq,String.reduceEq,not_false_eq_true,if_true,Sem.run_bind,c0,c1,c2,d0,d1,d2,Result.andThen_ok,r0,r1,r2,Sem.run_ite,Sem.run_pure];unfold eqK;exact st (st (st1 _))
theorem MD(x y:Pk)(w:World):(binOp .neq 71 (kv x) (kv y)).run Tryz.prog w=.ok (.bool (!eqK x y)) w:=by
 rw[run_neq_struct,MC];rfl
theorem ME(x:Pk)(w:World):(binOp .neq 71 (kv x) (kv x)).run Tryz.prog w=.ok (.bool false) w:=by
 rw[MD,MB];rfl
theorem MF(op:BinOp)(a b:Operand)(xs ys:Array Value)(w:World):(eqGuard op 71 a b (.agg xs) (.agg ys)).run Tryz.prog w=.ok () w:=run_eqGuard_agg w op _ a b xs ys (by kernel_rfl)
def RdK(w:World)(ao:Option Addr)(n:Nat)(L:List Pk):Prop:=L.length=n/\n<=281474976710656/\(n=0 \/ ∃B o,ao=some ⟨B,o,none⟩/\∀i,i<n->w.cell? ⟨B,o+i*3,none⟩=some (.int .i64 (pk L i).no)/\w.cell? ⟨B,o+i*3+1,none⟩=some (.int .i64 (pk L i).sp)/\w.cell? ⟨B,o+i*3+2,none⟩=some (.int .i64 (pk L i).kd))
theorem RdK.sT{w w':World}{ao:Option Addr}{n:Nat}{L:List Pk}(h:RdK w ao n L)(hs:Yc w w'):RdK w' ao n L:=by
 refine⟨h.1,h.2.1,?_⟩;rcases h.2.2 with h0|⟨B,o,e,hc⟩
 ·exact .inl h0
 ·have on:∀{p:Addr} {x:Value},w.cell? p=some x->w'.cell? p=some x:=fun hp=>(hs.cell (World.block_lt_of_cell? w _ hp) (fun e=>e)).trans hp;exact .inr ⟨B,o,e,fun i hi=>⟨on (hc i hi).1,on (hc i hi).2.1,on (hc i hi).2.2⟩⟩
theorem RdK.at{w:World}{ao:Option Addr}{n:Nat}{L:List Pk}(h:RdK w ao n L)(hn:0<n):∃B o,ao=some ⟨B,o,none⟩/\∀i,i<n->w.cell? ⟨B,o+i*3,none⟩=some (.int .i64 (pk L i).no)/\w.cell? ⟨B,o+i*3+1,none⟩=some (.int .i64 (pk L i).sp)/\w.cell? ⟨B,o+i*3+2,none⟩=some (.int .i64 (pk L i).kd):=by
 rcases h.2.2 with h0|h
 ·omega
 ·exact h
theorem MG:∃i,Tryz.prog.info? 71=some i/\i.zero=some (kv zK)/\i.size=3/\i.bytes=24:=⟨_,rfl,rfl,rfl,rfl⟩
theorem MH(w:World)(ao:Option Addr)(n cap:Nat)(x:Int)(h0:0<=x)(h1:x<=cap) :
  (Instr.slice 31 (.slice ao n cap) none (some (.int .i64 x)) none).run Tryz.prog w=.ok (.slice ao x.toNat cap) w:=by
 obtain⟨i,hi,_,hs,_⟩:=MG;have ht:Tryz.prog.underlying 31=some (.slice 71):=Tryz.underlying31;have ht':Tryz.prog.underlying 31=some (.slice (Tryz.prog.elem 31)):=by simp[Program.elem,ht]
 have he:Tryz.prog.elem 31=71:=by simp[Program.elem,ht]
 rw[run_slice_h w 31 ao n cap ht' .i64 x h0 h1,he];have:=Aq ao cap;simp only[QY]at this;simp[sizeOf,typeInfo,hi,hs,Result.andThen,sliced];simpa using this
end
end Go.Proofs.YtcgmohldcokccaaGreatDoor
