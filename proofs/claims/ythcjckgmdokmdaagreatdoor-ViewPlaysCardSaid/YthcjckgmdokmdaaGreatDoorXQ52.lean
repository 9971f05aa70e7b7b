import Derived.Test.YthcjckgmdokmdaaGreatDoorXQ51
import Derived.Test.YthcjckgmdokmdaaGreatDoorXQ36
import Derived.Lay
import Derived.LaidMore
import Derived.Stop.Joined
import Derived.Stop.LaidErr
import Derived.Lib.LaidTab
import Derived.Lib.LaidU8
namespace Go.Proofs.YthcjckgmdokmdaaGreatDoor
open Go.ChangeShapes Go.WideShapes Go.ChangeAt Go.RowKit Go.Deep
open Pu Gp Ap Vp Np Za Ka Ja Ea Ha Hg Hi
set_option maxRecDepth 100000
theorem Jv:Tryz.prog.cellsOf 3=1:=by kernel_rfl
theorem RG:Tryz.prog.cellsOf 85=7:=by kernel_rfl
theorem RH:Tryz.prog.cellsOf 83=4:=by kernel_rfl
theorem RI:Tryz.prog.cellsOf 2=1:=by kernel_rfl
theorem RJ:Tryz.prog.cellsOf 22=1:=by kernel_rfl
theorem RK:Tryz.prog.cellsOf 9=1:=by kernel_rfl
theorem RL:Tryz.prog.cellsOf 24=3:=by kernel_rfl
theorem RM:Tryz.prog.cellsOf 27=6:=by kernel_rfl
theorem RN:Tryz.prog.cellsOf 25=1:=by kernel_rfl
section
variable {H:Type} {enc:TypeId × Value->H} {w:World}
theorem RO {fuel:Nat} {cs:List Value} {x:DataW H × List MemPlace} (h:DataW.trod enc Tryz.prog w 0 (fun _=>true) true fuel 25 cs=some x) :
  ∃ (ao:Option Addr) (n cap:Nat) (bs:List Int),cs=[.slice ao n cap]/\RdI w ao n cap bs:=by
 rcases open_ints Tryz.underlying25 Tryz.underlying3 Jv h with ⟨rfl,rfl⟩ | ⟨a,len,cap,zs,rfl,_,hl,hm,hz,rfl,hcell,hwz⟩
 ·exact ⟨none,0,0,[],rfl,RdI.empty w⟩
 ·simp only [if_true] at hz;refine ⟨some a,len,cap,zs.take len,rfl,⟨by simp; omega,hl,hm, ?_,fun h=>(by cases h), ?_⟩⟩
  ·intro a' ha hp;cases ha;have:=hcell 0 (by omega);simpa [Addr.add] using World.cell?_spot this
  ·intro a' ha j hj;cases ha;simp at hj;have h1:=hcell j (by omega);have hsp:a.spot=none:=by
    have:=hcell 0 (by omega);simpa [Addr.add] using World.cell?_spot this
   obtain ⟨b,o,s⟩:=a;simp at hsp;subst hsp;rw [add_plain] at h1;rw [h1];have hjz:j<zs.length:=by omega
   simp [List.getD,hjz]
theorem RP {fuel:Nat} {cs:List Value} {x:DataW H × List MemPlace} (hl:cs.length=4) (h:DataW.trod enc Tryz.prog w 0 (fun _=>true) true fuel 83 cs=some x):∃ a b c d:Int,cs=[.int .i64 a,.int .i64 b,.int .i64 c,.int .i64 d]:=by
 obtain ⟨x0,x1,x2,x3,rfl⟩:=Ku hl;obtain ⟨xs,n,_,_,_,hlen,hfl⟩:=DataW.trod_struct Tryz.underlying83 h;obtain ⟨z0,z1,z2,z3,rfl⟩:=Ku (l:=xs) (by simpa using hlen);have g0:=hfl 0 _ rfl;have g1:=hfl 1 _ rfl;have g2:=hfl 2 _ rfl;have g3:=hfl 3 _ rfl;simp [Jv] at g0 g1 g2 g3;obtain ⟨a,e0,_,_⟩:=DataW.trod_int Tryz.underlying3 g0;obtain ⟨b,e1,_,_⟩:=DataW.trod_int Tryz.underlying3 g1;obtain ⟨c,e2,_,_⟩:=DataW.trod_int Tryz.underlying3 g2;obtain ⟨d,e3,_,_⟩:=DataW.trod_int Tryz.underlying3 g3;simp at e0 e1 e2 e3;subst e0 e1 e2 e3;exact ⟨a,b,c,d,rfl⟩
def InX (y:Cm):Prop:=(-9223372036854775808<=y.fr/\y.fr<=9223372036854775807)/\(-9223372036854775808<=y.pe/\y.pe<=9223372036854775807)/\(-9223372036854775808<=y.sq/\y.sq<=9223372036854775807)
theorem RQ {fuel:Nat} {cs:List Value} {x:DataW H × List MemPlace} (hl:cs.length=7) (h:DataW.trod enc Tryz.prog w 0 (fun _=>true) true fuel 85 cs=some x):∃ y:Cm,cs=KX.f y/\InX y:=by
 obtain ⟨x0,x1,x2,x3,x4,x5,x6,rfl⟩:∃ a b c d e f g,cs=[a,b,c,d,e,f,g]:=by
  match cs,hl with
  | [a,b,c,d,e,f,g],_=>exact ⟨a,b,c,d,e,f,g,rfl⟩
 obtain ⟨xs,n,_,_,_,hlen,hfl⟩:=DataW.trod_struct Tryz.underlying85 h;obtain ⟨z0,z1,z2,z3,rfl⟩:=Ku (l:=xs) (by simpa using hlen);have g0:=hfl 0 _ rfl;have g1:=hfl 1 _ rfl;have g2:=hfl 2 _ rfl;have g3:=hfl 3 _ rfl;simp [Jv,RI,RH] at g0 g1 g2 g3;obtain ⟨a,e0,_,w0⟩:=DataW.trod_int Tryz.underlying2 g0;obtain ⟨b,e1,_,w1⟩:=DataW.trod_int Tryz.underlying3 g1;obtain ⟨c,e2,_,w2⟩:=DataW.trod_int Tryz.underlying3 g2;obtain ⟨v1,v2,v3,v4,e3⟩:=RP rfl g3;simp at e0 e1 e2 e3;obtain ⟨rfl,rfl,rfl,rfl⟩:=e3;subst e0 e1 e2;exact ⟨⟨a,b,c,v1,v2,v3,v4⟩,rfl,Kt w0,Kt w1,Kt w2⟩
theorem open_cs {fuel:Nat} {cs:List Value} {x:DataW H × List MemPlace} (h:DataW.trod enc Tryz.prog w 0 (fun _=>true) true fuel 39 cs=some x) :
  ∃ so n cap,cs=[.slice so n cap]/\n<=cap/\(n<=281474976710656->∃ L,RdG KX w so n L/\∀ i,i<n->InX (L.getD i KX.d))/\(so=none->cap=0)/\(n=0 \/ ∃ es sp,x.1=.slice es sp/\es.length=n) :=
 RF KX InX Tryz.underlying39 RG RQ h
theorem open_cfg {r:Go.Reach} {b0:Nat} {v:Value} {d:DataW H} {p:List MemPlace} (hv:Value.okWide Tryz.prog w r b0 27 v) (h:DataW.Trod enc Tryz.prog w 0 (fun _=>true) true 27 v d p) (hw:∀ n∈d.weights Tryz.prog 27,n<=reachBytes) :
  ∃ (p q C R:Int) (s:ByteArray) (lo:Option Addr) (n cap:Nat) (l:List Int),v=.agg #[.int .i64 p,.int .u64 q,.int .i64 C,.int .i64 R,.string s,.slice lo n cap]/\RdI w lo n cap l/\s.size<=281474976710656/\C<=9223372036854775807:=by
 obtain ⟨cs,rfl,hsz⟩:=okWide_struct Tryz.underlying27 hv;obtain ⟨l⟩:=cs;obtain ⟨x0,x1,x2,x3,x4,x5,rfl⟩:=RE (l:=l) (by simpa using hsz.trans RM);obtain ⟨fuel,hf⟩:=h;obtain ⟨xs,n,_,hx,_,hlen,hfl⟩:=DataW.trod_struct Tryz.underlying27 hf;obtain ⟨z0,z1,z2,z3,rfl⟩:=Ku (l:=xs) (by simpa using hlen);have g0:=hfl 0 _ rfl;have g1:=hfl 1 _ rfl;have g2:=hfl 2 _ rfl;have g3:=hfl 3 _ rfl;simp [Value.cells,Jv,RJ,RL,RN] at g0 g1 g2 g3;obtain ⟨a,e0,_,w0⟩:=DataW.trod_int Tryz.underlying3 g0;obtain ⟨b,e1,_,w1⟩:=DataW.trod_int Tryz.underlying22 g1;obtain ⟨ys,n2,_,hy,_,hlen2,hfl2⟩:=DataW.trod_struct Tryz.underlying24 g2;obtain ⟨y0,y1,y2,rfl⟩:=RD (l:=ys) (by simpa using hlen2);have k0:=hfl2 0 _ rfl;have k1:=hfl2 1 _ rfl;have k2:=hfl2 2 _ rfl;simp [Jv,RK] at k0 k1 k2;obtain ⟨C,f0,_,u0⟩:=DataW.trod_int Tryz.underlying3 k0;obtain ⟨R,f1,_,_⟩:=DataW.trod_int Tryz.underlying3 k1;obtain ⟨s,f2,m2,_⟩:=DataW.trod_string Tryz.underlying9 k2;obtain ⟨lo,ln,lc,bs,e3,hr⟩:=RO g3;simp at e0 e1 e3 f0 f1 f2;subst e0 e1 e3 f0 f1 f2;refine ⟨a,b,C,R,s,lo,ln,lc,bs,rfl,hr, ?_,(Kt u0).2⟩;have hd:d=.agg ([z0,z1,z2,z3].map (·.1)):=by simpa using congrArg (·.1) hx
 have hd2:z2.1=.agg ([y0,y1,y2].map (·.1)):=by simpa using congrArg (·.1) hy
 have:=hw s.data.toList.length (by
  rw [hd];simp only [DataW.weights,Tryz.underlying27,List.map_cons,List.map_nil,DataW.weightsEach,hd2,Tryz.underlying24,m2];simp)
 have hr2:=reachBytes_lt;rw [Array.length_toList] at this;show s.data.size<=_;omega
end
theorem weights_all {H:Type} {ts:List TypeId} {ds:List (DataW H)} (h:(DataW.weightsEach Tryz.prog ts ds).all (· <= reachBytes)=true) {j:Nat} {t:TypeId} {d:DataW H} (ht:ts[j]?=some t) (hd:ds[j]?=some d):∀ n∈d.weights Tryz.prog t,n<=reachBytes:=fun n hn=>by
 have:=List.all_eq_true.1 h _ (DataW.weights_mem_each ht hd _ hn);simpa using this
section
variable {H:Type} {enc:TypeId × Value->H} {w:World}
end
end Go.Proofs.YthcjckgmdokmdaaGreatDoor
