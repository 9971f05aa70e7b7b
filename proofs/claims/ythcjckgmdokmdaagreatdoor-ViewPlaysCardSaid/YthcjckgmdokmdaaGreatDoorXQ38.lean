import Derived.Test.YthcjckgmdokmdaaGreatDoorXQ07
import Derived.Deep.DeepCutAuto
import Derived.Deep.RegionHeld3
import Derived.Laws.AppendOwnNone
import Derived.Lib.SliceRun
namespace Go.Proofs.YthcjckgmdokmdaaGreatDoor
open Go.RowKit
set_option maxRecDepth 100000
theorem LZ {w:World} {a b:Nat} {x y:Array Value} {s t:TypeId} (ha:w.heap[a]?=some (.cells x s (0,0))) (hb:w.heap[b]?=some (.cells y t (0,0))) (h:s≠t):a≠b:=by
 rintro rfl;have:=ha.symm.trans hb;simp at this;exact h this.2
theorem Ma {α:Type} {K:Kd α} {e:TypeId} {w:World} {B k:Nat} {u:Value} {L:List α} (ho:OwG K e w B u L) (hk:u.ownBlock=some k):∃ cur,w.heap[k]?=some (.cells cur e (0,0)):=by
 rcases ho.2 with ⟨rfl,_⟩ | ⟨g,cap,cur,rfl,_,hg,_⟩
 ·cases hk
 ·simp [Value.ownBlock] at hk;subst hk;exact ⟨cur,hg⟩
section
variable {α:Type} {K:Kd α} {e:TypeId} {w w':World}
structure SrG (K:Kd α) (w:World) (ao:Option Addr) (cap:Nat) (S:List α):Prop where
 rd:RdG K w ao S.length S
 le:S.length<=cap
 nl:ao=none->cap=0
theorem SrG.own {B:Nat} {ao:Option Addr} {cap:Nat} {S:List α} (h:OwG K e w B (.slice ao S.length cap) S) (hm:S.length<=281474976710656):SrG K w ao cap S:=by
 refine ⟨OwG.rd (M:=[]) (by simpa using h) hm, ?_, ?_⟩
 ·rcases h.2 with ⟨hv,hn⟩ | ⟨g',cap',cur,hv,hb,hg,hn,_⟩
  ·injection hv with _ _ h3; omega
  ·cases hv; exact hn
 ·rintro rfl;rcases h.2 with ⟨hv,hn⟩ | ⟨g',cap',cur,hv,hb,hg,hn,_⟩
  ·injection hv
  ·cases hv
theorem Xu {P:Program} (K:Kd α) (w:World) {ops:Array Oper} {rest:List Oper} {o:Oper} {a:Act} {Q:Exit->Act->World->Prop} (hgd:o.guard=none) (s x:Operand) (t:TypeId)
  (hop:o.op=.call { callee:=.builtin .append,args:=#[s,x],argTypes:=#[t,t] })
  (hu:P.underlying t=some (.slice e)) (bytes:Nat) (z:Value) (hz0:z.cells.size=K.k) (hinfo:∃ i,P.info? e=some i/\i.zero=some z/\i.size=K.k/\i.bytes=bytes)
  (B:Nat) (v:Value) (L S:List α) (ao:Option Addr) (n cap:Nat) (hs:a.eval s=v) (hx:a.eval x=.slice ao n cap) (hn:S.length=n) (ho:OwG K e w B v L) (hr:SrG K w ao cap S) (h47:(L.length+S.length)*bytes<=140737488355328) (h63:L.length+S.length<=281474976710656) (hB:B<=w.heap.size)
  (h:∀ v' w',OwG K e w' B v' (L ++ S)->Fr (fun k=>v.ownBlock=some k) w w'->wpList P ops Q rest (a.put o.dst v') w'):wpList P ops Q (o :: rest) a w:=by
 obtain ⟨i,hi,hz,h1,h2⟩:=hinfo;subst hn;cases ao with
 | none =>
  have hc:=hr.nl rfl;have hS:S=[]:=List.eq_nil_of_length_eq_zero (by have:=hr.le; omega);subst hS hc;refine wpList_append_own_none hgd s x _ hop B e i K.k hu hi v L.length (K.row L) hs ho hx ?_;exact h v w (by rw [List.append_nil]; exact ho) (Fr.refl _ _)
 | some ad =>
  refine wpList_append_own (P:=P) w hgd s x _ hop B e i z K.k bytes hu hi hz h1 h2 hz0 K.pos v L.length (K.row L) hs ho ad S.length cap (K.row S) hx (by rw [K.row_len]) hr.rd.cellsAt (K.row_one S) (by unfold maxLen; omega) h47 hB ?_;intro v' w' hown hgr _;refine h v' w' ?_ ⟨hgr.os,hgr.tape,hgr.output,hgr.size,fun k hk hn=>hgr.block k hk (fun e=>hn e.symm)⟩;unfold OwG;rw [K.row_app,List.length_append];exact hown
end
def pk (c n:Int):Int:=if c<0 then (-(c+1)).tmod n else c.tmod n
end Go.Proofs.YthcjckgmdokmdaaGreatDoor
