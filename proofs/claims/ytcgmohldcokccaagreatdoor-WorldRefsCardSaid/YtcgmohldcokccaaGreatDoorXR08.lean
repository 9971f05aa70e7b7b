import Derived.Test.YtcgmohldcokccaaGreatDoorXR02
import Derived.Deep.OwnRows
import Derived.Laws.CopyRow
import Derived.Laws.OwnMore
import Derived.Laws.IdiomCopy
set_option linter.unusedVariables false
set_option maxRecDepth 100000
namespace Go.Proofs.YtcgmohldcokccaaGreatDoor
section
open Go.RowKit
structure Kd (α:Type) where
 f:α->List Value
 k:Nat
 d:α
 len:∀x,(f x).length=k
 one:∀x,∀u∈f x,u.oneCell'=true
 pos:0<k
section
variable {α:Type} (K:Kd α)
def Kd.row(L:List α):List Value:=L.flatMap K.f
theorem Kd.row_cons(x:α)(L:List α):K.row (x :: L)=K.f x ++ K.row L:=by simp[Kd.row]
theorem Kd.row_app(L M:List α):K.row (L ++ M)=K.row L ++ K.row M:=by simp[Kd.row]
theorem Kd.row_len(L:List α):(K.row L).length=L.length*K.k:=by
 induction L with
 | nil=>simp[Kd.row]
 | cons x L ih=>rw[K.row_cons,List.length_append,ih,K.len,List.length_cons,Nat.succ_mul];omega
theorem Kd.row_one(L:List α):∀u∈K.row L,u.oneCell'=true:=by
 intro u hu;simp only[Kd.row,List.mem_flatMap]at hu;obtain⟨x,_,hx⟩:=hu;exact K.one x u hx
theorem Kd.row_get:∀(L:List α) (i j:Nat),i<L.length->j<K.k->(K.row L)[i*K.k+j]?=(K.f (L.getD i K.d))[j]?
 | [],i,j,h,_=>by simp at h
 | x :: L,0,j,_,hj=>by
  rw[K.row_cons,Nat.zero_mul,Nat.zero_add,List.getElem?_append_left (by rw[K.len];exact hj)];rfl
 | x :: L,i+1,j,h,hj=>by
  have ih:=Kd.row_get L i j (by simpa using h) hj;rw[K.row_cons,List.getElem?_append_right (by rw[K.len,Nat.succ_mul];omega),K.len,Nat.succ_mul,show i*K.k+K.k+j-K.k=i*K.k+j by omega,ih];simp
theorem Kd.row_drop:∀(L:List α) (i:Nat),(K.row L).drop (i*K.k)=K.row (L.drop i)
 | L,0=>by simp
 | [],i+1=>by simp[Kd.row]
 | x :: L,i+1=>by
  rw[K.row_cons,Nat.succ_mul,Nat.add_comm,List.drop_append,List.drop_of_length_le (by rw[K.len];omega),K.len,List.nil_append,show K.k+i*K.k-K.k=i*K.k by omega];exact Kd.row_drop L i
theorem Kd.row_take:∀(L:List α) (i:Nat),(K.row L).take (i*K.k)=K.row (L.take i)
 | L,0=>by simp[Kd.row]
 | [],i+1=>by simp[Kd.row]
 | x :: L,i+1=>by
  rw[List.take_succ_cons,K.row_cons,K.row_cons,Nat.succ_mul,Nat.add_comm,List.take_append,List.take_of_length_le (by rw[K.len];omega),K.len,show K.k+i*K.k-K.k=i*K.k by omega,Kd.row_take L i]
theorem Kd.row_set(L:List α)(i:Nat)(hi:i<L.length)(x:α):(K.row L).take (i*K.k) ++ (K.f x ++ (K.row L).drop (i*K.k+K.k))=K.row (L.set i x):=by
 rw[K.row_take,show i*K.k+K.k=(i+1)*K.k by rw[Nat.succ_mul],K.row_drop,List.set_eq_take_append_cons_drop,if_pos hi,K.row_app,K.row_cons]
theorem Kd.row_rep(m:Nat):∀t,t<m*K.k->(K.row (List.replicate m K.d))[t]?=(K.f K.d)[t % K.k]?:=fun t ht=>by
 have hp:=K.pos;have hj:=Nat.mod_lt t hp;have hi:t / K.k<m:=(Nat.div_lt_iff_lt_mul hp).2 ht;have:=K.row_get (List.replicate m K.d) (t / K.k) (t % K.k) (by simpa using hi) hj;rw[show t / K.k*K.k+t % K.k=t by rw[Nat.mul_comm];exact Nat.div_add_mod t K.k]at this;rw[this];simp[List.getD,hi]
theorem Kd.made(m:Nat):(madeCells (K.f K.d).toArray (m*K.k)).toList=K.row (List.replicate m K.d):=by
 have hp:=K.pos;apply List.ext_getElem?;intro t;by_cases ht:t<m*K.k
 ·have hj:=Nat.mod_lt t hp;rw[K.row_rep m t ht];have hl:t % K.k<(K.f K.d).length:=by rw[K.len];exact hj
  simp[madeCells,ht,K.len];rw[List.getElem?_eq_getElem hl];rfl
 ·rw[List.getElem?_eq_none (by rw[Array.length_toList,size_madeCells];omega),List.getElem?_eq_none (by rw[K.row_len];simp;omega)]
def RdG(w:World)(ao:Option Addr)(n:Nat)(L:List α):Prop:=L.length=n/\n<=281474976710656/\(n=0 \/ ∃B o,ao=some ⟨B,o,none⟩/\∀i,i<n->∀j u,(K.f (L.getD i K.d))[j]?=some u->w.cell? ⟨B,o+i*K.k+j,none⟩=some u)
def OwG(e:TypeId)(w:World)(B:Nat)(v:Value)(L:List α):Prop:=w.ownsRow B e K.k v L.length (K.row L)
variable {α:Type} {K:Kd α} {e:TypeId} {L:List α} {w w':World}
theorem RdG.nil(w:World)(ao:Option Addr):RdG K w ao 0 []:=⟨rfl,by omega,.inl rfl⟩
theorem RdG.sT{ao:Option Addr}{n:Nat}(h:RdG K w ao n L)(hs:Yc w w'):RdG K w' ao n L:=by
 refine⟨h.1,h.2.1,?_⟩;rcases h.2.2 with h0|⟨B,o,e,hc⟩
 ·exact .inl h0
 ·exact .inr ⟨B,o,e,fun i hi j u hu=>(hs.cell (World.block_lt_of_cell? w _ (hc i hi j u hu)) (fun e=>e)).trans (hc i hi j u hu)⟩
theorem RdG.at{ao:Option Addr}{n:Nat}(h:RdG K w ao n L)(hn:0<n):∃B o,ao=some ⟨B,o,none⟩:=by
 rcases h.2.2 with h0|⟨B,o,e,_⟩
 ·omega
 ·exact⟨B,o,e⟩
theorem RdG.get{B o n:Nat}(h:RdG K w (some ⟨B,o,none⟩) n L){i:Nat}(hi:i<n):∀j u,(K.f (L.getD i K.d))[j]?=some u->w.cell? ⟨B,o+i*K.k+j,none⟩=some u:=by
 rcases h.2.2 with h0|⟨B',o',e,hc⟩
 ·omega
 ·cases e;exact hc i hi
theorem OwG.nil(w:World)(B:Nat):OwG K e w B (.slice none 0 0) []:=World.ownsRow_nil w B _ K.k
theorem OwG.keep{F:Nat->Prop}{B:Nat}{v:Value}(h:OwG K e w B v L)(hf:Fr F w w')(hF:∀k,F k->v.ownBlock≠some k):OwG K e w' B v L:=by
 refine⟨h.1,?_⟩;rcases h.2 with hn|⟨g,cap,cur,rfl,hb,hg,rest⟩
 ·exact .inl hn
 ·exact .inr ⟨g,cap,cur,rfl,hb,hf.kept hg (fun h=>hF g h rfl),rest⟩
theorem OwG.sT{B:Nat}{v:Value}(h:OwG K e w B v L)(hf:Yc w w'):OwG K e w' B v L:=h.keep hf (fun _ e=>e.elim)
theorem OwG.less{B B':Nat}{v:Value}(h:OwG K e w B v L)(hb:B' <= B):OwG K e w B' v L:=by
 refine⟨h.1,?_⟩;rcases h.2 with hn|⟨g,cap,cur,rfl,hg,rest⟩
 ·exact .inl hn
 ·exact .inr ⟨g,cap,cur,rfl,by omega,rest⟩
theorem OwG.slice{B:Nat}{v:Value}(h:OwG K e w B v L):∃ao cap,v=.slice ao L.length cap/\(ao=none \/ ∃g,ao=some ⟨g,0,none⟩/\B<=g/\g<w.heap.size):=by
 rcases h.2 with⟨rfl,hn⟩|⟨g,cap,cur,rfl,hb,hg,rest⟩
 ·exact⟨none,0,by rw[hn],.inl rfl⟩
 ·exact⟨_,cap,rfl,.inr ⟨g,rfl,hb,Yz hg⟩⟩
theorem OwG.block{B k:Nat}{v:Value}(h:OwG K e w B v L)(hk:v.ownBlock=some k):B<=k/\k<w.heap.size:=h.lt k hk
theorem OwG.head{B:Nat}{v:Value}(h:OwG K e w B v L)(hn:0<L.length):∃g cap,v=.slice (some ⟨g,0,none⟩) L.length cap/\B<=g/\g<w.heap.size:=by
 rcases h.2 with⟨rfl,h0⟩|⟨g,cap,cur,rfl,hb,hg,rest⟩
 ·omega
 ·exact⟨g,cap,rfl,hb,Yz hg⟩
theorem OwG.frozen{B g n cap:Nat}(h:OwG K e w B (.slice (some ⟨g,0,none⟩) n cap) L)(o:Nat):w.frozen? ⟨g,o,none⟩=false:=by
 rcases h.2 with⟨hv,_⟩|⟨g',cap',cur,hv,hb,hg,rest⟩
 ·cases hv
 ·cases hv;exact frozen_of_row w g o _ _ hg
theorem OwG.get{B g n cap:Nat}(h:OwG K e w B (.slice (some ⟨g,0,none⟩) n cap) L){i:Nat}(hi:i<L.length):∀j u,(K.f (L.getD i K.d))[j]?=some u->w.cell? ⟨g,i*K.k+j,none⟩=some u:=by
 intro j u hu;have hj:j<K.k:=by
  have:=(List.getElem?_eq_some_iff.1 hu).1;rwa [K.len]at this
 have:=World.ownsRow.cells h (g:=g) rfl (i*K.k+j) u (by rw[K.row_get L i j hi hj];exact hu);rwa [add_plain,Nat.zero_add]at this
theorem OwG.rd{B:Nat}{ao:Option Addr}{n cap:Nat}{M:List α}(h:OwG K e w B (.slice ao n cap) (L ++ M))(hm:L.length<=281474976710656):RdG K w ao L.length L:=by
 refine⟨rfl,hm,?_⟩;by_cases h0:L.length=0
 ·exact .inl h0
 right
 obtain⟨ao',cap',e',hao⟩:=h.slice;cases e';rcases hao with rfl|⟨g,rfl,_,_⟩
 ·rcases h.2 with⟨_,hn⟩|⟨g',cap',cur,hv,_⟩
  ·rw[List.length_append]at hn;omega
  ·cases hv
 ·refine⟨g,0,rfl,fun i hi j u hu=>?_⟩;have e1:(L ++ M).getD i K.d=L.getD i K.d:=by simp[List.getD,List.getElem?_append_left hi]
  have:=h.get (i:=i) (by rw[List.length_append];omega) j u (by rw[e1];exact hu);rwa [Nat.zero_add]
theorem Nl(g:Nat)(t:TypeId):∀(vs:List Value) (o:Nat) (cur:Array Value) (w:World),w.heap[g]?=some (.cells cur t (0,0))->o+vs.length<=cur.size ->
  (w.setCells g o vs).heap[g]?=some (.cells (cur.toList.take o ++ vs ++ cur.toList.drop (o+vs.length)).toArray t (0,0))
 | [],o,cur,w,hg,_=>by simpa[World.setCells]using hg
 | v :: r,o,cur,w,hg,hl=>by
  have ih:=Nl g t r (o+1) (cur.setIfInBounds o v) (w.setCell ⟨g,o,none⟩ v) (heap_setCell_same w g o cur t v hg) (by simp at hl⊢;omega);simp only[World.setCells];rw[ih];have e:=list_seg_step cur.toList o v r (by simp at hl⊢;omega);rw[Array.toList_setIfInBounds,show o+(v :: r).length=o+(r.length+1) by simp];rw[show o+1+r.length=o+1+r.length from rfl];simp only[e]
theorem M7{β:Type}(c vs:List β)(p k N:Nat)(hv:vs.length=k)(hp:p+k<=N)(hN:N<=c.length):(c.take p ++ vs ++ c.drop (p+k)).take N=(c.take N).take p ++ (vs ++ (c.take N).drop (p+k)):=by
 rw[List.take_take,Nat.min_eq_left (by omega),List.drop_take,List.append_assoc,List.take_append,List.take_append];rw[List.take_of_length_le (show(c.take p).length<=N by simp;omega),List.take_of_length_le (show vs.length<=N-(c.take p).length by simp;omega)];rw[List.length_take,hv,show N-min p c.length-k=N-(p+k) by omega]
theorem OwG.put{B g n cap:Nat}(h:OwG K e w B (.slice (some ⟨g,0,none⟩) n cap) L){i:Nat}(hi:i<L.length)(x:α):OwG K e (w.setCells g (i*K.k) (K.f x)) B (.slice (some ⟨g,0,none⟩) n cap) (L.set i x):=by
 rcases h.2 with⟨hv,_⟩|⟨g',cap',cur,hv,hb,hg,hn,hm,hs,ht⟩
 ·cases hv
 ·cases hv;have hi2:i*K.k+K.k<=L.length*K.k:=by rw[<- Nat.succ_mul];exact Nat.mul_le_mul_right _ hi
  have hc2:L.length*K.k<=cap*K.k:=Nat.mul_le_mul_right _ hn;have h1:=Nl g e (K.f x) (i*K.k) cur w hg (by rw[K.len,hs];omega);refine⟨by rw[K.row_len,List.length_set],.inr ⟨g,cap,_,by rw[List.length_set],hb,h1,by rw[List.length_set];exact hn,hm,?_,?_⟩⟩
  ·simp only[List.size_toArray,List.length_append,List.length_take,List.length_drop,Array.length_toList,K.len,hs];omega
  ·rw[List.length_set,<- K.row_set L i hi x,<- ht];rw[K.len];exact M7 cur.toList (K.f x) (i*K.k) K.k (L.length*K.k) (K.len x) hi2 (by rw[show cur.toList.length=cur.size from rfl,hs];exact hc2)
theorem M8{P:Program}(K:Kd α)(w:World){ops:Array Oper}{rest:List Oper}{o:Oper}{a:Act}{Q:Exit->Act->World->Prop}(hgd:o.guard=none)(s x:Operand)(t:TypeId)
  (hop:o.op=.call { callee:=.builtin .append,args:=#[s,x],argTypes:=#[t,t] })
  (hu:P.underlying t=some (.slice e)) (bytes:Nat) (hinfo:∃i,P.info? e=some i/\i.zero=some (.agg (K.f K.d).toArray)/\i.size=K.k/\i.bytes=bytes) (hb:bytes<=1000000)
  (B g:Nat) (v:Value) (L:List α) (p:α) (hs:a.eval s=v) (hx:a.eval x=.slice (some ⟨g,0,none⟩) 1 1) (ho:OwG K e w B v L) (hr:w.heap[g]?=some (.cells (K.f p).toArray e (0,0))) (h47:L.length<=100000) (hB:B<=w.heap.size)
  (h:∀v' w',OwG K e w' B v' (L ++ [p])->Fr (fun k=>v.ownBlock=some k) w w'->wpList P ops Q rest (a.put o.dst v') w'):wpList P ops Q (o :: rest) a w:=by
 obtain⟨i,hi,hz,h1,h2⟩:=hinfo;refine wpList_append_own (P:=P) w hgd s x t hop B e i (.agg (K.f K.d).toArray) K.k bytes hu hi hz h1 h2 (by simp[Value.cells,K.len]) K.pos v L.length (K.row L) hs ho ⟨g,0,none⟩ 1 1 (K.f p) hx (by rw[K.len,Nat.one_mul]) ?_ (K.one p) (by unfold maxLen;omega) ?_ hB ?_
 ·intro j u hj;rw[add_plain,Nat.zero_add,cell_of_row _ _ _ _ _ _ hr];simpa using hj
 ·have:(L.length+1)*bytes<=100001*1000000:=Nat.mul_le_mul (by omega) hb;omega
 ·intro v' w' hown hgr _;refine h v' w' ?_ ⟨hgr.os,hgr.tape,hgr.output,hgr.size,fun k hk hn=>hgr.block k hk (fun e=>hn e.symm)⟩;unfold OwG;rw[K.row_app,List.length_append,show K.row [p]=K.f p by simp[Kd.row]];exact hown
theorem ZA{P:Program}(K:Kd α)(w:World){ops:Array Oper}{rest:List Oper}{o:Oper}{a:Act}{Q:Exit->Act->World->Prop}(hgd:o.guard=none)(s x:Operand)(t:TypeId)
  (hop:o.op=.call { callee:=.builtin .append,args:=#[s,x],argTypes:=#[t,t] })
  (hu:P.underlying t=some (.slice e)) (bytes:Nat) (hinfo:∃i,P.info? e=some i/\i.zero=some (.agg (K.f K.d).toArray)/\i.size=K.k/\i.bytes=bytes)
  (B g:Nat) (v:Value) (L:List α) (p:α) (hs:a.eval s=v) (hx:a.eval x=.slice (some ⟨g,0,none⟩) 1 1) (ho:OwG K e w B v L) (hr:w.heap[g]?=some (.cells (K.f p).toArray e (0,0))) (h47:(L.length+1)*bytes<=140737488355328) (h63:L.length<=281474976710656) (hB:B<=w.heap.size)
  (h:∀v' w',OwG K e w' B v' (L ++ [p])->Fr (fun k=>v.ownBlock=some k) w w'->wpList P ops Q rest (a.put o.dst v') w'):wpList P ops Q (o :: rest) a w:=by
 obtain⟨i,hi,hz,h1,h2⟩:=hinfo;refine wpList_append_own (P:=P) w hgd s x t hop B e i (.agg (K.f K.d).toArray) K.k bytes hu hi hz h1 h2 (by simp[Value.cells,K.len]) K.pos v L.length (K.row L) hs ho ⟨g,0,none⟩ 1 1 (K.f p) hx (by rw[K.len,Nat.one_mul]) ?_ (K.one p) (by unfold maxLen;omega) ?_ hB ?_
 ·intro j u hj;rw[add_plain,Nat.zero_add,cell_of_row _ _ _ _ _ _ hr];simpa using hj
 ·exact h47
 ·intro v' w' hown hgr _;refine h v' w' ?_ ⟨hgr.os,hgr.tape,hgr.output,hgr.size,fun k hk hn=>hgr.block k hk (fun e=>hn e.symm)⟩;unfold OwG;rw[K.row_app,List.length_append,show K.row [p]=K.f p by simp[Kd.row]];exact hown
theorem XO{w0:World}{B:Nat}{v:Value}(hs:Yc w0 w)(ho:OwG K e w B v L)(hf:Fr (fun k=>v.ownBlock=some k) w w')(hB:w0.heap.size<=B):Yc w0 w':=
 Fr.trans hs hf (fun k hk e=>by have:=(ho.block e).1;omega)
theorem RdG.cellsAt{a:Addr}{n:Nat}(h:RdG K w (some a) n L):∀j u,(K.row L)[j]?=some u->w.cell? (a.add j)=some u:=by
 intro j u hj;have hjl:=(List.getElem?_eq_some_iff.1 hj).1;rw[K.row_len,h.1]at hjl;have hp:=K.pos;have hn:0<n:=Nat.pos_of_ne_zero (fun h0=>by rw[h0,Nat.zero_mul]at hjl;omega);obtain⟨B,o,e⟩:=h.at hn;cases e;have hi:j / K.k<n:=(Nat.div_lt_iff_lt_mul hp).2 hjl;have hm:=Nat.mod_lt j hp;have ej:j / K.k*K.k+j % K.k=j:=by rw[Nat.mul_comm];exact Nat.div_add_mod j K.k
 have hg:=K.row_get L (j / K.k) (j % K.k) (by rw[h.1];exact hi) hm;rw[ej,hj]at hg;have:=h.get hi (j % K.k) u hg.symm;rw[Nat.add_assoc,ej]at this;rw[add_plain];exact this
theorem M9{P:Program}(K:Kd α){t:TypeId}(hu:P.underlying t=some (.slice e))(bytes:Nat)(hinfo:∃i,P.info? e=some i/\i.zero=some (.agg (K.f K.d).toArray)/\i.size=K.k/\i.bytes=bytes)(n:Nat)(hb:bytes*n<=281474976710656)(hn:n<=281474976710656) :
  (∀W:World,(Instr.makeSlice t (.int .i64 (n:Int)) (.int .i64 (n:Int))).run P W=.ok (.slice (some ⟨W.heap.size,0,none⟩) n n) (W.alloc (.cells (madeCells (K.f K.d).toArray (n*K.k)) e))) /\
  ∀W:World,OwG K e (W.alloc (.cells (madeCells (K.f K.d).toArray (n*K.k)) e)) W.heap.size (.slice (some ⟨W.heap.size,0,none⟩) n n) (List.replicate n K.d):=by
 obtain⟨i,hi,hz,h1,h2⟩:=hinfo;refine⟨fun W=>?_,fun W=>?_⟩
 ·have hb':(i.bytes:Int)*(n:Int)<=281474976710656:=by
   rw[h2];have h:((bytes*n:Nat):Int)<=281474976710656:=by omega
   rwa [Int.natCast_mul]at h
  have:=run_make (P:=P) W t e i (.agg (K.f K.d).toArray) hu hi hz .i64 .i64 (n:Int) (n:Int) (by omega) (Int.le_refl _) hb' (by omega);rw[Int.toNat_natCast,h1]at this;exact this
 ·have:=World.ownsRow_lit (base:=W.heap.size) (e:=e) (size:=K.k) W (madeCells (K.f K.d).toArray (n*K.k)) n (Nat.le_refl _) (by unfold maxLen;omega) (size_madeCells _ _);rw[K.made]at this;unfold OwG;rw[List.length_replicate];exact this
theorem Dh{F:Nat->Prop}{a:World}(g:Nat):∀(vs:List Value) (o:Nat) (w:World),Fr F a w->(F g\/a.heap.size<=g)->Fr F a (w.setCells g o vs)
 | [],_,_,h,_=>h
 | _ :: r,o,_,h,hg=>Dh g r (o+1) _ (h.setCell _ _ hg) hg
end
def Tyk(w:World)(k:Nat)(t:TypeId):Prop:=∃cur,w.heap[k]?=some (.cells cur t (0,0))
def Fty(B:Nat)(ts:List TypeId)(w:World):Nat->Prop:=fun k=>B<=k/\∃t,t∈ts/\Tyk w k t
def FrT(B:Nat)(ts:List TypeId)(w w':World):Prop:=Fr (Fty B ts w) w w'
theorem FrT.refl(B:Nat)(ts:List TypeId)(w:World):FrT B ts w w:=Fr.refl _ w
theorem FrT.of_still{B:Nat}{ts:List TypeId}{w w':World}(h:Yc w w'):FrT B ts w w':=h.to
theorem FrT.trans{B:Nat}{ts:List TypeId}{a b c:World}(h:FrT B ts a b)(k:FrT B ts b c):FrT B ts a c:=by
 refine Fr.trans h k (fun i hi hG=>?_);refine Classical.byContradiction fun hn=>?_;obtain⟨h1,t,h2,cur,h3⟩:=hG;rw[h.block i hi hn]at h3;exact hn ⟨h1,t,h2,cur,h3⟩
theorem FrT.mono{B:Nat}{ts us:List TypeId}{a b:World}(h:FrT B ts a b)(hs:∀t∈ts,t∈us):FrT B us a b:=
 Fr.mono h fun _ _ ⟨h1,t,h2,h3⟩=>⟨h1,t,hs t h2,h3⟩
theorem FrT.then{B:Nat}{ts:List TypeId}{a b c:World}(h:FrT B ts a b)(k:Yc b c):FrT B ts a c:=h.trans (.of_still k)
theorem FrT.set{B:Nat}{ts:List TypeId}{a b:World}(h:FrT B ts a b){g o:Nat}{t:TypeId}(hg:Tyk b g t)(ht:t∈ts)(hB:B<=g)(v:Value):FrT B ts a (b.setCell ⟨g,o,none⟩ v):=
 h.trans ((Fr.refl _ b).setCell _ _ (.inl ⟨hB,t,ht,hg⟩))
theorem Tyk.set{w:World}{g k o:Nat}{t:TypeId}(h:Tyk w g t)(v:Value):Tyk (w.setCell ⟨k,o,none⟩ v) g t:=by
 obtain⟨cur,h⟩:=h;by_cases e:g=k
 ·subst e;exact⟨_,heap_setCell_same w g o cur t v h⟩
 ·exact⟨cur,by rw[heap_setCell_other _ _ _ _ e];exact h⟩
theorem FrT.old{B:Nat}{ts:List TypeId}{x w w':World}(h:FrT B ts w w')(hs:Yc x w)(hB:x.heap.size<=B):Yc x w':=
 Fr.trans hs h (fun k hk e=>by have:=e.1;omega)
theorem FrT.kept{B:Nat}{ts:List TypeId}{w w':World}(h:FrT B ts w w'){k:Nat}{cur:Array Value}{t:TypeId}(hk:w.heap[k]?=some (.cells cur t (0,0)))(ht:t ∉ ts):w'.heap[k]?=some (.cells cur t (0,0)):=by
 refine Fr.kept h hk (fun⟨_,t',h2,cur',h3⟩=>ht ?_);rw[hk]at h3;have h4:=Option.some.inj h3;injection h4 with _ h5 _;rw[h5];exact h2
section
variable {α:Type} {K:Kd α} {e:TypeId} {w w':World} {L:List α}
theorem OwG.ty{B k:Nat}{v:Value}(h:OwG K e w B v L)(hk:v.ownBlock=some k):Tyk w k e:=by
 rcases h.2 with⟨rfl,_⟩|⟨g,cap,cur,rfl,hb,hg,rest⟩
 ·cases hk
 ·have:g=k:=by simpa[Value.ownBlock]using hk
  subst this;exact⟨cur,hg⟩
theorem OwG.keepT{B B':Nat}{v:Value}{ts:List TypeId}(h:OwG K e w B' v L)(hf:FrT B ts w w')(ht:e ∉ ts):OwG K e w' B' v L:=by
 refine h.keep hf (fun k ⟨_,t,h2,cur,h3⟩ hk=>?_);obtain⟨cur',h4⟩:=h.ty hk;rw[h4]at h3;have h5:=Option.some.inj h3;injection h5 with _ h6 _;exact ht (h6 ▸ h2)
theorem OwG.keepB{B':Nat}{v:Value}(h:OwG K e w B' v L){F:Nat->Prop}(hf:Fr F w w')(hB:∀k,F k->k<B'):OwG K e w' B' v L:=
 h.keep hf (fun k hk hx=>by have:=(h.block hx).1;have:=hB k hk;omega)
theorem OwG.frT{B B':Nat}{v:Value}{ts:List TypeId}(h:OwG K e w B' v L)(hf:Fr (fun k=>v.ownBlock=some k) w w')(hB:B<=B')(ht:e∈ts):FrT B ts w w':=
 Fr.mono hf fun _ _ hk=>⟨Nat.le_trans hB (h.block hk).1,e,ht,h.ty hk⟩
theorem OwG.setT{B:Nat}{g n cap:Nat}{ts:List TypeId}(h:OwG K e w B (.slice (some ⟨g,0,none⟩) n cap) L)(ht:e∈ts):∀(vs:List Value) (o:Nat) (u:World),FrT B ts w u->Tyk u g e->FrT B ts w (u.setCells g o vs)
 | [],_,_,hu,_=>hu
 | v :: r,o,u,hu,hg=>OwG.setT h ht r (o+1) (u.setCell ⟨g,o,none⟩ v) (hu.set hg ht (h.block (k:=g) rfl).1 v) (hg.set v)
end
def FS(z:Nat)(a b:World):Prop:=Fr (fun i=>i=z) a b/\a.heap.size=b.heap.size
variable {z:Nat} {a b w:World}
theorem FS.at(h:z=w.heap.size)(o o':Obj):FS z (w.alloc o) (w.alloc o'):=by
 refine⟨⟨rfl,rfl,rfl,by simp,fun k hk hn=>?_⟩,by simp⟩;have hlt:k<w.heap.size:=by
  have:k<w.heap.size+1:=by simpa using hk
  omega
 rw[Xh w o' k hlt,Xh w o k hlt]
theorem FS.alloc(h:FS z a b)(o:Obj):FS z (a.alloc o) (b.alloc o):=by
 obtain⟨⟨h1,h2,h3,h4,h5⟩,h6⟩:=h;refine⟨⟨h1,h2,h3,by simp;omega,fun k hk hn=>?_⟩,by simp[h6]⟩;by_cases hlt:k<a.heap.size
 ·rw[Xh b o k (by omega),Xh a o k hlt];exact h5 k hlt hn
 ·have:k<a.heap.size+1:=by simpa using hk
  rw[XU b o k (by omega),XU a o k (by omega)]
theorem FS.more(h:FS z a b)(J:Array Obj)(n:Nat):FS z (more a J n) (more b J n):=by
 obtain⟨⟨h1,h2,h3,h4,h5⟩,h6⟩:=h;refine⟨⟨h1,h2,h3,by rw[X0,X0];omega,fun k hk hn=>?_⟩,by rw[X0,X0,h6]⟩;by_cases hlt:k<a.heap.size
 ·rw[VR k (by omega),VR k hlt];exact h5 k hlt hn
 ·unfold Go.Proofs.YtcgmohldcokccaaGreatDoor.more;show(b.heap ++ J)[k]?=(a.heap ++ J)[k]?;rw[Array.getElem?_append_right (by omega),Array.getElem?_append_right (by omega),h6]
theorem FS.drew(h:FS z a b):FS z a.drew b.drew:=⟨⟨h.1.os,h.1.tape,h.1.output,h.1.size,h.1.block⟩,h.2⟩
theorem zfs{p:Prop}(h:p:=by(repeat(first|with_reducible refine FS.more ?_ _ _|with_reducible refine FS.drew ?_|(with_reducible refine FS.at ?_ _ _;simp only[World.size_alloc,World.size_drew,zr];done)|with_reducible refine FS.alloc ?_ _))):p:=h
theorem zsz{p:Prop}(h:p:=by((try simp only[World.size_alloc,World.size_drew,zr])<;>omega)):p:=h
theorem OwG.to{α:Type}{K:Kd α}{e:TypeId}{B B':Nat}{v:Value}{L:List α}(h:OwG K e a B v L)(hf:FS z a b)(hz:z<B)(hB:B' <= B):OwG K e b B' v L:=
 (h.keep hf.1 (fun k hk e=>by subst hk;have:=(h.block e).1;omega)).less hB
end
end Go.Proofs.YtcgmohldcokccaaGreatDoor
