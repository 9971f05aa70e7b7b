import Derived.Lib.SlBytesRow
import Derived.StillTail
import Derived.Deep.QuietTactic
import Derived.BigQuiet
import Derived.Test.YtcgmohldcokccaaGreatDoorXR00
import Derived.Deep.RegionWith
import Derived.BigRegion
import Derived.Laws.ResultCell
import Derived.KernelRfl
import Derived.Laws.StructEq
set_option linter.unusedVariables false
set_option maxRecDepth 100000
namespace Go.Proofs.YtcgmohldcokccaaGreatDoor
open Go.RowKit
theorem hid{p:Prop}(h:p):Hid p:=h
structure Fr (F:Nat->Prop) (w w':World):Prop where
 os:w'.os=w.os
 tape:w'.tape=w.tape
 output:w'.output=w.output
 size:w.heap.size<=w'.heap.size
 block:∀k,k<w.heap.size->¬F k->w'.heap[k]?=w.heap[k]?
theorem Fr.refl(F:Nat->Prop)(w:World):Fr F w w:=⟨rfl,rfl,rfl,Nat.le_refl _,fun _ _ _=>rfl⟩
theorem Fr.mono{F G:Nat->Prop}{w w':World}(h:Fr F w w')(hG:∀k,k<w.heap.size->F k->G k):Fr G w w':=
 ⟨h.os,h.tape,h.output,h.size,fun k hk hn=>h.block k hk fun hf=>hn (hG k hk hf)⟩
theorem Fr.trans{F G:Nat->Prop}{a b c:World}(h:Fr F a b)(k:Fr G b c)(hG:∀k,k<a.heap.size->G k->F k):Fr F a c:=
 ⟨k.os.trans h.os,k.tape.trans h.tape,k.output.trans h.output,Nat.le_trans h.size k.size,
  fun i hi hn=>(k.block i (Nat.lt_of_lt_of_le hi h.size) fun hg=>hn (hG i hi hg)).trans (h.block i hi hn)⟩
theorem Fr.drew{F:Nat->Prop}{a w:World}(h:Fr F a w):Fr F a w.drew:=⟨h.os,h.tape,h.output,h.size,h.block⟩
theorem Fr.drewN{F:Nat->Prop}{a w:World}(h:Fr F a w)(n:Nat):Fr F a (w.drewN n):=
 ⟨h.os,h.tape,h.output,h.size,h.block⟩
theorem Fr.alloc{F:Nat->Prop}{a w:World}(h:Fr F a w)(o:Obj):Fr F a (w.alloc o):=
 ⟨h.os,h.tape,h.output,by have:=h.size;simp;omega,fun k hk hn=>(Below.heap_alloc _ _ _ (Nat.lt_of_lt_of_le hk h.size)).trans (h.block k hk hn)⟩
theorem Fr.setCell{F:Nat->Prop}{a w:World}(h:Fr F a w)(p:Addr)(u:Value)(hp:F p.block\/a.heap.size<=p.block):Fr F a (w.setCell p u):=
 ⟨h.os,h.tape,h.output,by have:=h.size;simpa[World.setCell]using this,fun k hk hn=>by
  rw[Below.heap_setCell _ _ _ _ (fun e=>by subst e;rcases hp with hp|hp;exact hn hp;omega)];exact h.block k hk hn⟩
theorem Fr.setRow{F:Nat->Prop}{a w:World}(h:Fr F a w)(g:Nat)(cs:Array Value)(hp:F g\/a.heap.size<=g):Fr F a (w.setRow g cs):=
 ⟨h.os,h.tape,h.output,by have:=h.size;simpa using this,fun k hk hn=>by
  rw[setRow_other w g k cs (fun e=>by subst e;rcases hp with hp|hp;exact hn hp;omega)];exact h.block k hk hn⟩
theorem Fr.below{F:Nat->Prop}{B:Nat}{W w':World}(h:Fr F W w')(hF:∀k,F k->B<=k)(hB:B<=W.heap.size):Below B W w':=
 ⟨h.os,h.tape,h.output,h.size,fun k hk=>h.block k (by omega) fun hf=>by have:=hF k hf;omega⟩
theorem Fr.cell{F:Nat->Prop}{w w':World}(h:Fr F w w'){p:Addr}(hp:p.block<w.heap.size)(hn:¬F p.block):w'.cell? p=w.cell? p:=
 World.cell?_of_block (w:=w) (h.block p.block hp hn)
theorem Fr.frozen{F:Nat->Prop}{w w':World}(h:Fr F w w'){p:Addr}(hp:p.block<w.heap.size)(hn:¬F p.block):w'.frozen? p=w.frozen? p:=
 World.frozen?_of_block (w:=w) (h.block p.block hp hn)
theorem Fr.kept{F:Nat->Prop}{w w':World}(h:Fr F w w'){k:Nat}{o:Obj}(hk:w.heap[k]?=some o)(hn:¬F k):w'.heap[k]?=some o:=
 (h.block k (Array.getElem?_eq_some_iff.1 hk).1 hn).trans hk
abbrev Yc(w w':World):Prop:=Fr (fun _=>False) w w'
theorem Fr.kept_still{w w':World}(h:Yc w w'){k:Nat}{o:Obj}(hk:w.heap[k]?=some o):w'.heap[k]?=some o:=h.kept hk (fun e=>e)
theorem Yz{w:World}{k:Nat}{o:Obj}(hk:w.heap[k]?=some o):k<w.heap.size:=(Array.getElem?_eq_some_iff.1 hk).1
theorem Yc.to{F:Nat->Prop}{w w':World}(h:Yc w w'):Fr F w w':=h.mono fun _ _ e=>e.elim
theorem Yc.below{w w':World}(h:Yc w w'):Below w.heap.size w w':=Fr.below h (fun _ e=>e.elim) (Nat.le_refl _)
theorem Yc.undrew{w w':World}(h:Yc w.drew w'):Yc w w':=⟨h.os,h.tape,h.output,h.size,h.block⟩
theorem Yc.trans{a b c:World}(h:Yc a b)(k:Yc b c):Yc a c:=Fr.trans h k fun _ _ e=>e
theorem Yc.alloc(w:World)(o:Obj):Yc w (w.alloc o):=(Fr.refl _ w).alloc o
theorem sA(w:World)(o:Obj):Yc w (w.alloc o):=Yc.alloc w o
abbrev Ya(f:FuncId)(a:Array Value)(w:World)(v:Value):Prop:=Calls Tryz.prog f a w fun e w'=>e=.returned v/\Yc w w'
abbrev Yb(f:FuncId)(a:Array Value)(w:World)(v:Value):Prop:=Calls Tryz.prog f a w fun e w'=>e=.returned v/\w'=w
end Go.Proofs.YtcgmohldcokccaaGreatDoor
namespace Go.RowKit
theorem Hid.o{p:Prop}(h:Hid p):p:=h.out
end Go.RowKit
namespace Go.Proofs.YtcgmohldcokccaaGreatDoor
def QY(ao:Option Addr)(cap i:Nat):Option Addr:=if cap=i then ao else ao.map (·.add (i*1))
theorem add_plain(b o j:Nat):(⟨b,o,none⟩:Addr).add j=⟨b,o+j,none⟩:=by unfold Addr.add;split<;>simp_all
theorem Aq(ao:Option Addr)(cap:Nat):QY ao cap 0=ao:=by
 unfold QY;split
 ·rfl
 ·cases ao with
  | none=>rfl
  | some a=>simp[Addr.add]
section
variable {P:Program}
variable {P:Program}
end
end Go.Proofs.YtcgmohldcokccaaGreatDoor
namespace Go.Proofs.YtcgmohldcokccaaGreatDoor
open Go
def cnt(L:Array Bool):Nat->Nat
 | 0=>0
 | k+1=>cnt L k+(if L.getD k true then 0 else 1)
theorem Wt{L:Array Bool}{j:Nat}:∀{n:Nat},n<=j->cnt (L.setIfInBounds j true) n=cnt L n
 | 0,_=>rfl
 | n+1,h=>by
  unfold cnt;rw[Wt (by omega),getD_set_ne true (by omega)]
theorem Jp{L:Array Bool}{j:Nat}(hu:L.getD j true=false):∀{n:Nat},j<n->cnt (L.setIfInBounds j true) n+1=cnt L n
 | 0,h=>by omega
 | n+1,h=>by
  unfold cnt;by_cases hj:j=n
  ·subst hj;have hlt:j<L.size:=by
    rcases Nat.lt_or_ge j L.size with h'|h'
    ·exact h'
    ·simp[Array.getElem?_eq_none h']at hu
   rw[Wt (Nat.le_refl _),hu];simp[hlt]
  ·rw[getD_set_ne true hj];have:=Jp hu (n:=n) (by omega);omega
theorem VM{L:Array Bool}:∀{n:Nat},cnt L n=0->∀i,i<n->L.getD i true=true
 | 0,_,i,h=>by omega
 | n+1,hc,i,h=>by
  unfold cnt at hc;by_cases hi:i=n
  ·subst hi;cases hb:L.getD i true with
   | true=>rfl
   | false=>rw[hb]at hc;simp at hc
  ·exact VM (n:=n) (by omega) i (by omega)
theorem Jq{L:Array Bool}:∀{n:Nat},cnt L n≠0->∃i,i<n/\L.getD i true=false/\∀k,k<i->L.getD k true=true
 | 0,h=>by simp[cnt]at h
 | n+1,hc=>by
  by_cases h0:cnt L n=0
  ·refine⟨n,by omega,?_,VM h0⟩;unfold cnt at hc;cases hb:L.getD n true with
   | true=>rw[hb,h0]at hc;simp at hc
   | false=>rfl
  ·obtain⟨i,hi,h1,h2⟩:=Jq h0;exact⟨i,by omega,h1,h2⟩
theorem Jr{N:Nat}:∀{n:Nat},n<=N->cnt (Array.replicate N false) n=n
 | 0,_=>rfl
 | n+1,h=>by
  unfold cnt;rw[Jr (by omega)];simp[show n<N by omega]
def U1(ops:Array Oper)(n:Nat):Bool:=
 (List.range n).all fun i=>match ops[i]? with
  | some o=>(o.after.all fun e=>decide (e.on<i)) && (match o.guard with|none=>true|some (j,_)=>decide (j<n))
  | none=>false
theorem Ku{ops:Array Oper}{n i:Nat}{o:Oper}(h:U1 ops n=true)(hi:i<n)(ho:ops[i]?=some o) :
  (∀e∈o.after,e.on<i)/\∀j b,o.guard=some (j,b)->j<n:=by
 have h1:=List.all_eq_true.1 h i (List.mem_range.2 hi);simp only[ho,Bool.and_eq_true]at h1;refine⟨fun e he=>by simpa using(Array.all_eq_true'.1 h1.1) e he,fun j b hg=>?_⟩;have h2:=h1.2;rw[hg]at h2;simpa using h2
section
variable {P:Program} {C:World->Prop}
theorem QZ{l:List Oper}{n j:Nat}(hj:j<n):(l.take n).toArray[j]?=l.toArray[j]?:=by simp[hj]
theorem Ar{l:List Oper}{n:Nat}{o:Oper}{t:Array Value}(hg:∀j b,o.guard=some (j,b)->j<n) :
  Region.wanted o (yielded (l.take n).toArray t)=Region.wanted o (yielded l.toArray t):=by
 unfold Region.wanted;cases h:o.guard with
 | none=>rfl
 | some x =>
  obtain⟨j,b⟩:=x;have:yielded (l.take n).toArray t j=yielded l.toArray t j:=by unfold yielded;rw[QZ (hg j b h)]
  simp only[this]
theorem As{l:List Oper}{n j:Nat}(hlow:U1 l.toArray n=true)(hj:j<n){K:Act->Prop}{a:Act}(h:qOp P (l.take n).toArray C j K a):qOp P l.toArray C j K a:=by
 unfold qOp at h⊢;rw[QZ hj]at h;cases ho:l.toArray[j]? with
 | none=>simpa only[ho]using h
 | some o =>
  simp only[ho]at h⊢;rw[Ar (Ku hlow hj ho).2]at h;exact h
theorem Wu{l:List Oper}{n g:Nat}{Lq:Act->Prop}{Q':Exit->Act->World->Prop}(hlow:U1 l.toArray n=true)(hs:Region.sinkB .any l.toArray n=true)(hc:Region.chainB .any l.toArray n=true)(hn:n<l.length)
  (hdone:∀(L:Array Bool) a w,L.size=l.length->(∀i,i<n->L.getD i true=true)->(∀t,n<=t->t<l.length->L.getD t true=false)->C w->Lq a->wpAny P .any l.toArray Q' g L a w) :
  ∀(f:Nat) (lh L:Array Bool) (a:Act) (w:World),C w->(∀i b,i<n->L.getD i b=lh.getD i b)->HeadInv .any l.toArray n L->cnt L n=f ->
   wpAnyQ P .any (l.take n).toArray C Lq f lh a->wpAny P .any l.toArray Q' (f+g) L a w
 | 0,lh,L,a,w,hw,hag,inv,hcnt,h=>by
  rw[Nat.zero_add];exact hdone L a w (by simpa using inv.size) (VM hcnt) (fun t h1 h2=>inv.tail t h1 (by simpa using h2)) hw h.2
 | f+1,lh,L,a,w,hw,hag,inv,hcnt,h=>by
  rw[show f+1+g=(f+g)+1 by omega];obtain⟨i,hi,hun,hmin⟩:=Jq (L:=L) (n:=n) (by omega);have hsz:l.toArray.size=l.length:=by simp
  refine⟨fun h0=>?_,fun j hj=>?_⟩
  ·exfalso;have hio:∃o,l.toArray[i]?=some o:=⟨_,Array.getElem?_eq_getElem (by simp;omega)⟩;obtain⟨o,ho⟩:=hio;have:i∈Region.ready .any l.toArray L:=mem_ready.2 ⟨hun,o,ho,fun e he _=>by
    have hlt:=(Ku hlow hi ho).1 e he;have hin:e.on<L.size:=by rw[inv.size];simp;omega
    have:=hmin e.on hlt;simp[hin]at this⊢;exact this⟩
   rw[h0]at this;cases this
  ·have hjn:j<n:=by
    rcases Nat.lt_or_ge j n with h'|h'
    ·exact h'
    ·exact absurd hj (tail_waits hs hc (by rw[hsz];exact hn) inv _ i rfl hi hun j h')
   obtain⟨hju,o,ho,hall⟩:=mem_ready.1 hj;have hjh:j∈Region.ready .any (l.take n).toArray lh:=mem_ready.2 ⟨by rw[<- hag j true hjn];exact hju,o,by rw[QZ hjn];exact ho,fun e he hb=>by
    have hlt:=(Ku hlow hjn ho).1 e he;rw[<- hag e.on false (by omega)];exact hall e he hb⟩
   have hq:=As hlow hjn (h.2 j hjh);refine wpOp_of_qOp hw (fun a' w' hw' h'=>Wu hlow hs hc hn hdone f (lh.setIfInBounds j true) (L.setIfInBounds j true) a' w' hw' ?_ (inv.set hj hjn) ?_ h') hq
   ·intro k b hk;by_cases hjk:j=k
    ·subst hjk;have h1:j<L.size:=by rw[inv.size,hsz];omega
     have h2:j<lh.size:=by
      rcases Nat.lt_or_ge j lh.size with h'|h'
      ·exact h'
      ·have:=(mem_ready.1 hjh).1;simp[Array.getElem?_eq_none h']at this
     simp[h1,h2]
    ·rw[getD_set_ne b hjk,getD_set_ne b hjk];exact hag k b hk
   ·have:=Jp hju hjn;omega
def Kv(l:List Oper)(n:Nat):Bool:=
 U1 l.toArray n && Region.sinkB .any l.toArray n && Region.chainB .any l.toArray n && decide (n<l.length) && Region.lexB .any (l.take n).toArray &&
  Region.seqB .any l.toArray (l.length-n) n (List.replicate n true ++ List.replicate (l.length-n) false).toArray
theorem Wv{N n:Nat}{L:Array Bool}(hn:n<=N)(hsz:L.size=N)(h1:∀i,i<n->L.getD i true=true)(h2:∀t,n<=t->t<N->L.getD t true=false) :
  L=(List.replicate n true ++ List.replicate (N-n) false).toArray:=by
 apply Array.ext
 ·simp;omega
 ·intro i hi1 hi2;by_cases hi:i<n
  ·have:=h1 i hi;simp[hi1]at this;simp[hi,this]
  ·have:=h2 i (by omega) (by omega);simp[hi1]at this;simp[List.getElem_append,hi,this]
theorem Ww{id:Nat}{Q:Exit->Act->World->Prop}{a:Act}{w:World}{l:List Oper}(n:Nat)(hm:P.follows .mixedOrders=true)(hB:Kv l n=true)(hC:C { w with drawn:=w.drawn+1 })
  (h:wpQuiet P (l.take n).toArray C (fun a'=>∀w',C w'->wpList P l.toArray Q (l.drop n) a' w') (l.take n) a):(Code.region id l.toArray true).wp P Q a w:=by
 simp only[Kv,Bool.and_eq_true,decide_eq_true_eq]at hB;obtain⟨⟨⟨⟨⟨hlow,hs⟩,hc⟩,hn⟩,hlex⟩,hseq⟩:=hB;simp only[Region.lexB,Bool.and_eq_true]at hlex;have hlen:(l.take n).length=n:=by simp;omega
 have H:=wpAnyQ_lex (P:=P) (C:=C) (md:=.any) hlex.1 (l.take n) 0 (Array.replicate (l.take n).toArray.size false) a (by simp) (by simpa using hlex.2) h;have inv0:HeadInv .any l.toArray n (Array.replicate l.length false):=
  ⟨by simp,fun j oj _ hl=>(by rw[getD_replicate_false]at hl;cases hl),fun t _ ht=>getD_in (by simpa using ht) (getD_replicate_false _ _)⟩
 refine wp_region_any hm ?_;have key:=Wu (P:=P) (C:=C) (Q':=Q) (g:=l.length-n) hlow hs hc hn (Lq:=fun a'=>∀w',C w'->wpList P l.toArray Q (l.drop n) a' w') (fun L a' w' hsz h1 h2 hw' hq=>by
  have e:=Wv (by omega) hsz h1 h2;subst e;have:=wpAny_of_seq (P:=P) (md:=.any) (ops:=l.toArray) (Q':=Q) (l.drop n) n _ a' w' (fun j=>by simp[List.getElem?_drop]) (by simpa using hseq) (hq w' hw');simpa using this) n (Array.replicate n false) (Array.replicate l.length false) a _ hC (fun i b hi=>by
   simp[show i<l.length by omega,hi]) inv0 (Jr (by omega)) (by simp only[List.size_toArray,hlen]at H;exact H)
 have e:n+(l.length-n)=l.toArray.size:=by simp;omega
 rw[e]at key;simpa using key
end
structure Aft (w:World):Type where
 u:World
 s:Yc w u
theorem Aft.here(w:World):Nonempty (Aft w):=⟨⟨w,Fr.refl _ w⟩⟩
abbrev Cl(w:World):World->Prop:=fun w'=>∃z:Aft w,w'=z.u
theorem Cl.here(w:World):Cl w { w with drawn:=w.drawn+1 }:=⟨⟨w.drew,(Fr.refl _ w).drew⟩,rfl⟩
theorem Calls.cl{P:Program}{f:FuncId}{args:Array Value}{w:World}{z:Aft w}{v:Value}
  (h:Calls P f args z.u fun e w'=>e=.returned v/\Yc z.u w'):Calls P f args z.u fun e w''=>e=.returned v/\∃y:Aft w,w''=y.u:=
 h.mono fun _ w' ⟨he,hs⟩=>⟨he,⟨w',z.s.trans hs⟩,rfl⟩
theorem Calls.cl_same{P:Program}{f:FuncId}{args:Array Value}{w:World}{z:Aft w}{v:Value}
  (h:Calls P f args z.u fun e w'=>e=.returned v/\w'=z.u):Calls P f args z.u fun e w''=>e=.returned v/\∃y:Aft w,w''=y.u:=
 h.mono fun _ _ ⟨he,hs⟩=>⟨he,z,hs⟩
theorem tkd:(∀(α:Type) (n:Nat) (a:α) (l:List α),(a :: l).take (n+1)=a :: l.take n)/\(∀(α:Type) (l:List α),l.take 0=[])/\(∀(α:Type) (n:Nat) (a:α) (l:List α),(a :: l).drop (n+1)=l.drop n)/\∀(α:Type) (l:List α),l.drop 0=l:=⟨fun _ _ _ _=>rfl,fun _ _=>rfl,fun _ _ _ _=>rfl,fun _ _=>rfl⟩
theorem tkq:(∀(α:Type) (a:α) (k l:List α),a :: k ++ l=a :: (k ++ l))/\(∀(α:Type) (l:List α),[] ++ l=l)/\∀n:Nat,n*1=n:=⟨fun _ _ _ _=>rfl,fun _ _=>rfl,Nat.mul_one⟩
theorem tks:(∀(l:List Value) (i:Nat) (v:Value),l.toArray.setIfInBounds i v=(l.set i v).toArray)/\(∀(a:Value) (l:List Value) (i:Nat) (v:Value),(a :: l).set (i+1) v=a :: l.set i v)/\∀(a:Value) (l:List Value) (v:Value),(a :: l).set 0 v=v :: l:=⟨fun _ _ _=>List.setIfInBounds_toArray ..,fun _ _ _ _=>rfl,fun _ _ _=>rfl⟩
theorem Yk{P:Program}{id:Nat}{Q:Exit->Act->World->Prop}{a:Act}{w:World}{l:List Oper}(hm:P.follows .mixedOrders=true)(hB:Region.lexB .any l.toArray=true)
  (h:wpQuiet P l.toArray (fun w'=>∃z:Aft w,w'=z.u) (fun a'=>∀w',Yc w w'->Q .normal a' w') l a):(Code.region id l.toArray true).wp P Q a w:=
 wp_region_quiet (C:=Cl w) hm hB (Cl.here w) (by
  have e:(fun a'=>∀w',Yc w w'->Q .normal a' w')=fun a'=>∀w',Cl w w'->Q .normal a' w':=funext fun a'=>propext ⟨fun h w' ⟨z,e⟩=>e ▸ h z.u z.s,fun h w' hs=>h w' ⟨⟨w',hs⟩,rfl⟩⟩;rw[e]at h;simpa using h)
theorem Yp{P:Program}{id:Nat}{Q:Exit->Act->World->Prop}{a:Act}{w:World}{l:List Oper}(n:Nat)(hm:P.follows .mixedOrders=true)(hB:Kv l n=true)
  (h:wpQuiet P (l.take n).toArray (fun w'=>∃z:Aft w,w'=z.u) (fun a'=>∀w',Yc w w'->wpList P l.toArray Q (l.drop n) a' w') (l.take n) a):(Code.region id l.toArray true).wp P Q a w:=by
 have e:(fun a'=>∀w',Yc w w'->wpList P l.toArray Q (l.drop n) a' w')=fun a'=>∀w',Cl w w'->wpList P l.toArray Q (l.drop n) a' w':=funext fun a'=>propext ⟨fun h w' ⟨z,e⟩=>e ▸ h z.u z.s,fun h w' hs=>h w' ⟨⟨w',hs⟩,rfl⟩⟩;rw[e]at h;exact Ww (C:=Cl w) n hm hB (Cl.here w) h
theorem Cl.cell{w:World}{p:Addr}{v:Value}(h:w.cell? p=some v):∀z:Aft w,z.u.cell? p=some v:=
 fun z=>(z.s.cell (World.block_lt_of_cell? w _ h) (fun e=>e)).trans h
theorem kC{w:World}{p:Addr}{v:Value}(h:w.cell? p=some v):∀z:Aft w,z.u.cell? p=some v:=Cl.cell h
end Go.Proofs.YtcgmohldcokccaaGreatDoor
namespace Go.Proofs.YtcgmohldcokccaaGreatDoor
open Go.RowKit
open Pu Gp
abbrev pt(x y:Int):Value:=.agg #[.int .i64 x,.int .i64 y]
abbrev bx(a b c d:Int):Value:=.agg #[.int .i64 a,.int .i64 b,.int .i64 c,.int .i64 d]
theorem Wx(w:World)(g:Nat)(x y:Int)(c0:w.cell? ⟨g,0,none⟩=some (.int .i64 x))(c1:w.cell? ⟨g,1,none⟩=some (.int .i64 y)) :
  (loadVar 57 ⟨g,0,none⟩).run Tryz.prog w=.ok (pt x y) w:=by
 go_simp
theorem Au(w:World)(g:Nat)(x y z u:Int)(c0:w.cell? ⟨g,0,none⟩=some (.int .i64 x))(c1:w.cell? ⟨g,1,none⟩=some (.int .i64 y))(c2:w.cell? ⟨g,2,none⟩=some (.int .i64 z))(c3:w.cell? ⟨g,3,none⟩=some (.int .i64 u)) :
  (loadVar 172 ⟨g,0,none⟩).run Tryz.prog w=.ok (bx x y z u) w:=by
 go_simp
theorem Av{fn:Func}{p:Tmp}(h:fn.results=#[.cell p 57])(tmps:Array Value)(w:World)(g:Nat)(x y:Int)(hp:tmps.getD p undef=.pointer (some ⟨g,0,none⟩))
  (c0:w.cell? ⟨g,0,none⟩=some (.int .i64 x)) (c1:w.cell? ⟨g,1,none⟩=some (.int .i64 y)):(results fn tmps).run Tryz.prog w=.ok (pt x y) w:=by
 have hp':tmps[p]?.getD undef=.pointer (some ⟨g,0,none⟩):=by simpa using hp
 simp[results,h,hp',asAddr,Wx w g x y c0 c1]
theorem Aw{fn:Func}{p:Tmp}(h:fn.results=#[.cell p 172])(tmps:Array Value)(w:World)(g:Nat)(x y z u:Int)(hp:tmps.getD p undef=.pointer (some ⟨g,0,none⟩))
  (c0:w.cell? ⟨g,0,none⟩=some (.int .i64 x)) (c1:w.cell? ⟨g,1,none⟩=some (.int .i64 y)) (c2:w.cell? ⟨g,2,none⟩=some (.int .i64 z)) (c3:w.cell? ⟨g,3,none⟩=some (.int .i64 u)) :
  (results fn tmps).run Tryz.prog w=.ok (bx x y z u) w:=by
 have hp':tmps[p]?.getD undef=.pointer (some ⟨g,0,none⟩):=by simpa using hp
 simp[results,h,hp',asAddr,Au w g x y z u c0 c1 c2 c3]
def Pb(w:World)(b:Nat)(x y:Int):Prop:=w.heap[b]?=some (.cells #[.int .i64 x,.int .i64 y] 57 (0,0))
def Bb(w:World)(b:Nat)(x y z u:Int):Prop:=w.heap[b]?=some (.cells #[.int .i64 x,.int .i64 y,.int .i64 z,.int .i64 u] 172 (0,0))
theorem Pb.sT{w w':World}{b:Nat}{x y:Int}(h:Pb w b x y)(hs:Yc w w'):Pb w' b x y:=hs.kept_still h
theorem Bb.sT{w w':World}{b:Nat}{x y z u:Int}(h:Bb w b x y z u)(hs:Yc w w'):Bb w' b x y z u:=hs.kept_still h
theorem Pb.cells{w:World}{b:Nat}{x y:Int}(h:Pb w b x y) :
  w.cell? ⟨b,0,none⟩=some (.int .i64 x)/\w.cell? ⟨b,1,none⟩=some (.int .i64 y)/\∀o,w.frozen? ⟨b,o,none⟩=false:=by
 refine⟨?_,?_,fun o=>frozen_of_row w b o _ _ h⟩<;>(rw[cell_of_row _ _ _ _ _ _ h];rfl)
theorem Bb.cells{w:World}{b:Nat}{x y z u:Int}(h:Bb w b x y z u) :
  w.cell? ⟨b,0,none⟩=some (.int .i64 x)/\w.cell? ⟨b,1,none⟩=some (.int .i64 y)/\w.cell? ⟨b,2,none⟩=some (.int .i64 z)/\w.cell? ⟨b,3,none⟩=some (.int .i64 u)/\∀o,w.frozen? ⟨b,o,none⟩=false:=by
 refine⟨?_,?_,?_,?_,fun o=>frozen_of_row w b o _ _ h⟩<;>(rw[cell_of_row _ _ _ _ _ _ h];rfl)
abbrev Zz(w:World)(b:Nat)(x y:Int):World:=(w.setCell ⟨b,0,none⟩ (.int .i64 x)).setCell ⟨b,1,none⟩ (.int .i64 y)
abbrev setB(w:World)(b:Nat)(x y z u:Int):World:=(((w.setCell ⟨b,0,none⟩ (.int .i64 x)).setCell ⟨b,1,none⟩ (.int .i64 y)).setCell ⟨b,2,none⟩ (.int .i64 z)).setCell ⟨b,3,none⟩ (.int .i64 u)
theorem Pb.set{w:World}{b:Nat}{x y:Int}(h:Pb w b x y)(x' y':Int):Pb (Zz w b x' y') b x' y':=by
 unfold Pb;have h1:=heap_setCell_same w b 0 _ _ (.int .i64 x') h;have h2:=heap_setCell_same _ b 1 _ _ (.int .i64 y') h1;rw[h2];rfl
theorem Bb.set{w:World}{b:Nat}{x y z u:Int}(h:Bb w b x y z u)(x' y' z' u':Int):Bb (setB w b x' y' z' u') b x' y' z' u':=by
 unfold Bb;have h1:=heap_setCell_same w b 0 _ _ (.int .i64 x') h;have h2:=heap_setCell_same _ b 1 _ _ (.int .i64 y') h1;have h3:=heap_setCell_same _ b 2 _ _ (.int .i64 z') h2;have h4:=heap_setCell_same _ b 3 _ _ (.int .i64 u') h3;rw[h4];rfl
theorem Y3{F:Nat->Prop}{a w:World}(h:Fr F a w)(b:Nat)(x y:Int)(hb:F b\/a.heap.size<=b):Fr F a (Zz w b x y):=(h.setCell _ _ hb).setCell _ _ hb
theorem Wy{F:Nat->Prop}{a w:World}(h:Fr F a w)(b:Nat)(x y z u:Int)(hb:F b\/a.heap.size<=b):Fr F a (setB w b x y z u):=(((h.setCell _ _ hb).setCell _ _ hb).setCell _ _ hb).setCell _ _ hb
theorem Pb.res{fn:Func}{p:Tmp}{w:World}{g:Nat}{x y:Int}(hb:Pb w g x y)(h:fn.results=#[.cell p 57])(tmps:Array Value)(hp:tmps.getD p undef=.pointer (some ⟨g,0,none⟩)) :
  (results fn tmps).run Tryz.prog w=.ok (pt x y) w:=Av h tmps w g x y hp hb.cells.1 hb.cells.2.1
theorem Bb.res{fn:Func}{p:Tmp}{w:World}{g:Nat}{x y z u:Int}(hb:Bb w g x y z u)(h:fn.results=#[.cell p 172])(tmps:Array Value)(hp:tmps.getD p undef=.pointer (some ⟨g,0,none⟩)) :
  (results fn tmps).run Tryz.prog w=.ok (bx x y z u) w:=Aw h tmps w g x y z u hp hb.cells.1 hb.cells.2.1 hb.cells.2.2.1 hb.cells.2.2.2.1
abbrev Yh(w:World)(x y:Int):World:=w.alloc (.cells #[.int .i64 x,.int .i64 y] 57)
abbrev U2(w:World)(x y z u:Int):World:=w.alloc (.cells #[.int .i64 x,.int .i64 y,.int .i64 z,.int .i64 u] 172)
theorem Ys(w:World)(x y:Int):Pb (Yh w x y) w.heap.size x y:=heap_alloc_new w _
theorem Xy(w:World)(x y z u:Int):Bb (U2 w x y z u) w.heap.size x y z u:=heap_alloc_new w _
theorem size_alloc(w:World)(o:Obj):(w.alloc o).heap.size=w.heap.size+1:=by simp
theorem XT(d:Nat)(x y z u:Int)(w:World):(Op.equalIn (d+2) 57 (pt x y) (pt z u)).run Tryz.prog w=.ok (x == z && y == u) w:=by
 rw[run_equalIn_struct w (d+1) _ _ _ (by kernel_rfl) (by kernel_rfl)];have e : (Tryz.prog.fieldsOf 57) = #[⟨ "X", 3, 0, false, "", "", 0⟩, ⟨ "Y", 3, 1, false, "", "", 8⟩]:=by kernel_rfl
 rw[e];by_cases h1:x=z
 ·by_cases h2:y=u
  ·subst h1 h2;go_simp
  ·have h3:(y == u)=false:=by simpa using h2
   subst h1;go_simp
 ·have h3:(x == z)=false:=by simpa using h1
  go_simp
theorem Wz(x y z u x' y' z' u':Int)(w:World):(Op.equalIn 10000 172 (bx x y z u) (bx x' y' z' u')).run Tryz.prog w=.ok ((x == x' && y == y') && (z == z' && u == u')) w:=by
 have q1:=fun w=>XT 9997 x y x' y' w;have q2:=fun w=>XT 9997 z u z' u' w;rw[run_equalIn_struct w 9999 _ _ _ (by kernel_rfl) (by kernel_rfl)];have e : (Tryz.prog.fieldsOf 172) = #[⟨ "Min", 57, 0, false, "", "", 0⟩, ⟨ "Max", 57, 2, false, "", "", 16⟩]:=by kernel_rfl
 rw[e];have p1:∀w,(part 57 #[.int .i64 x,.int .i64 y,.int .i64 z,.int .i64 u] 0).run Tryz.prog w=.ok (pt x y) w:=fun w=>by go_simp
 have p2:∀w,(part 57 #[.int .i64 x,.int .i64 y,.int .i64 z,.int .i64 u] 2).run Tryz.prog w=.ok (pt z u) w:=fun w=>by go_simp
 have p3:∀w,(part 57 #[.int .i64 x',.int .i64 y',.int .i64 z',.int .i64 u'] 0).run Tryz.prog w=.ok (pt x' y') w:=fun w=>by go_simp
 have p4:∀w,(part 57 #[.int .i64 x',.int .i64 y',.int .i64 z',.int .i64 u'] 2).run Tryz.prog w=.ok (pt z' u') w:=fun w=>by go_simp
 simp only[Op.eqFields,ne_eq,String.reduceEq,not_false_eq_true,if_true,Sem.run_bind,p1,p2,p3,p4,Result.andThen_ok,q1,q2,Sem.run_ite,Sem.run_pure];cases(x == x' && y == y')<;>cases(z == z' && u == u')<;>rfl
theorem Kw(x y z u:Int)(w:World):(binOp .eql 57 (pt x y) (pt z u)).run Tryz.prog w=.ok (.bool (x == z && y == u)) w:=by
 rw[run_eql_struct,XT 9998];rfl
theorem Ga(x y z u:Int)(w:World):(binOp .neq 57 (pt x y) (pt z u)).run Tryz.prog w=.ok (.bool (!(x == z && y == u))) w:=by
 rw[run_neq_struct,XT 9998];rfl
theorem Ax(x y z u x' y' z' u':Int)(w:World):(binOp .eql 172 (bx x y z u) (bx x' y' z' u')).run Tryz.prog w=.ok (.bool ((x == x' && y == y') && (z == z' && u == u'))) w:=by
 rw[run_eql_struct,Wz];rfl
theorem WA(x y z u x' y' z' u':Int)(w:World):(binOp .neq 172 (bx x y z u) (bx x' y' z' u')).run Tryz.prog w=.ok (.bool (!((x == x' && y == y') && (z == z' && u == u')))) w:=by
 rw[run_neq_struct,Wz];rfl
theorem U6(op:BinOp)(a b:Operand)(xs ys:Array Value)(w:World):(eqGuard op 57 a b (.agg xs) (.agg ys)).run Tryz.prog w=.ok () w:=run_eqGuard_agg w op _ a b xs ys (by kernel_rfl)
theorem WB(op:BinOp)(a b:Operand)(xs ys:Array Value)(w:World):(eqGuard op 172 a b (.agg xs) (.agg ys)).run Tryz.prog w=.ok () w:=run_eqGuard_agg w op _ a b xs ys (by kernel_rfl)
theorem Ay{x y z u x' y' z' u':Int}(h:x=x'/\y=y'/\z=z'/\u=u')(w:World):(binOp .neq 172 (bx x y z u) (bx x' y' z' u')).run Tryz.prog w=.ok (.bool false) w:=by
 obtain⟨h1,h2,h3,h4⟩:=h;rw[WA,h1,h2,h3,h4];simp
theorem Az{x y z u x' y' z' u':Int}(h:¬(x=x'/\y=y'/\z=z'/\u=u'))(w:World):(binOp .neq 172 (bx x y z u) (bx x' y' z' u')).run Tryz.prog w=.ok (.bool true) w:=by
 rw[WA];have:((x == x' && y == y') && (z == z' && u == u'))=false:=by
  cases hb:((x == x' && y == y') && (z == z' && u == u'))with
  | false=>rfl
  | true =>
   simp at hb;exact absurd ⟨hb.1.1,hb.1.2,hb.2.1,hb.2.2⟩ h
 rw[this];rfl
theorem A7{x y z u:Int}(h:x=z/\y=u)(w:World):(binOp .neq 57 (pt x y) (pt z u)).run Tryz.prog w=.ok (.bool false) w:=by
 obtain⟨h1,h2⟩:=h;rw[Ga,h1,h2];simp
def okb(a b c d:Int):Bool:=decide (-2147483647<=a/\a<=2147483647/\-2147483647<=b/\b<=2147483647/\-2147483647<=c/\c<=2147483647/\-2147483647<=d/\d<=2147483647/\a<=c/\b<=d)
theorem VN{a b c d:Int}(h:okb a b c d=true):okB a b c d:=by unfold okb at h;simpa only[okB,decide_eq_true_eq]using h
theorem A8{a b c d:Int}(h:okb a b c d=false):¬okB a b c d:=by unfold okb at h;simpa only[okB,decide_eq_false_iff_not]using h
def chk(a b c d:Int):Int:=if okb a b c d then 0 else 50
theorem WC(a b c d:Int):okB a b c d ↔ (min (bnd a) (bnd c)=a/\min (bnd b) (bnd d)=b/\max (bnd a) (bnd c)=c/\max (bnd b) (bnd d)=d):=by
 have a0:=Yn a;have a1:=Yo a;have b0:=Yn b;have b1:=Yo b
 have c0:=Yn c;have c1:=Yo c;have d0:=Yn d;have d1:=Yo d
 constructor
 ·rintro⟨h0,h1,h2,h3,h4,h5,h6,h7,h8,h9⟩;rw[bnd_id h0 h1,bnd_id h2 h3,bnd_id h4 h5,bnd_id h6 h7];omega
 ·rintro⟨h0,h1,h2,h3⟩;refine⟨?_,?_,?_,?_,?_,?_,?_,?_,?_,?_⟩<;>omega
theorem Gb{a b c d:Int}(h:okB a b c d):okb a b c d=true:=by unfold okb;simpa only[okB,decide_eq_true_eq]using h
theorem bnd_in{x:Int}(h:bnd x=x):-2147483647<=x/\x<=2147483647:=by have a:=Yn x;have b:=Yo x;omega
def mt(a b c d a' b' c' d':Int):Bool:=(okb a b c d && okb a' b' c' d') && okb (max a a') (max b b') (min c c') (min d d')
def mif(t:Bool)(x:Int):Int:=if t then x else 0
abbrev mb(a b c d a' b' c' d':Int):Value:=bx (mif (mt a b c d a' b' c' d') (max a a')) (mif (mt a b c d a' b' c' d') (max b b')) (mif (mt a b c d a' b' c' d') (min c c')) (mif (mt a b c d a' b' c' d') (min d d'))
end Go.Proofs.YtcgmohldcokccaaGreatDoor
namespace Go.Proofs.YtcgmohldcokccaaGreatDoor
open Go
theorem Gc{P:Program}{o:Oper}{a:Act}{w:World}{v:Value}{K:Act->World->Prop}{Q:Exit->Act->World->Prop}(h:o.quietAt P a (fun u=>Yc w u) w v)
  (hK:∀w',Yc w w'->K (a.put o.dst v) w'):o.wp P a w K Q:=by
 unfold Oper.quietAt at h;unfold Oper.wp;generalize (execOp a.eval o).run P w=r at h⊢;cases r with
 | halt x w'=>simp only[Oper.quietUpon]at h
 | ok n w' =>
  cases n<;>simp only[Oper.quietUpon]at h
  case value u =>
   obtain⟨rfl,rfl⟩:=h;rw[Oper.upon_value];exact hK _ (Fr.refl _ _)
  case skip =>
   obtain⟨rfl,rfl⟩:=h;rw[Oper.upon_skip];exact hK _ (Fr.refl _ _)
  case enter f args =>
   obtain⟨rfl,hc⟩:=h;simp only[Oper.upon];exact hc.mono fun e w'' ⟨he,hs⟩=>by subst he;exact hK _ hs
def Gd(ops:Array Oper)(n d:Nat):Bool:=
  (List.range n).all fun j=>match ops[j]? with
    | some o => o.guard.isNone && (o.dst != some d) && (o.dst.isSome) &&
        ((List.range n).all fun i=>(i == j) || (match ops[i]? with|some p=>p.dst != o.dst|none=>false)) &&
        o.op.operands.toList.all fun x=>match x with
          | .tmp t => (t != d) && (List.range n).all fun i => match ops[i]? with
              | some p=>(p.dst != some t) || o.after.any fun e=>e.on == i && Region.binds .any e
              | none=>false
          | _=>true
    | none=>false
section
variable {P:Program} {W:World} {l:List Oper} {n d:Nat} {A:Act} {z:Obj}
structure Mid (l:List Oper) (n d:Nat) (A:Act) (W:World) (z:Obj) (L:Array Bool) (a:Act) (w:World):Prop where
 sT:Yc W w
 size:a.tmps.size=A.tmps.size
 defers:a.defers=A.defers
 rest:∀t,(∀j o,j<n->l[j]?=some o->o.dst≠some t)->t≠d->a.tmps[t]?=A.tmps[t]?
 done:∀j o t,j<n->l[j]?=some o->o.dst=some t->L.getD j true=true->a.tmps[t]?=A.tmps[t]?
 new:L.getD n true=true->∃g,a.tmps[d]?=some (.pointer (some ⟨g,0,none⟩))/\w.heap[g]?=some z/\W.heap.size<=g
theorem WD(h:Gd l.toArray n d=true){j:Nat}{o:Oper}(hj:j<n)(ho:l[j]?=some o) :
  o.guard=none/\o.dst≠some d/\(∃t,o.dst=some t)/\(∀i p,i<n->l[i]?=some p->i≠j->p.dst≠o.dst) /\
  ∀t,.tmp t∈o.op.operands->t≠d/\∀i p,i<n->l[i]?=some p->p.dst=some t->∃e∈o.after,e.on=i/\Region.binds .any e=true:=by
 have h1:=List.all_eq_true.1 h j (List.mem_range.2 hj);have ho':l.toArray[j]?=some o:=by simpa using ho
 simp only[ho',Bool.and_eq_true]at h1;obtain⟨⟨⟨⟨h2,h3⟩,h4⟩,h5⟩,h6⟩:=h1;refine⟨by simpa using h2,by simpa using h3,Option.isSome_iff_exists.1 h4,fun i p hi hp hij=>?_,fun t ht=>?_⟩
 ·have:=List.all_eq_true.1 h5 i (List.mem_range.2 hi);have hp':l.toArray[i]?=some p:=by simpa using hp
  simp only[hp',Bool.or_eq_true,beq_iff_eq]at this;rcases this with e|e
  ·exact absurd e hij
  ·simpa using e
 ·have:=List.all_eq_true.1 h6 (.tmp t) (by simpa using ht);simp only[Bool.and_eq_true]at this;refine⟨by simpa using this.1,fun i p hi hp hd=>?_⟩;have h7:=List.all_eq_true.1 this.2 i (List.mem_range.2 hi);have hp':l.toArray[i]?=some p:=by simpa using hp
  simp only[hp',Bool.or_eq_true]at h7;rcases h7 with e|e
  ·simp[hd]at e
  ·obtain⟨e,he,hb⟩:=Array.any_eq_true'.1 e;simp only[Bool.and_eq_true,beq_iff_eq]at hb;exact⟨e,he,hb.1,hb.2⟩
theorem U7{a b:Act}{t:Nat}(h:a.tmps[t]?=b.tmps[t]?):a.eval (.tmp t)=b.eval (.tmp t):=by
 simp only[Act.eval,Array.getD_eq_getD_getElem?,h]
theorem U8{L:Array Bool}{i:Nat}(hi:i<L.size)(h:L.getD i false=true):L.getD i true=true:=by
 simp[hi]at h⊢;exact h
theorem WE{dn:Nat}{on:Oper}{g':Nat}{Q':Exit->Act->World->Prop}(hE:Gd l.toArray n dn=true)(hsel:Region.noSelect l.toArray=true)(hlow:U1 l.toArray (n+1)=true)
  (hs:Region.sinkB .any l.toArray (n+1)=true) (hc:Region.chainB .any l.toArray (n+1)=true) (hn:n+1<l.length) (hon:l[n]?=some on) (hdn:on.dst=some dn) (hgn:on.guard=none) (hdA:dn<A.tmps.size)
  (hop:∀j o,j<n->l[j]?=some o->∀w,Yc W w->∀t,o.dst=some t->o.quietAt P A (fun u=>Yc w u) w (A.tmps.getD t undef)/\t<A.tmps.size)
  (hnew:∀w,Yc W w->∀a:Act,(execOp a.eval on).run P w=.ok (.value (.pointer (some ⟨w.heap.size,0,none⟩))) (w.alloc z))
  (hdone:∀(L:Array Bool) a w,L.size=l.length->(∀i,i<n+1->L.getD i true=true)->(∀t,n+1<=t->t<l.length->L.getD t true=false)->Mid l n dn A W z L a w->wpAny P .any l.toArray Q' g' L a w) :
  ∀(f:Nat) (L:Array Bool) (a:Act) (w:World),HeadInv .any l.toArray (n+1) L->cnt L (n+1)=f->Mid l n dn A W z L a w->wpAny P .any l.toArray Q' (f+g') L a w
 | 0,L,a,w,inv,hcnt,hm=>by
  rw[Nat.zero_add];exact hdone L a w (by simpa using inv.size) (VM hcnt) (fun t h1 h2=>inv.tail t h1 (by simpa using h2)) hm
 | f+1,L,a,w,inv,hcnt,hm=>by
  rw[show f+1+g'=(f+g')+1 by omega];obtain⟨i,hi,hun,hmin⟩:=Jq (L:=L) (n:=n+1) (by omega);have hsz:l.toArray.size=l.length:=by simp
  have hLs:L.size=l.length:=by rw[inv.size,hsz]
  refine⟨fun h0=>?_,fun j hj=>?_⟩
  ·exfalso;obtain⟨o,ho⟩:∃o,l.toArray[i]?=some o:=⟨_,Array.getElem?_eq_getElem (by simp;omega)⟩;have:i∈Region.ready .any l.toArray L:=mem_ready.2 ⟨hun,o,ho,fun e he _=>by
    have hlt:=(Ku hlow hi ho).1 e he;have hin:e.on<L.size:=by omega
    have:=hmin e.on hlt;simp[hin]at this⊢;exact this⟩
   rw[h0]at this;cases this
  ·have hjn:j<n+1:=by
    rcases Nat.lt_or_ge j (n+1)with h'|h'
    ·exact h'
    ·exact absurd hj (tail_waits hs hc (by rw[hsz];exact hn) inv _ i rfl hi hun j h')
   obtain⟨hju,o,ho,hall⟩:=mem_ready.1 hj;have ho':l[j]?=some o:=by simpa using ho
   have next:∀(a':Act) (w':World),Mid l n dn A W z (L.setIfInBounds j true) a' w'->wpAny P .any l.toArray Q' (f+g') (L.setIfInBounds j true) a' w':=fun a' w' hm' =>
    WE hE hsel hlow hs hc hn hon hdn hgn hdA hop hnew hdone f _ a' w' (inv.set hj hjn) (by have:=Jp hju hjn;omega) hm'
   unfold wpOp;simp only[ho];by_cases hjN:j=n
   ·subst hjN;obtain rfl:on=o:=Option.some.inj (hon.symm.trans ho');rw[if_pos (by unfold Region.wanted;rw[hgn])];refine .inl ?_;unfold Oper.wp;rw[hnew w hm.sT a,Oper.upon_value];refine next _ _ ⟨hm.sT.trans (sA w z),?_,?_,fun t h1 h2=>?_,fun k p t hk hp ht hl=>?_,fun _=>⟨w.heap.size,?_,?_,hm.sT.size⟩⟩
    ·simp[Act.put,hdn,hm.size]
    ·simp[Act.put,hdn,hm.defers]
    ·simp only[Act.put,hdn,Array.getElem?_setIfInBounds_ne (Ne.symm h2)];exact hm.rest t h1 h2
    ·have hne:t≠dn:=fun e=>(WD hE hk hp).2.1 (by rw[ht,e]);rw[getD_set_ne true (by omega)]at hl;simp only[Act.put,hdn,Array.getElem?_setIfInBounds_ne (Ne.symm hne)];exact hm.done k p t hk hp ht hl
    ·simp only[Act.put,hdn];rw[Array.getElem?_setIfInBounds_self];simp[hm.size,hdA]
    ·exact heap_alloc_new w z
   ·have hj':j<n:=by omega
    obtain⟨hg,hd1,⟨t,ht⟩,hd2,hopn⟩:=WD hE hj' ho';rw[if_pos (by unfold Region.wanted;rw[hg])];refine .inl ?_;have hcong:execOp a.eval o=execOp A.eval o:=execOp_congr o (fun cs b=>Region.noSelect_spec hsel j o cs b ho) fun x hx=>by
     cases x with
     | tmp s =>
      obtain⟨hs1,hs2⟩:=hopn s hx;refine U7 ?_;by_cases hex:∃k p,k<n/\l[k]?=some p/\p.dst=some s
      ·obtain⟨k,p,hk,hp,hps⟩:=hex;obtain⟨e,he,heo,hb⟩:=hs2 k p hk hp hps;have:=hall e he hb;rw[heo]at this;exact hm.done k p s hk hp hps (U8 (by omega) this)
      ·exact hm.rest s (fun k p hk hp hps=>hex ⟨k,p,hk,hp,hps⟩) hs1
     | const v=>rfl
     | global g=>rfl
     | func f=>rfl
    obtain⟨hq,hta⟩:=hop j o hj' ho' w hm.sT t ht;have hq':o.quietAt P a (fun u=>Yc w u) w (A.tmps.getD t undef):=by
     unfold Oper.quietAt at hq⊢;rw[hcong];exact hq
    refine Gc hq' fun w' hw'=>next _ _ ⟨hm.sT.trans hw',?_,?_,fun s h1 h2=>?_,fun k p s hk hp hps hl=>?_,fun hl=>?_⟩
    ·simp[Act.put,ht,hm.size]
    ·simp[Act.put,ht,hm.defers]
    ·have hne:t≠s:=fun e=>h1 j o hj' ho' (by rw[ht,e]);simp only[Act.put,ht,Array.getElem?_setIfInBounds_ne hne];exact hm.rest s h1 h2
    ·by_cases hkj:k=j
     ·subst hkj;obtain rfl:o=p:=Option.some.inj (ho'.symm.trans hp);obtain rfl:t=s:=Option.some.inj (ht.symm.trans hps);simp only[Act.put,ht];rw[Array.getElem?_setIfInBounds_self];simp[hm.size,hta]
     ·have hne:t≠s:=fun e=>hd2 k p hk hp hkj (by rw[ht,hps,e]);rw[getD_set_ne true (by omega)]at hl;simp only[Act.put,ht,Array.getElem?_setIfInBounds_ne hne];exact hm.done k p s hk hp hps hl
    ·rw[getD_set_ne true hjN]at hl;obtain⟨g,hg1,hg2,hg3⟩:=hm.new hl;have hne:t≠dn:=fun e=>hd1 (by rw[ht,e]);refine⟨g,?_,hw'.kept_still hg2,hg3⟩;simp only[Act.put,ht,Array.getElem?_setIfInBounds_ne hne];exact hg1
def newB?(l:List Oper)(n d:Nat):Bool:=
 Gd l.toArray n d && Region.noSelect l.toArray && U1 l.toArray (n+1) && Region.sinkB .any l.toArray (n+1) && Region.chainB .any l.toArray (n+1) && decide (n+1<l.length) &&
  Region.seqB .any l.toArray (l.length-(n+1)) (n+1) (List.replicate (n+1) true ++ List.replicate (l.length-(n+1)) false).toArray
theorem WF{id:Nat}{Q:Exit->Act->World->Prop}{a:Act}{w:World}{on:Oper}(n d:Nat)(A:Act)(z:Obj)(hm:P.follows .mixedOrders=true)(hB:newB? l n d=true)(hon:l[n]?=some on)(hdn:on.dst=some d)(hgn:on.guard=none)(hdA:d<A.tmps.size)
  (hsize:a.tmps.size=A.tmps.size) (hdef:a.defers=A.defers) (hrest:∀t,(∀j o,j<n->l[j]?=some o->o.dst≠some t)->t≠d->a.tmps[t]?=A.tmps[t]?)
  (hop:∀j o,j<n->l[j]?=some o->∀u,Yc w u->∀t,o.dst=some t->o.quietAt P A (fun v=>Yc u v) u (A.tmps.getD t undef)/\t<A.tmps.size)
  (hnew:∀u,Yc w u->∀b:Act,(execOp b.eval on).run P u=.ok (.value (.pointer (some ⟨u.heap.size,0,none⟩))) (u.alloc z))
  (h:∀u g,Yc w u->w.heap.size<=g->u.heap[g]?=some z->wpList P l.toArray Q (l.drop (n+1)) (A.put (some d) (.pointer (some ⟨g,0,none⟩))) u):(Code.region id l.toArray true).wp P Q a w:=by
 simp only[newB?,Bool.and_eq_true,decide_eq_true_eq]at hB;obtain⟨⟨⟨⟨⟨⟨hE,hsel⟩,hlow⟩,hs⟩,hc⟩,hn⟩,hseq⟩:=hB;have inv0:HeadInv .any l.toArray (n+1) (Array.replicate l.length false):=
  ⟨by simp,fun j oj _ hl=>(by rw[getD_replicate_false]at hl;cases hl),fun t _ ht=>getD_in (by simpa using ht) (getD_replicate_false _ _)⟩
 refine wp_region_any hm ?_;have hst:Yc w { w with drawn:=w.drawn+1 }:=(Fr.refl _ w).drew;have key:=WE (P:=P) (W:=w) (A:=A) (z:=z) (Q':=Q) (g':=l.length-(n+1)) hE hsel hlow hs hc hn hon hdn hgn hdA hop hnew (fun L a' w' hsz h1 h2 hm'=>by
  have e:=Wv (by omega) hsz h1 h2;obtain⟨g,hg1,hg2,hg3⟩:=hm'.new (h1 n (by omega));have ea:a'=A.put (some d) (.pointer (some ⟨g,0,none⟩)):=by
   obtain⟨ts,df⟩:=a';obtain⟨Ts,Df⟩:=A;have e2:df=Df:=hm'.defers;subst e2;have e1:ts=Ts.setIfInBounds d (.pointer (some ⟨g,0,none⟩)):=by
    apply Array.ext_getElem?;intro t;by_cases htd:t=d
    ·subst htd;rw[hg1,Array.getElem?_setIfInBounds_self];simp only[show t<Ts.size from hdA,if_true]
    ·rw[Array.getElem?_setIfInBounds_ne (Ne.symm htd)];by_cases hex:∃k p,k<n/\l[k]?=some p/\p.dst=some t
     ·obtain⟨k,p,hk,hp,hps⟩:=hex;exact hm'.done k p t hk hp hps (h1 k (by omega))
     ·exact hm'.rest t (fun k p hk hp hps=>hex ⟨k,p,hk,hp,hps⟩) htd
   rw[e1];rfl
  rw[ea];subst e;have:=wpAny_of_seq (P:=P) (md:=.any) (ops:=l.toArray) (Q':=Q) (l.drop (n+1)) (n+1) _ _ w' (fun j=>by simp[List.getElem?_drop]) (by simpa using hseq) (h w' g hm'.sT hg3 hg2);simpa using this) (n+1) (Array.replicate l.length false) a { w with drawn:=w.drawn+1 } inv0 (Jr (by omega))
  ⟨hst,hsize,hdef,hrest,fun j o t hj ho ht hl=>(by simp[show j<l.length by omega]at hl),fun hl=>(by simp[show n<l.length by omega]at hl)⟩
 have e:n+1+(l.length-(n+1))=l.toArray.size:=by simp;omega
 rw[e]at key;simpa using key
def VO(a:Act):List Oper->List Value->Act
 | o :: r,v :: vs=>VO (a.put o.dst v) r vs
 | _,_=>a
theorem WG:∀(ops:List Oper) (vs:List Value) (a:Act),(VO a ops vs).tmps.size=a.tmps.size/\(VO a ops vs).defers=a.defers/\∀t,(∀o∈ops,o.dst≠some t)->(VO a ops vs).tmps[t]?=a.tmps[t]?
 | [],vs,a=>by cases vs<;>exact⟨rfl,rfl,fun _ _=>rfl⟩
 | o :: r,[],a=>⟨rfl,rfl,fun _ _=>rfl⟩
 | o :: r,v :: vs,a=>by
  obtain⟨h1,h2,h3⟩:=WG r vs (a.put o.dst v);have e:VO a (o :: r) (v :: vs)=VO (a.put o.dst v) r vs:=rfl;rw[e,h1,h2];refine⟨?_,?_,fun t ht=>?_⟩
  ·cases hd:o.dst<;>simp[Act.put]
  ·cases hd:o.dst<;>simp[Act.put]
  ·rw[h3 t fun p hp=>ht p (List.mem_cons_of_mem _ hp)];have:=ht o (List.mem_cons_self ..);cases hd:o.dst with
   | none=>rfl
   | some d =>
    rw[hd]at this;have hne:d≠t:=fun e=>this (by rw[e]);simp only[Act.put,Array.getElem?_setIfInBounds_ne hne]
def VP(P:Program)(W:World)(A:Act):List Oper->Prop
 | []=>True
 | o :: r=>(∀u,Yc W u->o.quietAt P A (fun v=>Yc u v) u (A.tmps.getD (o.dst.getD 0) undef))/\VP P W A r
theorem WH:∀{ops:List Oper},VP P W A ops->∀(j:Nat) (o:Oper),ops[j]?=some o->∀u,Yc W u->o.quietAt P A (fun v=>Yc u v) u (A.tmps.getD (o.dst.getD 0) undef)
 | [],_,j,o,h=>by simp at h
 | p :: r,hw,0,o,h=>by
  simp at h;subst h;exact hw.1
 | p :: r,hw,j+1,o,h=>WH hw.2 j o (by simpa using h)
def inB(l:List Oper)(n m:Nat):Bool:=(l.take n).all fun o=>match o.dst with|some t=>decide (t<m)|none=>true
theorem Kx{id:Nat}{Q:Exit->Act->World->Prop}{a:Act}{w:World}{on:Oper}(n d:Nat)(z:Obj)(vs:List Value)(A:Act)(hm:P.follows .mixedOrders=true)(hB:newB? l n d=true)(hon:l[n]?=some on)(hdn:on.dst=some d)(hgn:on.guard=none)
  (hA:VO a (l.take n) vs=A) (hI:inB l n A.tmps.size=true) (hdA:d<A.tmps.size)
  (hop:VP P w A (l.take n))
  (hnew:∀u,Yc w u->∀b:Act,(execOp b.eval on).run P u=.ok (.value (.pointer (some ⟨u.heap.size,0,none⟩))) (u.alloc z))
  (h:∀u g,Yc w u->w.heap.size<=g->u.heap[g]?=some z->wpList P l.toArray Q (l.drop (n+1)) (A.put (some d) (.pointer (some ⟨g,0,none⟩))) u):(Code.region id l.toArray true).wp P Q a w:=by
 obtain⟨e1,e2,e3⟩:=WG (l.take n) vs a;rw[hA]at e1 e2 e3;refine WF n d A z hm hB hon hdn hgn hdA e1.symm e2.symm (fun t h1 _=>(e3 t fun o ho=>?_).symm) (fun j o hj ho u hu t ht=>?_) hnew h
 ·obtain⟨j,hj,e⟩:=List.mem_iff_getElem.1 ho;have hjn:j<n:=by simp at hj;omega
  exact h1 j o hjn (by rw[<- e];simp)
 ·have:=WH hop j o (by rw[List.getElem?_take_of_lt hj];exact ho) u hu;rw[ht]at this;refine⟨this,?_⟩;have h2:=List.all_eq_true.1 hI o (List.mem_iff_getElem?.2 ⟨j,by rw[List.getElem?_take_of_lt hj];exact ho⟩);rw[ht]at h2;simpa using h2
end
end Go.Proofs.YtcgmohldcokccaaGreatDoor
namespace Go.Proofs.YtcgmohldcokccaaGreatDoor
open Go.RowKit
open Pu Gp
structure Tab (w:World):Prop where
 u:∀d,d<16->w.cell? ⟨6,d*2,none⟩=some (.int .i64 (ux d))/\w.cell? ⟨6,d*2+1,none⟩=some (.int .i64 (uy d))
theorem Tab.sT{w w':World}(h:Tab w)(hs:Yc w w'):Tab w':=
 ⟨fun d hd=>⟨(hs.cell (World.block_lt_of_cell? w _ (h.u d hd).1) (fun e=>e)).trans (h.u d hd).1,(hs.cell (World.block_lt_of_cell? w _ (h.u d hd).2) (fun e=>e)).trans (h.u d hd).2⟩⟩
structure RTab (w:World):Prop where
 x:∀d,d<16->w.cell? ⟨0,d,none⟩=some (.int .i64 (ux d))
 y:∀d,d<16->w.cell? ⟨1,d,none⟩=some (.int .i64 (uy d))
theorem RTab.sT{w w':World} /- 120 -/(h:RTab w)(hs:Yc w w'):RTab w':=
 ⟨fun d hd=>(hs.cell (World.block_lt_of_cell? w _ (h.x d hd)) (fun e=>e)).trans (h.x d hd),fun d hd=>(hs.cell (World.block_lt_of_cell? w _ (h.y d hd)) (fun e=>e)).trans (h.y d hd)⟩
def dir(n:Int):Nat:=(n % 16).toNat
theorem WI(n:Int):dir n<16:=by unfold dir;omega
theorem WJ(n:Int):n % 16=(dir n:Int):=by unfold dir;omega
theorem A9(n:Int)(w:World):Yb 202 #[.int .i64 n] w (.int .i64 (dir n:Int)):=by
 have h:=Wq n w;rw[WJ]at h;exact h
theorem WK(n:Int)(w:World)(ht:Tab w):Ya 282 #[.int .i64 n] w (pt (ux (dir n)) (uy (dir n))):=by
 have hd:=WI n;obtain⟨k0,k1⟩:=(ht.sT (sA w (.cells #[.int .i64 0,.int .i64 0] 57))).u (dir n) hd;have hi:((dir n:Nat):Int)<16:=by omega
 go_enter Tryz.func282,Tryz.ntmps282;go_wp2_with (go_at_call 202;refine(A9 _ _).mono ?_;rintro e w' ⟨he,hw⟩;rw[he,hw];clear he hw w')
 (try simp only[Exit.inBlock,Exit.then])
 exact bodyPost_ret ((Ys w _ _).res rfl _ rfl) rfl ⟨rfl,sA w _⟩
theorem AA(n:Int)(w:World):Yb 85 #[.int .i64 n] w (.int .i64 (dir n:Int)):=by
 have h:=Wr n w;rw[WJ]at h;exact h
theorem WL(n:Int)(w:World)(ht:RTab w):Ya 120 #[.int .i64 n] w (pt (ux (dir n)) (uy (dir n))):=by
 have hd:=WI n;obtain⟨W,eW⟩:∃W,W=Yh w 0 0:=⟨_,rfl⟩;have r:Pb W w.heap.size 0 0:=by rw[eW];exact Ys w 0 0
 have hs0:Yc w W:=by rw[eW];exact sA w _
 have c0:=kC ((ht.sT hs0).x (dir n) hd);have c1:=kC ((ht.sT hs0).y (dir n) hd);have hi:((dir n:Nat):Int)<16:=by omega
 have hne:=Aft.here W;have HW:=hid eW;have HF:=hid hs0;clear eW hs0;go_enter Tryz.func120,Tryz.ntmps120;go_wp2_with (go_at_call 85;refine(AA _ _).mono ?_;rintro e w' ⟨he,hw⟩;rw[he,hw];clear he hw w');have e:=HW.o;simp only[Yh]at e;rw[<- e];clear e HW;refine Yp 6 (by kernel_rfl) (by kernel_rfl) ?_;simp only[tkd];repeat(go_big_quiet_step (fail))
 refine wpQuiet_nil ?_;intro w1 hs;clear hne c0 c1;have q:=r.sT hs;obtain⟨d0,d1,df⟩:=q.cells;go_wp2_with fail
 (try simp only[Exit.inBlock,Exit.then])
 exact bodyPost_ret ((q.set _ _).res rfl _ rfl) rfl ⟨rfl,Y3 (HF.o.trans hs) _ _ _ (.inr (Nat.le_refl _))⟩
end Go.Proofs.YtcgmohldcokccaaGreatDoor
namespace Go.Proofs.YtcgmohldcokccaaGreatDoor
open Go
def qi(n m j:Nat):Bool:=decide (j<n) || decide (n+2*m<=j)
def Y4(l:List Oper)(n m:Nat):List Oper:=l.take n ++ l.drop (n+2*m)
def U9:List Oper->Bool
  | []=>true
  | o :: r => o.guard.isNone && (match o.dst with|some t => r.all fun p => p.dst != some t|none => false) &&
      (o.op.operands.toList.all fun x=>match x with | .tmp t=>(o :: r).all fun p=>p.dst != some t|_=>true) && U9 r
def XD(l:List Oper)(z:Nat):Bool:=l.all fun o=>match o.dst with|some t=>decide (t<z)|none=>true
theorem Vt{ts:Array Value}{t:Nat}(h:t<ts.size)(v:Value):(ts.setIfInBounds t v)[t]?=some v:=by
 rw[Array.getElem?_setIfInBounds_self];simp[h]
section
variable {P:Program}
theorem VQ{ops:Array Oper}{u:World}{A:Act}(hsel:∀(o:Oper),o∈ops->∀cs b,o.op ≠ .select cs b):∀(r:List Oper) (a:Act),(∀o∈r,o∈ops)->U9 r=true->XD r a.tmps.size=true->wpQuiet P ops (Cl u) (fun a'=>a'=A) r a ->
  (A.tmps.size=a.tmps.size/\A.defers=a.defers/\∀t,(∀o∈r,o.dst≠some t)->A.tmps[t]?=a.tmps[t]?) /\
  ∀o∈r,∀t,o.dst=some t->o.quietAt P A (fun v=>Yc u v) u (A.tmps.getD t undef)/\t<A.tmps.size
 | [],a,_,_,_,h=>by
  obtain rfl:a=A:=h;exact⟨⟨rfl,rfl,fun _ _=>rfl⟩,fun o ho=>by cases ho⟩
 | o :: r,a,hin,hg,hd,h=>by
  unfold U9 at hg;simp only[Bool.and_eq_true]at hg;obtain⟨⟨⟨g1,g2⟩,g3⟩,g4⟩:=hg;have hgn:o.guard=none:=by simpa using g1
  unfold wpQuiet at h;rw[if_pos (by unfold Region.wanted;rw[hgn])]at h;obtain⟨v,hq,hr⟩:=h;obtain⟨t0,ht0⟩:∃t,o.dst=some t:=by
   cases e:o.dst with
   | none=>rw[e]at g2;cases g2
   | some t=>exact⟨t,rfl⟩
  rw[ht0]at g2;have hlt:t0<a.tmps.size:=by
   have:=List.all_eq_true.1 hd o (List.mem_cons_self ..);rw[ht0]at this;simpa using this
  have hsz:(a.put o.dst v).tmps.size=a.tmps.size:=by simp[Act.put,ht0]
  have hdr:XD r (a.put o.dst v).tmps.size=true:=by
   rw[hsz];exact List.all_eq_true.2 fun p hp=>List.all_eq_true.1 hd p (List.mem_cons_of_mem _ hp)
  obtain⟨⟨i1,i2,i3⟩,i4⟩:=VQ hsel r (a.put o.dst v) (fun p hp=>hin p (List.mem_cons_of_mem _ hp)) g4 hdr hr;have hA:∀t,(∀p∈o :: r,p.dst≠some t)->A.tmps[t]?=a.tmps[t]?:=fun t ht=>by
   rw[i3 t fun p hp=>ht p (List.mem_cons_of_mem _ hp)];have hne:t0≠t:=fun e=>ht o (List.mem_cons_self ..) (by rw[ht0,e]);simp only[Act.put,ht0,Array.getElem?_setIfInBounds_ne hne]
  refine⟨⟨i1.trans hsz,i2.trans (by simp[Act.put,ht0]),hA⟩,fun p hp t ht=>?_⟩;rcases List.mem_cons.1 hp with rfl|hp
  ·obtain rfl:t0=t:=Option.some.inj (ht0.symm.trans ht);have hv:A.tmps[t0]?=some v:=by
    rw[i3 t0 fun q hq'=>by simpa using List.all_eq_true.1 g2 q hq'];simp only[Act.put,ht0];exact Vt hlt v
   have hcong:execOp A.eval p=execOp a.eval p:=execOp_congr p (fun cs b=>hsel p (hin p (List.mem_cons_self ..)) cs b) fun x hx=>by
    cases x with
    | tmp s =>
     refine U7 (hA s fun q hq'=>?_);have:=List.all_eq_true.1 g3 (.tmp s) (by simpa using hx);simpa using List.all_eq_true.1 this q hq'
    | const v=>rfl
    | global g=>rfl
    | func f=>rfl
   have h1:=hq u ⟨⟨u,Fr.refl _ _⟩,rfl⟩;have e:(fun v=>Yc u v)=Cl u:=funext fun w'=>propext ⟨fun hs=>⟨⟨w',hs⟩,rfl⟩,fun⟨z,e⟩=>e ▸ z.s⟩;refine⟨?_,by rw[i1,hsz];exact hlt⟩;unfold Oper.quietAt at h1⊢;rw[hcong,e,Array.getD_eq_getD_getElem?,hv];exact h1
  ·exact i4 p hp t ht
end
def Ge(l:List Oper):Bool:=(List.range l.length).all fun i=>match l.toArray[i]? with|some o=>o.after.all fun e=>!Region.binds .any e || decide (e.on<i)|none=>false
theorem Gf{l:List Oper}(h:Ge l=true){i:Nat}{o:Oper}(hi:i<l.length)(ho:l.toArray[i]?=some o):∀e∈o.after,Region.binds .any e=true->e.on<i:=fun e he hb=>by
 have h1:=List.all_eq_true.1 h i (List.mem_range.2 hi);simp only[ho]at h1;have:=Array.all_eq_true'.1 h1 e he;simpa[hb]using this
def mkB(l:List Oper)(n m:Nat)(ds:List Nat):Bool:=
  Region.noSelect l.toArray && Ge l && decide (n+2*m<=l.length) && decide ds.Nodup && decide (ds.length=m) && U9 (Y4 l n m) &&
  (List.range l.length).all fun j=>match l.toArray[j]? with
    | some o => o.guard.isNone && (if qi n m j then
          (match o.dst with|some t=>!ds.contains t|none=>false) &&
          ((List.range l.length).all fun i=>(i == j) || !qi n m i || (match l.toArray[i]? with|some p=>p.dst != o.dst|none=>false)) &&
          (o.op.operands.toList.all fun x=>match x with
            | .tmp t=>!ds.contains t && (List.range l.length).all fun i=>!qi n m i || (match l.toArray[i]? with|some p=>(p.dst != some t) || o.after.any fun e=>e.on == i && Region.binds .any e|none=>false)
            | _=>true)
        else if j<n+m then o.dst == some (ds.getD (j-n) 0)
        else o.dst == none && (o.after.any fun e=>e.on == j-m && Region.binds .any e) &&
          (o.op.operands.toList.all fun x=>match x with
            | .tmp t=>(t == ds.getD (j-n-m) 0) || (!ds.contains t && (List.range l.length).all fun i=>!qi n m i || (match l.toArray[i]? with|some p=>(p.dst != some t) || o.after.any fun e=>e.on == i && Region.binds .any e|none=>false))
            | _=>true))
    | none=>false
section
variable {P:Program} {W:World} {l:List Oper} {n m:Nat} {ds:List Nat} {A:Act} {zs zs':Nat->Obj}
structure Gg (l:List Oper) (n m:Nat) (ds:List Nat) (A:Act) (W:World) (zs zs':Nat->Obj) (L:Array Bool) (a:Act) (w:World) (γ:Nat->Nat):Prop where
 sT:Yc W w
 size:a.tmps.size=A.tmps.size
 defers:a.defers=A.defers
 rest:∀t,(∀j o,qi n m j=true->l[j]?=some o->o.dst≠some t)->t ∉ ds->a.tmps[t]?=A.tmps[t]?
 done:∀j o t,qi n m j=true->l[j]?=some o->o.dst=some t->L.getD j true=true->j<l.length->a.tmps[t]?=A.tmps[t]?
 new:∀k,k<m->L.getD (n+k) true=true->a.tmps[ds.getD k 0]?=some (.pointer (some ⟨γ k,0,none⟩))/\W.heap.size<=γ k/\w.heap[γ k]?=some (if L.getD (n+m+k) true then zs' k else zs k)
 inj:∀k j,k<m->j<m->L.getD (n+k) true=true->L.getD (n+j) true=true->γ k=γ j->k=j
 ord:∀k,k<m->L.getD (n+m+k) true=true->L.getD (n+k) true=true
theorem qi_false{n m j:Nat}:qi n m j=false ↔ n<=j/\j<n+2*m:=by unfold qi;simp
theorem WM{Q':Exit->Act->World->Prop}(hB:mkB l n m ds=true)(hdA:∀d∈ds,d<A.tmps.size)
  (hop:∀j o,qi n m j=true->l[j]?=some o->∀w,Yc W w->∀t,o.dst=some t->o.quietAt P A (fun u=>Yc w u) w (A.tmps.getD t undef)/\t<A.tmps.size)
  (hnew:∀k o,k<m->l[n+k]?=some o->∀w,Yc W w->∀a:Act,(execOp a.eval o).run P w=.ok (.value (.pointer (some ⟨w.heap.size,0,none⟩))) (w.alloc (zs k)))
  (hz:∀(k:Nat) (w:World),k<m->(w.alloc (zs k)).heap[w.heap.size]?=some (zs k))
  (hst:∀k o,k<m->l[n+m+k]?=some o->∀u g,u.heap[g]?=some (zs k)->∃u',(execOp (A.put (some (ds.getD k 0)) (.pointer (some ⟨g,0,none⟩))).eval o).run P u=.ok .skip u'/\u'.heap[g]?=some (zs' k)/\Fr (fun i=>i=g) u u')
  (hdone:∀(L:Array Bool) a w γ,(∀i,i<l.length->L.getD i true=true)->Gg l n m ds A W zs zs' L a w γ->Q' .normal a w) :
  ∀(f:Nat) (L:Array Bool) (a:Act) (w:World) (γ:Nat->Nat),L.size=l.length->cnt L l.length=f->Gg l n m ds A W zs zs' L a w γ->wpAny P .any l.toArray Q' f L a w
 | 0,L,a,w,γ,hLs,hcnt,hm=>by
  refine⟨?_,hdone L a w γ (VM hcnt) hm⟩;rw[List.eq_nil_iff_forall_not_mem];intro j hj;obtain⟨hju,o,ho,_⟩:=mem_ready.1 hj;have hjl:j<l.length:=by have:=(Array.getElem?_eq_some_iff.1 ho).1;simpa using this
  rw[VM hcnt j hjl]at hju;cases hju
 | f+1,L,a,w,γ,hLs,hcnt,hm=>by
  have hB0:=hB;unfold mkB at hB;simp only[Bool.and_eq_true,decide_eq_true_eq]at hB;obtain⟨⟨⟨⟨⟨⟨hsel,hlow⟩,hnl⟩,hnd⟩,hdl⟩,_⟩,hall⟩:=hB;obtain⟨i,hi,hun,hmin⟩:=Jq (L:=L) (n:=l.length) (by omega);refine⟨fun h0=>?_,fun j hj=>?_⟩
  ·exfalso;obtain⟨o,ho⟩:∃o,l.toArray[i]?=some o:=⟨_,Array.getElem?_eq_getElem (by simpa using hi)⟩;have:i∈Region.ready .any l.toArray L:=mem_ready.2 ⟨hun,o,ho,fun e he hb=>by
    have hlt:=Gf hlow hi ho e he hb;have hin:e.on<L.size:=by omega
    have:=hmin e.on hlt;simp[hin]at this⊢;exact this⟩
   rw[h0]at this;cases this
  ·obtain⟨hju,o,ho,hwait⟩:=mem_ready.1 hj;have hjl:j<l.length:=by have:=(Array.getElem?_eq_some_iff.1 ho).1;simpa using this
   have ho':l[j]?=some o:=by simpa using ho
   have hJ:=List.all_eq_true.1 hall j (List.mem_range.2 hjl);simp only[ho,Bool.and_eq_true]at hJ;obtain⟨hg0,hJ⟩:=hJ;have hg:o.guard=none:=by simpa using hg0
   have next:∀(a':Act) (w':World) (γ':Nat->Nat),Gg l n m ds A W zs zs' (L.setIfInBounds j true) a' w' γ'->wpAny P .any l.toArray Q' f (L.setIfInBounds j true) a' w':=fun a' w' γ' hm' =>
    WM hB0 hdA hop hnew hz hst hdone f _ a' w' γ' (by simp[hLs]) (by have:=Jp hju hjl;omega) hm'
   have hset:∀k,k≠j->(L.setIfInBounds j true).getD k true=L.getD k true:=fun k hk=>getD_set_ne true (Ne.symm hk);have hself:(L.setIfInBounds j true).getD j true=true:=by simp[show j<L.size by omega]
   have hd0:∀k,k<m->ds.getD k 0∈ds:=fun k hk=>by
    rw[List.getD_eq_getElem?_getD,List.getElem?_eq_getElem (by omega)];exact List.getElem_mem _
   unfold wpOp;simp only[ho];rw[if_pos (by unfold Region.wanted;rw[hg])];refine .inl ?_;by_cases hq:qi n m j=true
   ·rw[if_pos hq]at hJ;simp only[Bool.and_eq_true]at hJ;obtain⟨⟨h2,h3⟩,h4⟩:=hJ;obtain⟨t,ht⟩:∃t,o.dst=some t:=by
     cases e:o.dst with
     | none=>rw[e]at h2;cases h2
     | some t=>exact⟨t,rfl⟩
    rw[ht]at h2;have htd:t ∉ ds:=by simpa using h2
    have hcong:execOp a.eval o=execOp A.eval o:=execOp_congr o (fun cs b=>Region.noSelect_spec hsel j o cs b ho) fun x hx=>by
     cases x with
     | tmp s =>
      have h5:=List.all_eq_true.1 h4 (.tmp s) (by simpa using hx);simp only[Bool.and_eq_true]at h5;have hsd:s ∉ ds:=by simpa using h5.1
      refine U7 ?_;by_cases hex:∃k p,qi n m k=true/\l[k]?=some p/\p.dst=some s
      ·obtain⟨k,p,hk,hp,hps⟩:=hex;have hkl:k<l.length:=(List.getElem?_eq_some_iff.1 hp).1;have h6:=List.all_eq_true.1 h5.2 k (List.mem_range.2 hkl);have hp':l.toArray[k]?=some p:=by simpa using hp
       simp only[hp',hk,Bool.not_true,Bool.false_or,Bool.or_eq_true]at h6;rcases h6 with h6|h6
       ·rw[hps]at h6;simp at h6
       ·obtain⟨e,he,hb⟩:=Array.any_eq_true'.1 h6;simp only[Bool.and_eq_true,beq_iff_eq]at hb;have:=hwait e he hb.2;rw[hb.1]at this;exact hm.done k p s hk hp hps (U8 (by omega) this) hkl
      ·exact hm.rest s (fun k p hk hp hps=>hex ⟨k,p,hk,hp,hps⟩) hsd
     | const v=>rfl
     | global g=>rfl
     | func f=>rfl
    obtain⟨hqa,hta⟩:=hop j o hq ho' w hm.sT t ht;have hq':o.quietAt P a (fun u=>Yc w u) w (A.tmps.getD t undef):=by
     unfold Oper.quietAt at hqa⊢;rw[hcong];exact hqa
    have hnj:∀k,k<2*m->n+k≠j:=fun k hk e=>by
     have:=(qi_false (n:=n) (m:=m) (j:=j)).2 ⟨by omega,by omega⟩;rw[hq]at this;cases this
    refine Gc hq' fun w' hw'=>next _ _ γ ⟨hm.sT.trans hw',by simp[Act.put,ht,hm.size],by simp[Act.put,ht,hm.defers],fun s h1 h2=>?_,fun k p s hk hp hps hl hkl=>?_,fun k hk hl=>?_,fun k k' hk hk' hl hl'=>?_,fun k hk hl=>?_⟩
    ·have hne:t≠s:=fun e=>h1 j o hq ho' (by rw[ht,e]);simp only[Act.put,ht,Array.getElem?_setIfInBounds_ne hne];exact hm.rest s h1 h2
    ·by_cases hkj:k=j
     ·subst hkj;obtain rfl:o=p:=Option.some.inj (ho'.symm.trans hp);obtain rfl:t=s:=Option.some.inj (ht.symm.trans hps);simp only[Act.put,ht];rw[Vt (by rw[hm.size];exact hta)];simp[hta]
     ·have h5:=List.all_eq_true.1 h3 k (List.mem_range.2 hkl);have hp':l.toArray[k]?=some p:=by simpa using hp
      have hkj':(k == j)=false:=by simpa using hkj
      simp only[hp',hk,hkj',Bool.not_true,Bool.or_false,Bool.false_or,bne_iff_ne]at h5;have hne:t≠s:=fun e=>h5 (by rw[hps,ht,e]);rw[hset k hkj]at hl;simp only[Act.put,ht,Array.getElem?_setIfInBounds_ne hne];exact hm.done k p s hk hp hps hl hkl
    ·rw[hset _ (hnj k (by omega))]at hl;rw[hset _ (by have:=hnj (m+k) (by omega);omega)];obtain⟨n1,n2,n3⟩:=hm.new k hk hl;have hne:t≠ds.getD k 0:=fun e=>htd (by rw[e];exact hd0 k hk);refine⟨?_,n2,hw'.kept_still n3⟩;simp only[Act.put,ht,Array.getElem?_setIfInBounds_ne hne];exact n1
    ·rw[hset _ (hnj k (by omega))]at hl;rw[hset _ (hnj k' (by omega))]at hl';exact hm.inj k k' hk hk' hl hl'
    ·rw[hset _ (by have:=hnj (m+k) (by omega);omega)]at hl;rw[hset _ (hnj k (by omega))];exact hm.ord k hk hl
   ·have hqf:qi n m j=false:=by simpa using hq
    obtain⟨hj1,hj2⟩:=qi_false.1 hqf;rw[if_neg hq]at hJ;have hqd:∀i p t,qi n m i=true->l[i]?=some p->p.dst=some t->t ∉ ds:=fun i p t hi hp hpt=>by
     have hil:i<l.length:=(List.getElem?_eq_some_iff.1 hp).1;have h1:=List.all_eq_true.1 hall i (List.mem_range.2 hil);have hp':l.toArray[i]?=some p:=by simpa using hp
     simp only[hp',Bool.and_eq_true]at h1;have h2:=h1.2;rw[if_pos hi]at h2;simp only[Bool.and_eq_true,hpt]at h2;simpa using h2.1.1
    have hdne:∀k k',k<m->k' < m->k≠k'->ds.getD k 0≠ds.getD k' 0:=fun k k' hk hk' hne e=>by
     rw[List.getD_eq_getElem?_getD,List.getD_eq_getElem?_getD,List.getElem?_eq_getElem (by omega),List.getElem?_eq_getElem (by omega)]at e;simp only[Option.getD_some]at e;rcases Nat.lt_or_gt_of_ne hne with h|h
     ·exact List.pairwise_iff_getElem.1 hnd k k' (by omega) (by omega) h e
     ·exact List.pairwise_iff_getElem.1 hnd k' k (by omega) (by omega) h e.symm
    have hqj:∀i,qi n m i=true->i≠j:=fun i hi e=>by rw[e,hqf]at hi;cases hi
    by_cases hjm:j<n+m
    · -- a variable is laid
     rw[if_pos hjm]at hJ;obtain⟨k,rfl⟩:∃k,j=n+k:=⟨j-n,by omega⟩;rw[show n+k-n=k by omega]at hJ;have hdk:o.dst=some (ds.getD k 0):=by simpa using hJ
     have hk:k<m:=by omega
     have hdA':ds.getD k 0<A.tmps.size:=hdA _ (hd0 k hk);unfold Oper.wp;rw[hnew k o hk ho' w hm.sT a,Oper.upon_value];have hnot:L.getD (n+m+k) true=false:=by
      cases e:L.getD (n+m+k) true with
      | false=>rfl
      | true=>rw[hm.ord k hk e]at hju;cases hju
     refine next _ _ (fun i=>if i=k then w.heap.size else γ i) ⟨hm.sT.trans (sA w (zs k)),by simp[Act.put,hdk,hm.size],by simp[Act.put,hdk,hm.defers],fun s h1 h2=>?_,fun i p s hi hp hps hl hil=>?_,fun k' hk' hl=>?_,fun k1 k2 h1 h2 l1 l2 e=>?_,fun k' hk' hl=>?_⟩
     ·have hne:ds.getD k 0≠s:=fun e=>h2 (by rw[<- e];exact hd0 k hk);simp only[Act.put,hdk,Array.getElem?_setIfInBounds_ne hne];exact hm.rest s h1 h2
     ·have hne:ds.getD k 0≠s:=fun e=>hqd i p s hi hp hps (by rw[<- e];exact hd0 k hk);rw[hset i (hqj i hi)]at hl;simp only[Act.put,hdk,Array.getElem?_setIfInBounds_ne hne];exact hm.done i p s hi hp hps hl hil
     ·by_cases hkk:k'=k
      ·subst hkk;rw[hset _ (by omega),hnot];refine⟨?_,?_,?_⟩
       ·simp only[Act.put,hdk,if_true];exact Vt (by rw[hm.size];exact hdA') _
       ·simp only[if_true];exact hm.sT.size
       ·simp only[if_true];exact hz k' w hk
      ·rw[hset _ (by omega)]at hl;rw[hset _ (by omega)];obtain⟨n1,n2,n3⟩:=hm.new k' hk' hl;simp only[if_neg hkk];refine⟨?_,n2,(sA w (zs k)).kept_still n3⟩;simp only[Act.put,hdk,Array.getElem?_setIfInBounds_ne (hdne k k' hk hk' (Ne.symm hkk))];exact n1
     ·have hb:∀i,i<m->i≠k->(L.setIfInBounds (n+k) true).getD (n+i) true=true->γ i≠w.heap.size:=fun i hi hik hl=>by
       rw[hset _ (by omega)]at hl;have:=(Array.getElem?_eq_some_iff.1 (hm.new i hi hl).2.2).1;omega
      by_cases e1:k1=k
      ·by_cases e2:k2=k
       ·rw[e1,e2]
       ·simp only[e1,if_true,if_neg e2]at e;exact absurd e.symm (hb k2 h2 e2 l2)
      ·by_cases e2:k2=k
       ·simp only[e2,if_true,if_neg e1]at e;exact absurd e (hb k1 h1 e1 l1)
       ·simp only[if_neg e1,if_neg e2]at e;rw[hset _ (by omega)]at l1 l2;exact hm.inj k1 k2 h1 h2 l1 l2 e
     ·rw[hset _ (by omega)]at hl;by_cases hkk:k'=k
      ·subst hkk;exact hself
      ·rw[hset _ (by omega)];exact hm.ord k' hk' hl
    · -- a variable is filled
     rw[if_neg hjm]at hJ;obtain⟨k,rfl⟩:∃k,j=n+m+k:=⟨j-(n+m),by omega⟩;rw[show n+m+k-m=n+k by omega,show n+m+k-n-m=k by omega]at hJ;simp only[Bool.and_eq_true]at hJ;obtain⟨⟨h1,h2⟩,h3⟩:=hJ;have hdo:o.dst=none:=by simpa using h1
     have hk:k<m:=by omega
     have hdA':ds.getD k 0<A.tmps.size:=hdA _ (hd0 k hk);have hlk:L.getD (n+k) true=true:=by
      obtain⟨e,he,hb⟩:=Array.any_eq_true'.1 h2;simp only[Bool.and_eq_true,beq_iff_eq]at hb;have:=hwait e he hb.2;rw[hb.1]at this;exact U8 (by omega) this
     obtain⟨n1,n2,n3⟩:=hm.new k hk hlk;rw[hju]at n3;obtain⟨u',hrun,hu1,hu2⟩:=hst k o hk ho' w (γ k) (by simpa using n3);have hcong:execOp a.eval o=execOp (A.put (some (ds.getD k 0)) (.pointer (some ⟨γ k,0,none⟩))).eval o:=execOp_congr o (fun cs b=>Region.noSelect_spec hsel _ o cs b ho) fun x hx=>by
      cases x with
      | tmp s =>
       refine U7 ?_;by_cases hsd:s=ds.getD k 0
       ·subst hsd;rw[n1];simp only[Act.put];rw[Vt hdA']
       ·simp only[Act.put,Array.getElem?_setIfInBounds_ne (Ne.symm hsd)];have h5:=List.all_eq_true.1 h3 (.tmp s) (by simpa using hx);have hsd':(s == ds.getD k 0)=false:=by simpa using hsd
        simp only[hsd',Bool.false_or,Bool.and_eq_true]at h5;have hsn:s ∉ ds:=by simpa using h5.1
        by_cases hex:∃i p,qi n m i=true/\l[i]?=some p/\p.dst=some s
        ·obtain⟨i,p,hi,hp,hps⟩:=hex;have hil:i<l.length:=(List.getElem?_eq_some_iff.1 hp).1;have h6:=List.all_eq_true.1 h5.2 i (List.mem_range.2 hil);have hp':l.toArray[i]?=some p:=by simpa using hp
         simp only[hp',hi,Bool.not_true,Bool.false_or,Bool.or_eq_true]at h6;rcases h6 with h6|h6
         ·rw[hps]at h6;simp at h6
         ·obtain⟨e,he,hb⟩:=Array.any_eq_true'.1 h6;simp only[Bool.and_eq_true,beq_iff_eq]at hb;have:=hwait e he hb.2;rw[hb.1]at this;exact hm.done i p s hi hp hps (U8 (by omega) this) hil
        ·exact hm.rest s (fun i p hi hp hps=>hex ⟨i,p,hi,hp,hps⟩) hsn
      | const v=>rfl
      | global g=>rfl
      | func f=>rfl
     unfold Oper.wp;rw[hcong,hrun,Oper.upon_skip,hdo];refine next _ _ γ ⟨Fr.trans hm.sT hu2 (fun i hi e=>by omega),hm.size,hm.defers,hm.rest,fun i p s hi hp hps hl hil=>?_,fun k' hk' hl=>?_,fun k1 k2 h1 h2 l1 l2 e=>?_,fun k' hk' hl=>?_⟩
     ·rw[hset i (hqj i hi)]at hl;exact hm.done i p s hi hp hps hl hil
     ·rw[hset _ (by omega)]at hl;obtain⟨m1,m2,m3⟩:=hm.new k' hk' hl;by_cases hkk:k'=k
      ·subst hkk;exact⟨m1,m2,by rw[hself];exact hu1⟩
      ·rw[hset _ (by omega)];exact⟨m1,m2,hu2.kept m3 (fun e=>hkk (hm.inj k' k hk' hk hl hlk e))⟩
     ·rw[hset _ (by omega)]at l1 l2;exact hm.inj k1 k2 h1 h2 l1 l2 e
     ·rw[hset _ (by omega)];by_cases hkk:k'=k
      ·subst hkk;exact hlk
      ·rw[hset _ (by omega)]at hl;exact hm.ord k' hk' hl
theorem WN{id:Nat}{Q:Exit->Act->World->Prop}{a:Act}{w:World}(n m:Nat)(ds:List Nat)(zs zs':Nat->Obj)(hm:P.follows .mixedOrders=true)(hB:mkB l n m ds=true)(hdB:XD (Y4 l n m) a.tmps.size=true)(hdd:(ds.all fun d=>decide (d<a.tmps.size))=true)
    (hnew:∀k o,k<m->l[n+k]?=some o->∀w,∀a:Act,(execOp a.eval o).run P w=.ok (.value (.pointer (some ⟨w.heap.size,0,none⟩))) (w.alloc (zs k)))
    (hz:∀(k:Nat) (w:World),k<m->(w.alloc (zs k)).heap[w.heap.size]?=some (zs k))
    (h:∃A,(∀u,Yc w u->wpQuiet P l.toArray (fun w'=>∃z:Aft u,w'=z.u) (fun a'=>a'=A) (Y4 l n m) a) /\
      (∀k o,k<m->l[n+m+k]?=some o->∀u g,u.heap[g]?=some (zs k)->∃u',(execOp (A.put (some (ds.getD k 0)) (.pointer (some ⟨g,0,none⟩))).eval o).run P u=.ok .skip u'/\u'.heap[g]?=some (zs' k)/\Fr (fun i=>i=g) u u') /\
      ∀(u:World) (γ:Nat->Nat),Yc w u->(∀k,k<m->w.heap.size<=γ k/\u.heap[γ k]?=some (zs' k))->(∀k j,k<m->j<m->γ k=γ j->k=j)->Q .normal ((List.range m).foldl (fun a k=>a.put (some (ds.getD k 0)) (.pointer (some ⟨γ k,0,none⟩))) A) u) :
    (Code.region id l.toArray true).wp P Q a w:=by
  obtain⟨A,hwalk,hst,hpost⟩:=h;have hB0:=hB;unfold mkB at hB;simp only[Bool.and_eq_true,decide_eq_true_eq]at hB;obtain⟨⟨⟨⟨⟨⟨hsel,hlow⟩,hnl⟩,hnd⟩,hdl⟩,hgood⟩,hall⟩:=hB;have hin:∀o∈Y4 l n m,o∈l.toArray:=fun o ho=>by
    unfold Y4 at ho;rcases List.mem_append.1 ho with ho|ho
    · simpa using List.mem_of_mem_take ho
    · simpa using List.mem_of_mem_drop ho
  have hsel':∀o∈l.toArray,∀cs b,o.op ≠ .select cs b:=fun o ho cs b=>by
    obtain⟨i,hi,e⟩:=Array.mem_iff_getElem.1 ho;exact Region.noSelect_spec hsel i o cs b (by rw[Array.getElem?_eq_getElem hi,e])
  have hmem:∀j o,qi n m j=true->l[j]?=some o->o∈Y4 l n m:=fun j o hj ho=>by
    unfold Y4;unfold qi at hj;simp only[Bool.or_eq_true,decide_eq_true_eq]at hj;obtain⟨hjl,e⟩:=List.getElem?_eq_some_iff.1 ho;rcases hj with hj|hj
    · exact List.mem_append_left _ (List.mem_iff_getElem?.2 ⟨j,by rw[List.getElem?_take_of_lt hj];exact ho⟩)
    · refine List.mem_append_right _ (List.mem_iff_getElem?.2 ⟨j-(n+2*m),?_⟩)
      rw[List.getElem?_drop,show n+2*m+(j-(n+2*m))=j by omega];exact ho
  obtain⟨⟨e1,e2,e3⟩,_⟩:=VQ hsel' (Y4 l n m) a hin hgood hdB (hwalk w (Fr.refl _ _));have hdA:∀d∈ds,d<A.tmps.size:=fun d hd=>by rw[e1];simpa using List.all_eq_true.1 hdd d hd
  refine wp_region_any hm ?_;have hst0:Yc w { w with drawn:=w.drawn+1 }:=(Fr.refl _ w).drew;have key:=WM (P:=P) (W:=w) (A:=A) (zs:=zs) (zs':=zs') (Q':=Q) hB0 hdA
    (fun j o hj ho u hu t ht=>(VQ hsel' (Y4 l n m) a hin hgood hdB (hwalk u hu)).2 o (hmem j o hj ho) t ht) (fun k o hk ho u _ b=>hnew k o hk ho u b) hz hst ?_ l.length (Array.replicate l.length false) a { w with drawn:=w.drawn+1 } (fun _=>0) (by simp) (Jr (Nat.le_refl _))
    ⟨hst0,e1.symm,e2.symm,fun t h1 _=>((e3 t fun o ho=>?_)).symm,fun j o t _ _ _ hl hjl=>(by simp[hjl]at hl),fun k hk hl=>(by simp[show n+k<l.length by omega]at hl),fun k j hk _ hl=>(by simp[show n+k<l.length by omega]at hl),fun k hk hl=>(by simp[show n+m+k<l.length by omega]at hl)⟩
  · simpa using key
  · intro L a' w' γ hL hm'
    have hnews:=fun k (hk:k<m)=>hm'.new k hk (hL _ (by omega));have hall2:∀k,k<m->L.getD (n+m+k) true=true:=fun k hk=>hL _ (by omega);have ea:a'=(List.range m).foldl (fun a k=>a.put (some (ds.getD k 0)) (.pointer (some ⟨γ k,0,none⟩))) A:=by
      have fold : ∀(r : Nat), r <= m -> ((List.range r).foldl (fun a k => a.put (some (ds.getD k 0)) (.pointer (some ⟨γ k, 0, none⟩))) A).tmps.size = A.tmps.size /\ ((List.range r).foldl (fun a k => a.put (some (ds.getD k 0)) (.pointer (some ⟨γ k, 0, none⟩))) A).defers = A.defers /\
          (∀t,(∀k,k<r->t≠ds.getD k 0)->((List.range r).foldl (fun a k=>a.put (some (ds.getD k 0)) (.pointer (some ⟨γ k,0,none⟩))) A).tmps[t]?=A.tmps[t]?) /\
          (∀k,k<r->((List.range r).foldl (fun a k=>a.put (some (ds.getD k 0)) (.pointer (some ⟨γ k,0,none⟩))) A).tmps[ds.getD k 0]?=some (.pointer (some ⟨γ k,0,none⟩))):=by
        intro r;induction r with
        | zero=>intro _;exact⟨rfl,rfl,fun _ _=>rfl,fun k hk=>by omega⟩
        | succ r ih =>
          intro hr;obtain⟨f1,f2,f3,f4⟩:=ih (by omega);have hdr:ds.getD r 0∈ds:=by
            rw[List.getD_eq_getElem?_getD,List.getElem?_eq_getElem (by omega)];exact List.getElem_mem _
          rw[List.range_succ,List.foldl_append];obtain⟨B,eB⟩:∃B,(List.range r).foldl (fun a k=>a.put (some (ds.getD k 0)) (.pointer (some ⟨γ k,0,none⟩))) A=B:=⟨_,rfl⟩;rw[eB]at f1 f2 f3 f4⊢;simp only[List.foldl_cons,List.foldl_nil];refine⟨by simp[Act.put,f1],by simp[Act.put,f2],fun t ht=>?_,fun k hk=>?_⟩
          · simp only[Act.put,Array.getElem?_setIfInBounds_ne (Ne.symm (ht r (by omega)))]
            exact f3 t fun k hk=>ht k (by omega)
          · by_cases hkr:k=r
            · subst hkr
              simp only[Act.put];exact Vt (by rw[f1];exact hdA _ hdr) _
            · have hne : ds.getD r 0 ≠ ds.getD k 0:=fun e => by
                rw[List.getD_eq_getElem?_getD,List.getD_eq_getElem?_getD,List.getElem?_eq_getElem (by omega),List.getElem?_eq_getElem (by omega)]at e;simp only[Option.getD_some]at e;exact List.pairwise_iff_getElem.1 hnd k r (by omega) (by omega) (by omega) e.symm
              simp only[Act.put,Array.getElem?_setIfInBounds_ne hne];exact f4 k (by omega)
      obtain⟨f1,f2,f3,f4⟩:=fold m (Nat.le_refl _);obtain⟨B,eB⟩:∃B,(List.range m).foldl (fun a k=>a.put (some (ds.getD k 0)) (.pointer (some ⟨γ k,0,none⟩))) A=B:=⟨_,rfl⟩;rw[eB]at f1 f2 f3 f4⊢;obtain⟨ts,df⟩:=a';obtain⟨Ts,Df⟩:=B;have g1:df=Df:=hm'.defers.trans f2.symm;have g2:ts=Ts:=by
        apply Array.ext_getElem?;intro t;by_cases htd:t∈ds
        · obtain⟨k,hk,e⟩:=List.mem_iff_getElem.1 htd
          have e':ds.getD k 0=t:=by rw[List.getD_eq_getElem?_getD,List.getElem?_eq_getElem hk];exact e
          have:=(hnews k (by omega)).1;rw[e']at this;have h4:=f4 k (by omega);rw[e']at h4;rw[this,h4]
        · rw[f3 t fun k hk e => htd (by
            rw[e,List.getD_eq_getElem?_getD,List.getElem?_eq_getElem (by omega)];exact List.getElem_mem _)]
          by_cases hex:∃i p,qi n m i=true/\l[i]?=some p/\p.dst=some t
          · obtain⟨i,p,hi,hp,hpt⟩:=hex
            have hil:i<l.length:=(List.getElem?_eq_some_iff.1 hp).1;exact hm'.done i p t hi hp hpt (hL i hil) hil
          · exact hm'.rest t (fun i p hi hp hpt=>hex ⟨i,p,hi,hp,hpt⟩) htd
      rw[g1,g2]
    rw[ea];exact hpost w' γ hm'.sT (fun k hk=>⟨(hnews k hk).2.1,by have:=(hnews k hk).2.2;rwa [hall2 k hk,if_pos rfl]at this⟩) (fun k j hk hj e=>hm'.inj k j hk hj (hL _ (by omega)) (hL _ (by omega)) e)
  · intro e
    have:∃i,qi n m i=true/\l[i]?=some o:=by
      unfold Y4 at ho;rcases List.mem_append.1 ho with ho|ho
      · obtain⟨i,hi,e⟩:=List.mem_iff_getElem.1 ho
        have hin':i<n:=by simp at hi;omega
        exact⟨i,by unfold qi;simp;omega,by rw[<- List.getElem?_take_of_lt hin',List.getElem?_eq_getElem hi,e]⟩
      · obtain⟨i,hi,e⟩:=List.mem_iff_getElem.1 ho
        exact⟨n+2*m+i,by unfold qi;simp,by rw[<- List.getElem?_drop,List.getElem?_eq_getElem hi,e]⟩
    obtain⟨i,hi,hoi⟩:=this;exact h1 i o hi hoi e
theorem ZD{id:Nat}{Q:Exit->Act->World->Prop}{a:Act}{w:World}{on os:Oper}(n d:Nat)(z z':Obj)(hm:P.follows .mixedOrders=true)(hB:mkB l n 1 [d]=true)(hdB:XD (Y4 l n 1) a.tmps.size=true)(hdd:decide (d<a.tmps.size)=true)
  (hon:l[n]?=some on) (hos:l[n+1]?=some os) (hnew:∀(w:World) (a:Act),(execOp a.eval on).run P w=.ok (.value (.pointer (some ⟨w.heap.size,0,none⟩))) (w.alloc z)) (hz:∀w:World,(w.alloc z).heap[w.heap.size]?=some z)
  (h:∃A,(∀u,Yc w u->wpQuiet P l.toArray (fun w'=>∃z:Aft u,w'=z.u) (fun a'=>a'=A) (Y4 l n 1) a) /\
   (∀u g,u.heap[g]?=some z->∃u',(execOp (A.put (some d) (.pointer (some ⟨g,0,none⟩))).eval os).run P u=.ok .skip u'/\u'.heap[g]?=some z'/\Fr (fun i=>i=g) u u') /\
   ∀(u:World) (g:Nat),Yc w u->w.heap.size<=g->u.heap[g]?=some z'->Q .normal (A.put (some d) (.pointer (some ⟨g,0,none⟩))) u) :
  (Code.region id l.toArray true).wp P Q a w:=by
 obtain⟨A,h1,h2,h3⟩:=h;refine WN n 1 [d] (fun _=>z) (fun _=>z') hm hB hdB (by simpa using hdd) (fun k o hk ho=>?_) (fun _ w _=>hz w) ⟨A,h1,fun k o hk ho=>?_,fun u γ hs hk _=>?_⟩
 ·obtain rfl:k=0:=by omega
  obtain rfl:on=o:=Option.some.inj (hon.symm.trans ho);exact hnew
 ·obtain rfl:k=0:=by omega
  obtain rfl:os=o:=Option.some.inj (hos.symm.trans ho);exact h2
 ·exact h3 u (γ 0) hs (hk 0 (by omega)).1 (hk 0 (by omega)).2
theorem WO{id:Nat}{Q:Exit->Act->World->Prop}{a:Act}{w:World}{on1 on2 os1 os2:Oper}(n d1 d2:Nat)(z z1 z2:Obj)(hm:P.follows .mixedOrders=true)(hB:mkB l n 2 [d1,d2]=true)(hdB:XD (Y4 l n 2) a.tmps.size=true)(hdd:decide (d1<a.tmps.size/\d2<a.tmps.size)=true)
  (hon:l[n]?=some on1/\l[n+1]?=some on2) (hos:l[n+2]?=some os1/\l[n+3]?=some os2)
  (hnew:∀(w:World) (a:Act),(execOp a.eval on1).run P w=.ok (.value (.pointer (some ⟨w.heap.size,0,none⟩))) (w.alloc z)/\(execOp a.eval on2).run P w=.ok (.value (.pointer (some ⟨w.heap.size,0,none⟩))) (w.alloc z)) (hz:∀w:World,(w.alloc z).heap[w.heap.size]?=some z)
  (h:∃A,(∀u,Yc w u->wpQuiet P l.toArray (fun w'=>∃z:Aft u,w'=z.u) (fun a'=>a'=A) (Y4 l n 2) a) /\
   (∀u g,u.heap[g]?=some z->∃u',(execOp (A.put (some d1) (.pointer (some ⟨g,0,none⟩))).eval os1).run P u=.ok .skip u'/\u'.heap[g]?=some z1/\Fr (fun i=>i=g) u u') /\
   (∀u g,u.heap[g]?=some z->∃u',(execOp (A.put (some d2) (.pointer (some ⟨g,0,none⟩))).eval os2).run P u=.ok .skip u'/\u'.heap[g]?=some z2/\Fr (fun i=>i=g) u u') /\
   ∀(u:World) (g1 g2:Nat),Yc w u->w.heap.size<=g1->w.heap.size<=g2->g1≠g2->u.heap[g1]?=some z1->u.heap[g2]?=some z2->Q .normal ((A.put (some d1) (.pointer (some ⟨g1,0,none⟩))).put (some d2) (.pointer (some ⟨g2,0,none⟩))) u) :
  (Code.region id l.toArray true).wp P Q a w:=by
 obtain⟨A,h1,h2,h3,h4⟩:=h;refine WN n 2 [d1,d2] (fun _=>z) (fun k=>if k=0 then z1 else z2) hm hB hdB (by simpa using hdd) (fun k o hk ho=>?_) (fun _ w _=>hz w) ⟨A,h1,fun k o hk ho=>?_,fun u γ hs hk hi=>?_⟩
 ·by_cases e:k=0
  ·subst e;obtain rfl:on1=o:=Option.some.inj (hon.1.symm.trans ho);exact fun w a=>(hnew w a).1
  ·obtain rfl:k=1:=by omega
   obtain rfl:on2=o:=Option.some.inj (hon.2.symm.trans ho);exact fun w a=>(hnew w a).2
 ·by_cases e:k=0
  ·subst e;obtain rfl:os1=o:=Option.some.inj (hos.1.symm.trans ho);exact h2
  ·obtain rfl:k=1:=by omega
   obtain rfl:os2=o:=Option.some.inj (hos.2.symm.trans ho);exact h3
 ·have a0:=hk 0 (by omega);have a1:=hk 1 (by omega);exact h4 u (γ 0) (γ 1) hs a0.1 a1.1 (fun e=>by have:=hi 0 1 (by omega) (by omega) e;omega) a0.2 a1.2
end
end Go.Proofs.YtcgmohldcokccaaGreatDoor
namespace Go.Proofs.YtcgmohldcokccaaGreatDoor
open Go
def UA:Op->Bool
 | .move _=>true
 | .extract _ _=>true
 | _=>false
theorem AB{P:Program}{o:Oper}(h:UA o.op=true)(ρ:Operand->Value){w:World}{C:World->Prop}{v:Value}(hq:Oper.quietUpon P C w v ((execOp ρ o).run P w))(u:World):(execOp ρ o).run P u=.ok (.value v) u:=by
 cases e:o.op<;>rw[e]at h<;>try (cases h)
 ·simp only[execOp,e,Sem.run_pure,Oper.quietUpon]at hq⊢;rw[hq.2]
 ·rename_i t ix;simp only[execOp,e,Instr.extract]at hq⊢;cases e2:ρ t<;>simp only[e2]at hq⊢<;>try (exact hq.elim)
  rename_i vs;cases e3:vs[ix]?<;>simp[e3,Oper.quietUpon]at hq⊢
  exact hq
def Gh:Op->Bool
 | .load _ _=>true
 | .nilCheck _=>true
 | .fieldAddr _ _ _=>true
 | .indexAddr _ _ _=>true
 | _=>false
theorem AC{P:Program}{o:Oper}(h:Gh o.op=true)(ρ:Operand->Value){w:World}{C:World->Prop}{v:Value}(hq:Oper.quietUpon P C w v ((execOp ρ o).run P w)):(execOp ρ o).run P w=.ok (.value v) w:=by
 have key:∀f args w',(execOp ρ o).run P w ≠ .ok (.enter f args) w'/\(execOp ρ o).run P w ≠ .ok .skip w':=fun f args w'=>by
  cases e:o.op<;>rw[e]at h<;>try (cases h)
  ·rename_i t a;simp only[execOp,e,Sem.run_bind,Sem.run_pure];cases(Instr.loadAt t (ρ a)).run P w<;>simp[Result.andThen]
  ·rename_i a;have hb:∀{α:Type} (s:Sem α) (k:α->Sem Next) (w0:World),(∀x w1,(k x).run P w1 ≠ .ok (.enter f args) w'/\(k x).run P w1 ≠ .ok .skip w')->(s >>= k).run P w0 ≠ .ok (.enter f args) w'/\(s >>= k).run P w0 ≠ .ok .skip w':=fun s k w0 hk=>by
    rw[Sem.run_bind];cases s.run P w0 with
    | ok x w1=>exact hk x w1
    | halt x w1=>simp[Result.andThen]
   have hv:∀(x:Value) w1,(pure (Next.value x):Sem Next).run P w1 ≠ .ok (.enter f args) w'/\(pure (Next.value x):Sem Next).run P w1 ≠ .ok .skip w':=fun x w1=>by simp[Sem.run_pure]
   have hp:∀w1,(runtimePanic RuntimeError.nilDeref:Sem Next).run P w1 ≠ .ok (.enter f args) w'/\(runtimePanic RuntimeError.nilDeref:Sem Next).run P w1 ≠ .ok .skip w':=fun w1=>by
    simp[runtimePanic]
   cases e2:ρ a with
   | pointer p =>
    cases p with
    | none=>simp only[execOp,e,e2];exact hp w
    | some p=>simp only[execOp,e,e2];exact hv _ w
   | func fn first captured =>
    cases fn with
    | method name =>
     simp only[execOp,e,e2];split
     ·exact hp w
     ·refine hb _ _ _ fun x w1=>hb _ _ _ fun y w2=>?_;split
      ·exact hb _ _ _ fun z w3=>hv _ w3
      ·exact hv _ w2
     ·exact hv _ w
    | _=>simp only[execOp,e,e2];exact hv _ w
   | nilIface=>simp only[execOp,e,e2];exact hp w
   | nilFunc=>simp only[execOp,e,e2];exact hp w
   | _=>simp only[execOp,e,e2];exact hv _ w
  ·rename_i t a k;simp only[execOp,e,Sem.run_bind,Sem.run_pure];cases(Instr.fieldAt t (ρ a) k).run P w<;>simp[Result.andThen]
  ·rename_i t a k;simp only[execOp,e,Sem.run_bind,Sem.run_pure];cases(Instr.indexAt t (ρ a) (ρ k)).run P w<;>simp[Result.andThen]
 generalize hr:(execOp ρ o).run P w=r at hq key⊢;cases r with
 | ok x w' =>
  cases x with
  | value u=>obtain⟨rfl,rfl⟩:=hq;rfl
  | skip=>exact absurd rfl (key 0 #[] w').2
  | enter f args=>exact absurd rfl (key f args w').1
  | _=>exact hq.elim
 | halt x w'=>exact hq.elim
def Xz(l:List Oper)(i j:Nat):Bool:=match l.toArray[i]? with|some p=>p.after.any fun e=>e.on == j && Region.binds .any e|none=>false
def XE(l:List Oper)(n:Nat):Nat->Nat->Bool
 | 0,_=>false
 | f+1,j=>Xz l n j || (List.range n).any fun i=>Xz l i j && XE l n f i
theorem Gj{l:List Oper}{n:Nat}{L:Array Bool}(h1:∀j,Xz l n j=true->L.getD j true=true)(h2:∀i j,Xz l i j=true->L.getD i true=true->L.getD j true=true):∀f j,XE l n f j=true->L.getD j true=true
 | 0,_,h=>by cases h
 | f+1,j,h=>by
  unfold XE at h;rw[Bool.or_eq_true,List.any_eq_true]at h;rcases h with h|⟨i,_,h⟩
  ·exact h1 j h
  ·rw[Bool.and_eq_true]at h;exact h2 i j h.1 (Gj h1 h2 f i h.2)
section
variable {P:Program} {W:World} {l:List Oper} {n q d:Nat} {A:Act}
abbrev Nrm(Q:Exit->Act->World->Prop):Exit->Act->World->Prop:=fun e a w=>e=.normal/\Q .normal a w
theorem AD{o:Oper}{a B:Act}{K K':Act->World->Prop}{Q Q0:Exit->Act->World->Prop}{r:Result Next}(hK:∀v w,K (B.put o.dst v) w->K' (a.put o.dst v) w)(hD:∀d w,K ({ B with defers:=d :: B.defers }.put o.dst undef) w->K' ({ a with defers:=d :: a.defers }.put o.dst undef) w)
  (h:o.upon P B K (Nrm Q0) r):o.upon P a K' Q r:=by
 cases r with
 | ok x w =>
  cases x with
  | value v=>exact hK v w h
  | skip=>exact hK undef w h
  | defer d=>exact hD d w h
  | enter f args =>
   refine Calls.mono (show Calls P f args w _ from h) ?_;intro e w2 he;cases e with
   | returned v=>exact hK v w2 he
   | panicked c=>exact absurd he.1 (by simp)
   | outgrown=>obtain⟨a0,w0,h0,_⟩:=he;cases h0
  | row row args=>exact Rows.mono (show Rows P row args w _ from h) fun v w2 he=>hK v w2 he
  | _=>exact h.elim
 | halt x w =>
  cases x<;>first|exact h.elim|exact absurd h.1 (by simp)
theorem AE{j:Nat}{o:Oper}(h:l[j]?=some o):l.drop j=o :: l.drop (j+1):=by
 obtain⟨hj,e⟩:=List.getElem?_eq_some_iff.1 h;rw[<- e];exact List.drop_eq_getElem_cons hj
end
def Vu(l:List Oper)(n r:Nat)(xs:List Nat):Bool:=
  Region.noSelect l.toArray && Ge l && decide (n+r<l.length) && U9 (l.take n) &&
  (List.range l.length).all fun j=>match l.toArray[j]? with
    | some o => o.guard.isNone && (if j < n then
          o.dst.isSome && ((List.range n).all fun i=>(i == j) || (match l.toArray[i]? with|some p=>p.dst != o.dst|none=>false)) &&
          (o.op.operands.toList.all fun x=>match x with
            | .tmp t => ((List.range l.length).all fun i => decide (i < n) || (match l.toArray[i]? with|some p => p.dst != some t|none => false)) &&
                (List.range n).all fun i=>match l.toArray[i]? with|some p=>(p.dst != some t) || o.after.any fun e=>e.on == i && Region.binds .any e|none=>false
            | _=>true) &&
          (UA o.op || (xs.contains j && XE l (n+r) 6 j) || XE l n 6 j)
        else
          (j == n || o.after.any fun e=>e.on == j-1 && Region.binds .any e) &&
          (match o.dst with|some t=>(List.range n).all fun i=>(match l.toArray[i]? with|some p=>p.dst != some t|none=>false)|none=>true) &&
          (o.op.operands.toList.all fun x=>match x with
            | .tmp t=>(List.range n).all fun i=>match l.toArray[i]? with|some p=>(p.dst != some t) || o.after.any fun e=>e.on == i && Region.binds .any e|none=>false
            | _=>true))
    | none=>false
inductive Reach (P:Program) (l:List Oper) (n:Nat) (A:Act) (W:World):Nat->Act->World->Prop
 | zero {u:World}:Yc W u->Reach P l n A W 0 A u
 | value {k:Nat} {B:Act} {u u':World} {o:Oper} {v:Value}:Reach P l n A W k B u->l[n+k]?=some o->(execOp B.eval o).run P u=.ok (.value v) u'->Reach P l n A W (k+1) (B.put o.dst v) u'
 | skip {k:Nat} {B:Act} {u u':World} {o:Oper}:Reach P l n A W k B u->l[n+k]?=some o->(execOp B.eval o).run P u=.ok .skip u'->Reach P l n A W (k+1) (B.put o.dst undef) u'
section
variable {P:Program} {W:World} {l:List Oper} {n r:Nat} {xs:List Nat} {A:Act}
structure WP (P:Program) (l:List Oper) (n r:Nat) (xs:List Nat) (A:Act) (W:World) (Q:Exit->Act->World->Prop) (L:Array Bool) (a:Act) (w:World) (k:Nat) (B:Act):Prop where
 size:a.tmps.size=B.tmps.size
 defers:a.defers=B.defers
 agree:∀t,(∀j o,j<n->l[j]?=some o->o.dst=some t->L.getD j true=true)->a.tmps[t]?=B.tmps[t]?
 keep:∀t,(∀i o,n<=i->l[i]?=some o->o.dst≠some t)->B.tmps[t]?=A.tmps[t]?
 le:n+k<=l.length
 tail:∀i,n<=i->i<l.length->L.getD i true=decide (i<n+k)
 first:0<k->∀j o,j<n->l[j]?=some o->UA o.op=false->xs.contains j=false->L.getD j true=true
 second:r<k->∀j o,j<n->l[j]?=some o->UA o.op=false->L.getD j true=true
 zero:k=0->Yc W w/\B=A
 reach:0<k->k<=r->Reach P l n A W k B w
 wp:0<k->wpList P l.toArray (Nrm Q) (l.drop (n+k)) B w
 bsize:B.tmps.size=A.tmps.size
 closed:∀i j,i<l.length->j<l.length->Xz l i j=true->L.getD i true=true->L.getD j true=true
theorem WQ{Q:Exit->Act->World->Prop}(hB:Vu l n r xs=true)
  (hN:∀k o B u,k<r->l[n+k]?=some o->Reach P l n A W k B u->(∃v u',(execOp B.eval o).run P u=.ok (.value v) u') \/ ∃u',(execOp B.eval o).run P u=.ok .skip u')
  (hX:∀j o t,j<n->xs.contains j=true->l[j]?=some o->o.dst=some t->∀k B u,0<k->k<=r->Reach P l n A W k B u->(execOp A.eval o).run P u=.ok (.value (A.tmps.getD t undef)) u)
  (hop:∀j o,j<n->l[j]?=some o->∀w,Yc W w->∀t,o.dst=some t->o.quietAt P A (fun u=>Yc w u) w (A.tmps.getD t undef)/\t<A.tmps.size)
  (hT:∀u,Yc W u->wpList P l.toArray (Nrm Q) (l.drop n) A u) :
  ∀(f:Nat) (L:Array Bool) (a:Act) (w:World) (k:Nat) (B:Act),L.size=l.length->cnt L l.length=f->WP P l n r xs A W Q L a w k B->wpAny P .any l.toArray Q f L a w
 | 0,L,a,w,k,B,hLs,hcnt,hm=>by
  have hall:=VM hcnt;have hB':=hB;unfold Vu at hB';simp only[Bool.and_eq_true,decide_eq_true_eq]at hB';obtain⟨⟨⟨_,hnl⟩,_⟩,_⟩:=hB';refine⟨?_,?_⟩
  ·rw[List.eq_nil_iff_forall_not_mem];intro j hj;obtain⟨hju,o,ho,_⟩:=mem_ready.1 hj;have hjl:j<l.length:=by have:=(Array.getElem?_eq_some_iff.1 ho).1;simpa using this
   rw[hall j hjl]at hju;cases hju
  ·have hk:l.length<=n+k:=by
    have:=hm.tail (l.length-1) (by omega) (by omega);rw[hall _ (by omega)]at this;have:=of_decide_eq_true this.symm;omega
   have hw:=hm.wp (by omega);rw[List.drop_eq_nil_of_le hk]at hw;have e:a=B:=by
    obtain⟨ts,df⟩:=a;obtain⟨Ts,Df⟩:=B;have g1:df=Df:=hm.defers;have g2:ts=Ts:=by
     apply Array.ext_getElem?;intro t;exact hm.agree t fun j o hj ho _=>hall j (by omega)
    rw[g1,g2]
   rw[e];exact hw.2
 | f+1,L,a,w,k,B,hLs,hcnt,hm=>by
  have hB0:=hB;unfold Vu at hB;simp only[Bool.and_eq_true,decide_eq_true_eq]at hB;obtain⟨⟨⟨⟨hsel,hlow⟩,hnl⟩,_⟩,hall⟩:=hB;obtain⟨i,hi,hun,hmin⟩:=Jq (L:=L) (n:=l.length) (by omega);refine⟨fun h0=>?_,fun j hj=>?_⟩
  ·exfalso;obtain⟨o,ho⟩:∃o,l.toArray[i]?=some o:=⟨_,Array.getElem?_eq_getElem (by simpa using hi)⟩;have:i∈Region.ready .any l.toArray L:=mem_ready.2 ⟨hun,o,ho,fun e he hb=>by
    have hlt:=Gf hlow hi ho e he hb;have hin:e.on<L.size:=by omega
    have:=hmin e.on hlt;simp[hin]at this⊢;exact this⟩
   rw[h0]at this;cases this
  ·obtain⟨hju,o,ho,hwait⟩:=mem_ready.1 hj;have hjl:j<l.length:=by have:=(Array.getElem?_eq_some_iff.1 ho).1;simpa using this
   have ho':l[j]?=some o:=by simpa using ho
   have hJ:=List.all_eq_true.1 hall j (List.mem_range.2 hjl);simp only[ho,Bool.and_eq_true]at hJ;obtain⟨hg0,hJ⟩:=hJ;have hg:o.guard=none:=by simpa using hg0
   have next:∀(a':Act) (w':World) (k':Nat) (B':Act),WP P l n r xs A W Q (L.setIfInBounds j true) a' w' k' B'->wpAny P .any l.toArray Q f (L.setIfInBounds j true) a' w':=fun a' w' k' B' hm' =>
    WQ hB0 hN hX hop hT f _ a' w' k' B' (by simp[hLs]) (by have:=Jp hju hjl;omega) hm'
   have hset:∀k,k≠j->(L.setIfInBounds j true).getD k true=L.getD k true:=fun k hk=>getD_set_ne true (Ne.symm hk);have hself:(L.setIfInBounds j true).getD j true=true:=by simp[show j<L.size by omega]
   have hcl:∀i j',i<l.length->j' < l.length->Xz l i j'=true->(L.setIfInBounds j true).getD i true=true->(L.setIfInBounds j true).getD j' true=true:=fun i j' hi hj' he hl=>by
    by_cases e2:j'=j
    ·rw[e2];simp[show j<L.size by omega]
    ·rw[hset j' e2];by_cases e1:i=j
     ·subst e1;unfold Xz at he;simp only[ho]at he;obtain⟨e,he1,hb⟩:=Array.any_eq_true'.1 he;simp only[Bool.and_eq_true,beq_iff_eq]at hb;have:=hwait e he1 hb.2;rw[hb.1]at this;exact U8 (by omega) this
     ·rw[hset i e1]at hl;exact hm.closed i j' hi hj' he hl
   have hmore:∀k,L.getD k true=true->(L.setIfInBounds j true).getD k true=true:=fun k hk=>by
    by_cases e:k=j
    ·rw[e];exact hself
    ·rw[hset k e];exact hk
   -- what an operation waits for is done
   have hdone:∀i,i<l.length->(o.after.any fun e=>e.on == i && Region.binds .any e)=true->L.getD i true=true:=fun i hi h=>by
    obtain⟨e,he,hb⟩:=Array.any_eq_true'.1 h;simp only[Bool.and_eq_true,beq_iff_eq]at hb;have:=hwait e he hb.2;rw[hb.1]at this;exact U8 (by omega) this
   have hprod:∀s,((List.range n).all fun i=>match l.toArray[i]? with|some p=>(p.dst != some s) || o.after.any fun e=>e.on == i && Region.binds .any e|none=>false)=true->∀i p,i<n->l[i]?=some p->p.dst=some s->L.getD i true=true:=fun s h i p hi hp hps=>by
    have h6:=List.all_eq_true.1 h i (List.mem_range.2 hi);have hp':l.toArray[i]?=some p:=by simpa using hp
    simp only[hp',Bool.or_eq_true]at h6;rcases h6 with h6|h6
    ·rw[hps]at h6;simp at h6
    ·exact hdone i (by omega) h6
   unfold wpOp;simp only[ho];rw[if_pos (by unfold Region.wanted;rw[hg])];refine .inl ?_;by_cases hjn:j<n
   ·rw[if_pos hjn]at hJ;simp only[Bool.and_eq_true]at hJ;obtain⟨⟨⟨h1,h2⟩,h3⟩,h4⟩:=hJ;obtain⟨t,ht⟩:∃t,o.dst=some t:=Option.isSome_iff_exists.1 h1;have hcong:execOp a.eval o=execOp A.eval o:=execOp_congr o (fun cs b=>Region.noSelect_spec hsel j o cs b ho) fun x hx=>by
     cases x with
     | tmp s =>
      have h5:=List.all_eq_true.1 h3 (.tmp s) (by simpa using hx);simp only[Bool.and_eq_true]at h5;refine U7 ?_;rw[hm.agree s fun i p hi hp hps=>hprod s h5.2 i p hi hp hps];refine hm.keep s fun i p hi hp hps=>?_;have hil:i<l.length:=(List.getElem?_eq_some_iff.1 hp).1;have h6:=List.all_eq_true.1 h5.1 i (List.mem_range.2 hil);have hp':l.toArray[i]?=some p:=by simpa using hp
      simp only[hp',show ¬i<n by omega,decide_false,Bool.false_or]at h6;rw[hps]at h6;simp at h6
     | const v=>rfl
     | global g=>rfl
     | func f=>rfl
    have hta:=(hop j o hjn ho' W (Fr.refl _ _) t ht).2;have hAt:A.tmps[t]?=some (A.tmps.getD t undef):=by simp[hta]
    have htail:∀i p,n<=i->l[i]?=some p->p.dst≠some t:=fun i p hi hp hps=>by
     have hil:i<l.length:=(List.getElem?_eq_some_iff.1 hp).1;have h5:=List.all_eq_true.1 hall i (List.mem_range.2 hil);have hp':l.toArray[i]?=some p:=by simpa using hp
     simp only[hp',Bool.and_eq_true]at h5;have h6:=h5.2;rw[if_neg (by omega)]at h6;simp only[Bool.and_eq_true,hps]at h6;have h7:=List.all_eq_true.1 h6.1.2 j (List.mem_range.2 hjn);simp only[ho,ht]at h7;simp at h7
    have hagree:∀s,(∀i p,i<n->l[i]?=some p->p.dst=some s->(L.setIfInBounds j true).getD i true=true)->(a.put o.dst (A.tmps.getD t undef)).tmps[s]?=B.tmps[s]?:=fun s hs=>by
     by_cases e:t=s
     ·subst e;simp only[Act.put,ht];rw[Vt (by rw[hm.size,hm.bsize];exact hta),hm.keep t htail,hAt]
     ·simp only[Act.put,ht,Array.getElem?_setIfInBounds_ne e];refine hm.agree s fun i p hi hp hps=>?_;have hij:i≠j:=fun e2=>by
       subst e2;rw[ho']at hp;obtain rfl:o=p:=Option.some.inj hp;exact e (Option.some.inj (ht.symm.trans hps))
      rw[<- hset i hij];exact hs i p hi hp hps
    have htl:∀i,n<=i->i<l.length->(L.setIfInBounds j true).getD i true=decide (i<n+k):=fun i hi hil=>by
     rw[hset i (by omega)];exact hm.tail i hi hil
    by_cases hk:k=0
    ·obtain⟨hst,hBA⟩:=hm.zero hk;have hqa:=(hop j o hjn ho' w hst t ht).1;have hq':o.quietAt P a (fun u=>Yc w u) w (A.tmps.getD t undef):=by
      unfold Oper.quietAt at hqa⊢;rw[hcong];exact hqa
     refine Gc hq' fun w' hw'=>next _ w' k B ⟨by simp[Act.put,ht,hm.size],by simp[Act.put,ht,hm.defers],hagree,hm.keep,hm.le,htl,fun h=>by omega,fun h=>by omega,fun _=>⟨hst.trans hw',hBA⟩,fun h=>by omega,fun h=>by omega,hm.bsize,hcl⟩
    ·have hrun:(execOp A.eval o).run P w=.ok (.value (A.tmps.getD t undef)) w:=by
      cases e:UA o.op with
      | true=>exact AB e A.eval (hop j o hjn ho' W (Fr.refl _ _) t ht).1 w
      | false =>
       by_cases hkq:k<=r
       ·cases e2:xs.contains j with
        | true=>exact hX j o t hjn e2 ho' ht k B w (by omega) hkq (hm.reach (by omega) hkq)
        | false=>rw[hm.first (by omega) j o hjn ho' e e2]at hju;cases hju
       ·rw[hm.second (by omega) j o hjn ho' e]at hju;cases hju
     unfold Oper.wp;rw[hcong,hrun,Oper.upon_value];exact next _ w k B ⟨by simp[Act.put,ht,hm.size],by simp[Act.put,ht,hm.defers],hagree,hm.keep,hm.le,htl,fun h i p hi hp h1 h2=>hmore i (hm.first h i p hi hp h1 h2),fun h i p hi hp h1=>hmore i (hm.second h i p hi hp h1),fun h=>absurd h hk,hm.reach,hm.wp,hm.bsize,hcl⟩
   ·rw[if_neg hjn]at hJ;simp only[Bool.and_eq_true]at hJ;obtain⟨⟨h1,h2⟩,h3⟩:=hJ;have hjk:j=n+k:=by
     have h5:=hm.tail j (by omega) hjl;rw[hju]at h5;have h6:¬j<n+k:=by simpa using h5.symm
     by_cases e:j=n
     ·omega
     ·have e':(j == n)=false:=by simpa using e
      rw[e',Bool.false_or]at h1;have h7:=hdone (j-1) (by omega) h1;rw[hm.tail (j-1) (by omega) (by omega)]at h7;have:=of_decide_eq_true h7;omega
    have hcong:execOp a.eval o=execOp B.eval o:=execOp_congr o (fun cs b=>Region.noSelect_spec hsel j o cs b ho) fun x hx=>by
     cases x with
     | tmp s=>exact U7 (hm.agree s fun i p hi hp hps=>hprod s (List.all_eq_true.1 h3 (.tmp s) (by simpa using hx)) i p hi hp hps)
     | const v=>rfl
     | global g=>rfl
     | func f=>rfl
    have hw:wpList P l.toArray (Nrm Q) (o :: l.drop (n+(k+1))) B w:=by
     have e:l.drop (n+k)=o :: l.drop (n+(k+1)):=by rw[<- hjk,AE ho',hjk];rfl
     rw[<- e];by_cases hk:k=0
     ·obtain⟨hst,hBA⟩:=hm.zero hk;subst hk;rw[hBA];exact hT w hst
     ·exact hm.wp (by omega)
    unfold wpList at hw;rw[if_pos (by unfold Region.wanted;rw[hg])]at hw;have hw2:o.upon P B (wpList P l.toArray (Nrm Q) (l.drop (n+(k+1)))) (Nrm Q) ((execOp B.eval o).run P w):=by
     rcases hw with hw|⟨_,a0,w0,h0,_⟩
     ·exact hw
     ·cases h0
    have hsm:∀i j',Xz l i j'=true->i<l.length/\j' < l.length:=fun i j' he=>by
     unfold Xz at he;cases eo:l.toArray[i]? with
     | none=>rw[eo]at he;cases he
     | some q0 =>
      have hil:i<l.length:=by have:=(Array.getElem?_eq_some_iff.1 eo).1;simpa using this
      simp only[eo]at he;obtain⟨e,he1,hb⟩:=Array.any_eq_true'.1 he;simp only[Bool.and_eq_true,beq_iff_eq]at hb;have:=Gf hlow hil eo e he1 hb.2;exact⟨hil,by omega⟩
    have hkind:∀i p,i<n->l[i]?=some p->(UA p.op || (xs.contains i && XE l (n+r) 6 i) || XE l n 6 i)=true:=fun i p hi hp=>by
     have h5:=List.all_eq_true.1 hall i (List.mem_range.2 (by omega));have hp':l.toArray[i]?=some p:=by simpa using hp
     simp only[hp',Bool.and_eq_true]at h5;have h6:=h5.2;rw[if_pos hi]at h6;simp only[Bool.and_eq_true]at h6;exact h6.2
    have hedge:∀j',Xz l j j'=true->L.getD j' true=true:=fun j' he=>by
     have hj':=(hsm j j' he).2;unfold Xz at he;simp only[ho]at he;exact hdone j' hj' he
    have hreachj:∀i,XE l j 6 i=true->L.getD i true=true:=fun i h7=>Gj (n:=j) hedge (fun i1 j1 he hl1=>hm.closed i1 j1 (hsm i1 j1 he).1 (hsm i1 j1 he).2 he hl1) 6 i h7;have hreach0:k=0->∀i,XE l n 6 i=true->L.getD i true=true:=fun hk i h7=>hreachj i (by rw[hjk,hk];exact h7);have hreachq:k=r->∀i,XE l (n+r) 6 i=true->L.getD i true=true:=fun hk i h7=>hreachj i (by rw[hjk,hk];exact h7);have step:∀(a1 B1:Act) (w1:World),a1.tmps.size=B1.tmps.size->B1.tmps.size=A.tmps.size->a1.defers=B1.defers->(∀s,(∀i p,i<n->l[i]?=some p->p.dst=some s->L.getD i true=true)->a1.tmps[s]?=B1.tmps[s]?)->(∀s,(∀i p,n<=i->l[i]?=some p->p.dst≠some s)->B1.tmps[s]?=A.tmps[s]?)->wpList P l.toArray (Nrm Q) (l.drop (n+(k+1))) B1 w1->(k+1<=r->Reach P l n A W (k+1) B1 w1)->wpAny P .any l.toArray Q f (L.setIfInBounds j true) a1 w1:=fun a1 B1 w1 g1 g2 g3 g4 g5 g6 g7 =>
     next a1 w1 (k+1) B1 ⟨g1,g3,fun s hs=>g4 s fun i p hi hp hps=>by rw[<- hset i (by omega)];exact hs i p hi hp hps,g5,by omega,fun i hi hil=>by
      by_cases e:i=j
      ·rw[e,hself];symm;simp;omega
      ·rw[hset i e,hm.tail i hi hil];have:(i<n+k) ↔ (i<n+(k+1)):=by omega
       simp[this],
      fun _ i p hi hp hpp hpl=>by
       rw[hset i (by omega)];by_cases hk:k=0
       ·have h6:=hkind i p hi hp;rw[hpp,hpl]at h6;exact hreach0 hk i (by simpa using h6)
       ·exact hm.first (by omega) i p hi hp hpp hpl,
      fun hq2 i p hi hp hpp=>by
       rw[hset i (by omega)];by_cases hk:k=r
       ·have h6:=hkind i p hi hp;rw[hpp,Bool.false_or,Bool.or_eq_true,Bool.and_eq_true]at h6;rcases h6 with h6|h6
        ·exact hreachq hk i h6.2
        ·by_cases hk0:k=0
         ·exact hreach0 hk0 i h6
         ·refine Gj (n:=n) (fun j' he=>hm.closed n j' (by omega) (hsm n j' he).2 he ?_) (fun i1 j1 he hl1=>hm.closed i1 j1 (hsm i1 j1 he).1 (hsm i1 j1 he).2 he hl1) 6 i h6;rw[hm.tail n (by omega) (by omega)];simp;omega
       ·exact hm.second (by omega) i p hi hp hpp,
      fun h=>by omega,fun _=>g7,fun _=>g6,g2,hcl⟩
    have put:∀(a1 B1:Act) (v:Value) (w1:World),a1.tmps=a.tmps->B1.tmps=B.tmps->a1.defers=B1.defers->wpList P l.toArray (Nrm Q) (l.drop (n+(k+1))) (B1.put o.dst v) w1->(k+1<=r->Reach P l n A W (k+1) (B1.put o.dst v) w1)->wpAny P .any l.toArray Q f (L.setIfInBounds j true) (a1.put o.dst v) w1:=fun a1 B1 v w1 e1 e2 e3 hw1 hs1=>by
     cases ht:o.dst with
     | none =>
      rw[ht]at hw1 hs1;exact step a1 B1 w1 (by rw[e1,e2];exact hm.size) (by rw[e2];exact hm.bsize) e3 (fun s hs=>by rw[e1,e2];exact hm.agree s hs) (fun s hs=>by rw[e2];exact hm.keep s hs) hw1 hs1
     | some t =>
      rw[ht]at hw1 hs1;refine step _ _ w1 (by simp[Act.put,e1,e2,hm.size]) (by simp[Act.put,e2,hm.bsize]) (by simp[Act.put,e3]) (fun s hs=>?_) (fun s hs=>?_) hw1 hs1
      ·by_cases e:t=s
       ·subst e;simp only[Act.put,e1,e2];by_cases hlt:t<a.tmps.size
        ·rw[Vt hlt,Vt (by rw[<- hm.size];exact hlt)]
        ·rw[Array.getElem?_eq_none (show(a.tmps.setIfInBounds t v).size<=t by rw[Array.size_setIfInBounds];exact Nat.le_of_not_lt hlt),Array.getElem?_eq_none (show(B.tmps.setIfInBounds t v).size<=t by rw[Array.size_setIfInBounds,<- hm.size];exact Nat.le_of_not_lt hlt)]
       ·simp only[Act.put,Array.getElem?_setIfInBounds_ne e,e1,e2];exact hm.agree s hs
      ·have hne:t≠s:=fun e=>hs j o (by omega) ho' (by rw[ht,e]);simp only[Act.put,Array.getElem?_setIfInBounds_ne hne,e2];exact hm.keep s hs
    unfold Oper.wp;rw[hcong];by_cases hk:k<r
    ·have hR:Reach P l n A W k B w:=by
      by_cases hk0:k=0
      ·obtain⟨hst,hBA⟩:=hm.zero hk0;subst hk0;rw[hBA];exact .zero hst
      ·exact hm.reach (by omega) (by omega)
     have hok:l[n+k]?=some o:=by rw[<- ho',hjk]
     rcases hN k o B w hk hok hR with⟨v,u',hrun⟩|⟨u',hrun⟩
     ·rw[hrun,Oper.upon_value]at hw2;rw[hrun,Oper.upon_value];exact put a B v u' rfl rfl hm.defers hw2 (fun _=>.value hR hok hrun)
     ·rw[hrun,Oper.upon_skip]at hw2;rw[hrun,Oper.upon_skip];exact put a B undef u' rfl rfl hm.defers hw2 (fun _=>.skip hR hok hrun)
    ·exact AD (fun v w1 hw1=>put a B v w1 rfl rfl hm.defers hw1 (fun h=>by omega)) (fun d w1 hw1=>put { a with defers:=d :: a.defers } { B with defers:=d :: B.defers } undef w1 rfl rfl (by simp[hm.defers]) hw1 (fun h=>by omega)) hw2
theorem Ky{id:Nat}{Q:Exit->Act->World->Prop}{a:Act}{w:World}(n r:Nat)(xs:List Nat)(hm:P.follows .mixedOrders=true)(hB:Vu l n r xs=true)(hdB:XD (l.take n) a.tmps.size=true)
  (h:∃A,(∀u,Yc w u->wpQuiet P l.toArray (fun w'=>∃z:Aft u,w'=z.u) (fun a'=>a'=A) (l.take n) a)/\(∀k o B u,k<r->l[n+k]?=some o->Reach P l n A w k B u->(∃v u',(execOp B.eval o).run P u=.ok (.value v) u') \/ ∃u',(execOp B.eval o).run P u=.ok .skip u') /\
   (∀j o t,j<n->xs.contains j=true->l[j]?=some o->o.dst=some t->∀k B u,0<k->k<=r->Reach P l n A w k B u->(execOp A.eval o).run P u=.ok (.value (A.tmps.getD t undef)) u)/\∀u,Yc w u->wpList P l.toArray (Nrm Q) (l.drop n) A u) :
  (Code.region id l.toArray true).wp P Q a w:=by
 obtain⟨A,hwalk,hN,hX,hT⟩:=h;have hB0:=hB;unfold Vu at hB;simp only[Bool.and_eq_true,decide_eq_true_eq]at hB;obtain⟨⟨⟨⟨hsel,hlow⟩,hnl⟩,hgood⟩,hall⟩:=hB;have hin:∀o∈l.take n,o∈l.toArray:=fun o ho=>by simpa using List.mem_of_mem_take ho
 have hsel':∀o∈l.toArray,∀cs b,o.op ≠ .select cs b:=fun o ho cs b=>by
  obtain⟨i,hi,e⟩:=Array.mem_iff_getElem.1 ho;exact Region.noSelect_spec hsel i o cs b (by rw[Array.getElem?_eq_getElem hi,e])
 have hmem:∀j o,j<n->l[j]?=some o->o∈l.take n:=fun j o hj ho=>List.mem_iff_getElem?.2 ⟨j,by rw[List.getElem?_take_of_lt hj];exact ho⟩;obtain⟨⟨e1,e2,e3⟩,_⟩:=VQ hsel' (l.take n) a hin hgood hdB (hwalk w (Fr.refl _ _));refine wp_region_any hm ?_;have hst0:Yc w { w with drawn:=w.drawn+1 }:=(Fr.refl _ w).drew;have key:=WQ (P:=P) (W:=w) (A:=A) (Q:=Q) hB0 hN hX (fun j o hj ho u hu t ht=>(VQ hsel' (l.take n) a hin hgood hdB (hwalk u hu)).2 o (hmem j o hj ho) t ht) hT l.length (Array.replicate l.length false) a { w with drawn:=w.drawn+1 } 0 A (by simp) (Jr (Nat.le_refl _))
  ⟨e1.symm,e2.symm,fun t ht=>(e3 t fun o ho e=>?_).symm,fun _ _=>rfl,by omega,fun i hi hil=>by simp[hil];omega,fun h=>by omega,fun h=>by omega,fun _=>⟨hst0,rfl⟩,fun h=>by omega,fun h=>by omega,rfl,fun i j hi _ _ hl=>by simp[hi]at hl⟩
 ·simpa using key
 ·obtain⟨j,hj,e4⟩:=List.mem_iff_getElem.1 ho;have hjn:j<n:=by simp at hj;omega
  have:=ht j o hjn (by rw[<- List.getElem?_take_of_lt hjn,List.getElem?_eq_getElem hj,e4]) e;simp[show j<l.length by omega]at this
def Gl(l:List Oper)(n:Nat):List Nat:=(List.range n).filter fun j=>match l[j]? with|some o=>Gh o.op|none=>false
theorem Kz{id:Nat}{Q:Exit->Act->World->Prop}{a:Act}{w:World}(n q:Nat)(hm:P.follows .mixedOrders=true)(hB:(decide (q<=1) && Vu l n q (Gl l n))=true)(hdB:XD (l.take n) a.tmps.size=true)
  (h:∃A,(∀u,Yc w u->wpQuiet P l.toArray (fun w'=>∃z:Aft u,w'=z.u) (fun a'=>a'=A) (l.take n) a)/\(q=1->∀o,l[n]?=some o->∀u,Yc w u->∃v u',(execOp A.eval o).run P u=.ok (.value v) u'/\Yc u u')/\∀u,Yc w u->wpList P l.toArray (Nrm Q) (l.drop n) A u) :
  (Code.region id l.toArray true).wp P Q a w:=by
 obtain⟨A,h1,hS,hT⟩:=h;rw[Bool.and_eq_true,decide_eq_true_eq]at hB;obtain⟨hq,hB⟩:=hB;have hB0:=hB;unfold Vu at hB0;simp only[Bool.and_eq_true,decide_eq_true_eq]at hB0;obtain⟨⟨⟨⟨hsel,_⟩,_⟩,hgood⟩,_⟩:=hB0;have hin:∀o∈l.take n,o∈l.toArray:=fun o ho=>by simpa using List.mem_of_mem_take ho
 have hsel':∀o∈l.toArray,∀cs b,o.op ≠ .select cs b:=fun o ho cs b=>by
  obtain⟨i,hi,e⟩:=Array.mem_iff_getElem.1 ho;exact Region.noSelect_spec hsel i o cs b (by rw[Array.getElem?_eq_getElem hi,e])
 refine Ky n q (Gl l n) hm hB hdB ⟨A,h1,fun k o B u hk ho hR=>?_,fun j o t hj hx ho ht k B u h0 hk hR=>?_,hT⟩
 ·obtain rfl:k=0:=by omega
  cases hR with
  | zero hs =>
   obtain⟨v,u',e,_⟩:=hS (by omega) o ho u hs;exact .inl ⟨v,u',e⟩
 ·have hs:Yc w u:=by
   obtain rfl:k=1:=by omega
   cases hR with
   | value r ho hr =>
    cases r with
    | zero hs =>
     obtain⟨v,u',e,hs'⟩:=hS (by omega) _ ho _ hs;rw[e]at hr;simp only[Result.ok.injEq,Next.value.injEq]at hr;obtain⟨_,rfl⟩:=hr;exact hs.trans hs'
   | skip r ho hr =>
    cases r with
    | zero hs =>
     obtain⟨v,u',e,_⟩:=hS (by omega) _ ho _ hs;rw[e]at hr;simp at hr
  have hp:Gh o.op=true:=by
   have:=hx;unfold Gl at this;simp[ho]at this;exact this.2
  exact AC hp A.eval ((VQ hsel' (l.take n) a hin hgood hdB (h1 u hs)).2 o (List.mem_iff_getElem?.2 ⟨j,by rw[List.getElem?_take_of_lt hj];exact ho⟩) t ht).1
theorem Js{id:Nat}{Q:Exit->Act->World->Prop}{a:Act}{w:World}(n:Nat)(hm:P.follows .mixedOrders=true)(hB:Vu l n 0 []=true)(hdB:XD (l.take n) a.tmps.size=true)
  (h:∃A,(∀u,Yc w u->wpQuiet P l.toArray (fun w'=>∃z:Aft u,w'=z.u) (fun a'=>a'=A) (l.take n) a)/\∀u,Yc w u->wpList P l.toArray (Nrm Q) (l.drop n) A u) :
  (Code.region id l.toArray true).wp P Q a w:=by
 obtain⟨A,h1,h2⟩:=h;exact Ky n 0 [] hm hB hdB ⟨A,h1,fun k _ _ _ hk=>by omega,fun _ _ _ _ _ _ _ k _ _ h0 hk=>by omega,h2⟩
end
end Go.Proofs.YtcgmohldcokccaaGreatDoor
