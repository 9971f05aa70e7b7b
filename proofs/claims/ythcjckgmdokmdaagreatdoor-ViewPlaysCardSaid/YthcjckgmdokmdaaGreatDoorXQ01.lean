import Derived.Lib.SlBytesRow
import Derived.StillTail
import Derived.Deep.QuietTactic
import Derived.BigQuiet
import Derived.Test.YthcjckgmdokmdaaGreatDoorXQ00
import Derived.Deep.RegionWith
import Derived.BigRegion
import Derived.Laws.ResultCell
import Derived.KernelRfl
import Derived.Laws.StructEq
import Derived.Lib.Strings
import Derived.WalkMore
import Derived.Laws.MakeOwn
set_option maxRecDepth 100000
set_option maxHeartbeats 8000000
namespace Go.Proofs.YthcjckgmdokmdaaGreatDoor
open Go.RowKit
theorem hid {p:Prop} (h:p):Hid p:=h
structure Fr (F:Nat->Prop) (w w':World):Prop where
 os:w'.os=w.os
 tape:w'.tape=w.tape
 output:w'.output=w.output
 size:w.heap.size<=w'.heap.size
 block:∀ k,k<w.heap.size->¬ F k->w'.heap[k]?=w.heap[k]?
theorem Fr.refl (F:Nat->Prop) (w:World):Fr F w w:=⟨rfl,rfl,rfl,Nat.le_refl _,fun _ _ _=>rfl⟩
theorem Fr.mono {F G:Nat->Prop} {w w':World} (h:Fr F w w') (hG:∀ k,k<w.heap.size->F k->G k):Fr G w w' :=
 ⟨h.os,h.tape,h.output,h.size,fun k hk hn=>h.block k hk fun hf=>hn (hG k hk hf)⟩
theorem Fr.trans {F G:Nat->Prop} {a b c:World} (h:Fr F a b) (k:Fr G b c) (hG:∀ k,k<a.heap.size->G k->F k):Fr F a c :=
 ⟨k.os.trans h.os,k.tape.trans h.tape,k.output.trans h.output,Nat.le_trans h.size k.size,
  fun i hi hn=>(k.block i (Nat.lt_of_lt_of_le hi h.size) fun hg=>hn (hG i hi hg)).trans (h.block i hi hn)⟩
theorem Fr.drew {F:Nat->Prop} {a w:World} (h:Fr F a w):Fr F a w.drew:=⟨h.os,h.tape,h.output,h.size,h.block⟩
theorem Fr.alloc {F:Nat->Prop} {a w:World} (h:Fr F a w) (o:Obj):Fr F a (w.alloc o) :=
 ⟨h.os,h.tape,h.output,by have:=h.size; simp; omega,fun k hk hn=>(Below.heap_alloc _ _ _ (Nat.lt_of_lt_of_le hk h.size)).trans (h.block k hk hn)⟩
theorem Fr.setCell {F:Nat->Prop} {a w:World} (h:Fr F a w) (p:Addr) (u:Value) (hp:F p.block\/a.heap.size<=p.block):Fr F a (w.setCell p u) :=
 ⟨h.os,h.tape,h.output,by have:=h.size; simpa [World.setCell] using this,fun k hk hn=>by
  rw [Below.heap_setCell _ _ _ _ (fun e=>by subst e; rcases hp with hp | hp; exact hn hp; omega)];exact h.block k hk hn⟩
theorem Fr.setRow {F:Nat->Prop} {a w:World} (h:Fr F a w) (g:Nat) (cs:Array Value) (hp:F g\/a.heap.size<=g):Fr F a (w.setRow g cs) :=
 ⟨h.os,h.tape,h.output,by have:=h.size; simpa using this,fun k hk hn=>by
  rw [setRow_other w g k cs (fun e=>by subst e; rcases hp with hp | hp; exact hn hp; omega)];exact h.block k hk hn⟩
theorem Fr.below {F:Nat->Prop} {B:Nat} {W w':World} (h:Fr F W w') (hF:∀ k,F k->B<=k) (hB:B<=W.heap.size):Below B W w' :=
 ⟨h.os,h.tape,h.output,h.size,fun k hk=>h.block k (by omega) fun hf=>by have:=hF k hf; omega⟩
theorem Fr.cell {F:Nat->Prop} {w w':World} (h:Fr F w w') {p:Addr} (hp:p.block<w.heap.size) (hn:¬ F p.block):w'.cell? p=w.cell? p :=
 World.cell?_of_block (w:=w) (h.block p.block hp hn)
theorem Fr.kept {F:Nat->Prop} {w w':World} (h:Fr F w w') {k:Nat} {o:Obj} (hk:w.heap[k]?=some o) (hn:¬ F k):w'.heap[k]?=some o :=
 (h.block k (Array.getElem?_eq_some_iff.1 hk).1 hn).trans hk
abbrev Yc (w w':World):Prop:=Fr (fun _=>False) w w'
theorem Fr.kept_still {w w':World} (h:Yc w w') {k:Nat} {o:Obj} (hk:w.heap[k]?=some o):w'.heap[k]?=some o:=h.kept hk (fun e=>e)
theorem Yz {w:World} {k:Nat} {o:Obj} (hk:w.heap[k]?=some o):k<w.heap.size:=(Array.getElem?_eq_some_iff.1 hk).1
theorem Yc.to {F:Nat->Prop} {w w':World} (h:Yc w w'):Fr F w w':=h.mono fun _ _ e=>e.elim
theorem Yc.below {w w':World} (h:Yc w w'):Below w.heap.size w w':=Fr.below h (fun _ e=>e.elim) (Nat.le_refl _)
theorem Yc.undrew {w w':World} (h:Yc w.drew w'):Yc w w':=⟨h.os,h.tape,h.output,h.size,h.block⟩
theorem Yc.trans {a b c:World} (h:Yc a b) (k:Yc b c):Yc a c:=Fr.trans h k fun _ _ e=>e
theorem Yc.alloc (w:World) (o:Obj):Yc w (w.alloc o):=(Fr.refl _ w).alloc o
theorem aL (w:World) (o:Obj):Yc w (w.alloc o):=Yc.alloc w o
abbrev Ya (f:FuncId) (a:Array Value) (w:World) (v:Value):Prop:=Calls Tryz.prog f a w fun e w'=>e=.returned v/\Yc w w'
abbrev Yb (f:FuncId) (a:Array Value) (w:World) (v:Value):Prop:=Calls Tryz.prog f a w fun e w'=>e=.returned v/\w'=w
end Go.Proofs.YthcjckgmdokmdaaGreatDoor
namespace Go.RowKit
theorem Hid.o {p:Prop} (h:Hid p):p:=h.out
end Go.RowKit
namespace Go.Proofs.YthcjckgmdokmdaaGreatDoor
def Kx (ao:Option Addr) (cap i:Nat):Option Addr:=if cap=i then ao else ao.map (·.add (i*1))
theorem add_plain (b o j:Nat):(⟨b,o,none⟩:Addr).add j=⟨b,o+j,none⟩:=by unfold Addr.add; split <;> simp_all
theorem Ec (ao:Option Addr) (cap:Nat):Kx ao cap 0=ao:=by
 unfold Kx;split
 ·rfl
 ·cases ao with
  | none=>rfl
  | some a=>simp [Addr.add]
section
variable {P:Program}
end
section
variable {P:Program}
end
end Go.Proofs.YthcjckgmdokmdaaGreatDoor
namespace Go.Proofs.YthcjckgmdokmdaaGreatDoor
open Go
def cnt (L:Array Bool):Nat->Nat
 | 0=>0
 | k+1=>cnt L k+(if L.getD k true then 0 else 1)
theorem QZ {L:Array Bool} {j:Nat}:∀ {n:Nat},n<=j->cnt (L.setIfInBounds j true) n=cnt L n
 | 0,_=>rfl
 | n+1,h=>by
  unfold cnt;rw [QZ (by omega),getD_set_ne true (by omega)]
theorem V0 {L:Array Bool} {j:Nat} (hu:L.getD j true=false):∀ {n:Nat},j<n->cnt (L.setIfInBounds j true) n+1=cnt L n
 | 0,h=>by omega
 | n+1,h=>by
  unfold cnt;by_cases hj:j=n
  ·subst hj;have hlt:j<L.size:=by
    rcases Nat.lt_or_ge j L.size with h' | h'
    ·exact h'
    ·simp [Array.getElem?_eq_none h'] at hu
   rw [QZ (Nat.le_refl _),hu];simp [hlt]
  ·rw [getD_set_ne true hj];have:=V0 hu (n:=n) (by omega);omega
theorem Vc {L:Array Bool}:∀ {n:Nat},cnt L n=0->∀ i,i<n->L.getD i true=true
 | 0,_,i,h=>by omega
 | n+1,hc,i,h=>by
  unfold cnt at hc;by_cases hi:i=n
  ·subst hi;cases hb:L.getD i true with
   | true=>rfl
   | false=>rw [hb] at hc; simp at hc
  ·exact Vc (n:=n) (by omega) i (by omega)
theorem VR {L:Array Bool}:∀ {n:Nat},cnt L n≠0->∃ i,i<n/\L.getD i true=false/\∀ k,k<i->L.getD k true=true
 | 0,h=>by simp [cnt] at h
 | n+1,hc=>by
  by_cases h0:cnt L n=0
  ·refine ⟨n,by omega, ?_,Vc h0⟩;unfold cnt at hc;cases hb:L.getD n true with
   | true=>rw [hb,h0] at hc; simp at hc
   | false=>rfl
  ·obtain ⟨i,hi,h1,h2⟩:=VR h0;exact ⟨i,by omega,h1,h2⟩
theorem VS {N:Nat}:∀ {n:Nat},n<=N->cnt (Array.replicate N false) n=n
 | 0,_=>rfl
 | n+1,h=>by
  unfold cnt;rw [VS (by omega)];simp [show n<N by omega]
def Uq (ops:Array Oper) (n:Nat):Bool :=
 (List.range n).all fun i=>match ops[i]? with
  | some o=>(o.after.all fun e=>decide (e.on<i)) && (match o.guard with | none=>true | some (j,_)=>decide (j<n))
  | none=>false
theorem Jw {ops:Array Oper} {n i:Nat} {o:Oper} (h:Uq ops n=true) (hi:i<n) (ho:ops[i]?=some o) :
  (∀ e∈o.after,e.on<i)/\∀ j b,o.guard=some (j,b)->j<n:=by
 have h1:=List.all_eq_true.1 h i (List.mem_range.2 hi);simp only [ho,Bool.and_eq_true] at h1;refine ⟨fun e he=>by simpa using (Array.all_eq_true'.1 h1.1) e he,fun j b hg=>?_⟩;have h2:=h1.2;rw [hg] at h2;simpa using h2
section
variable {P:Program} {C:World->Prop}
theorem Ky {l:List Oper} {n j:Nat} (hj:j<n):(l.take n).toArray[j]?=l.toArray[j]?:=by simp [hj]
theorem Ed {l:List Oper} {n:Nat} {o:Oper} {t:Array Value} (hg:∀ j b,o.guard=some (j,b)->j<n) :
  Region.wanted o (yielded (l.take n).toArray t)=Region.wanted o (yielded l.toArray t):=by
 unfold Region.wanted;cases h:o.guard with
 | none=>rfl
 | some x =>
  obtain ⟨j,b⟩:=x;have:yielded (l.take n).toArray t j=yielded l.toArray t j:=by unfold yielded; rw [Ky (hg j b h)]
  simp only [this]
theorem Ee {l:List Oper} {n j:Nat} (hlow:Uq l.toArray n=true) (hj:j<n) {K:Act->Prop} {a:Act} (h:qOp P (l.take n).toArray C j K a):qOp P l.toArray C j K a:=by
 unfold qOp at h ⊢;rw [Ky hj] at h;cases ho:l.toArray[j]? with
 | none=>simpa only [ho] using h
 | some o =>
  simp only [ho] at h ⊢;rw [Ed (Jw hlow hj ho).2] at h;exact h
theorem Ga {l:List Oper} {n g:Nat} {Lq:Act->Prop} {Q':Exit->Act->World->Prop} (hlow:Uq l.toArray n=true) (hs:Region.sinkB .any l.toArray n=true) (hc:Region.chainB .any l.toArray n=true) (hn:n<l.length)
  (hdone:∀ (L:Array Bool) a w,L.size=l.length->(∀ i,i<n->L.getD i true=true)->(∀ t,n<=t->t<l.length->L.getD t true=false)->C w->Lq a->wpAny P .any l.toArray Q' g L a w) :
  ∀ (f:Nat) (lh L:Array Bool) (a:Act) (w:World),C w->(∀ i b,i<n->L.getD i b=lh.getD i b)->HeadInv .any l.toArray n L->cnt L n=f ->
   wpAnyQ P .any (l.take n).toArray C Lq f lh a->wpAny P .any l.toArray Q' (f+g) L a w
 | 0,lh,L,a,w,hw,hag,inv,hcnt,h=>by
  rw [Nat.zero_add];exact hdone L a w (by simpa using inv.size) (Vc hcnt) (fun t h1 h2=>inv.tail t h1 (by simpa using h2)) hw h.2
 | f+1,lh,L,a,w,hw,hag,inv,hcnt,h=>by
  rw [show f+1+g=(f+g)+1 by omega];obtain ⟨i,hi,hun,hmin⟩:=VR (L:=L) (n:=n) (by omega);have hsz:l.toArray.size=l.length:=by simp
  refine ⟨fun h0=>?_,fun j hj=>?_⟩
  ·exfalso;have hio:∃ o,l.toArray[i]?=some o:=⟨_,Array.getElem?_eq_getElem (by simp; omega)⟩;obtain ⟨o,ho⟩:=hio;have:i∈Region.ready .any l.toArray L:=mem_ready.2 ⟨hun,o,ho,fun e he _=>by
    have hlt:=(Jw hlow hi ho).1 e he;have hin:e.on<L.size:=by rw [inv.size]; simp; omega
    have:=hmin e.on hlt;simp [hin] at this ⊢;exact this⟩
   rw [h0] at this;cases this
  ·have hjn:j<n:=by
    rcases Nat.lt_or_ge j n with h' | h'
    ·exact h'
    ·exact absurd hj (tail_waits hs hc (by rw [hsz]; exact hn) inv _ i rfl hi hun j h')
   obtain ⟨hju,o,ho,hall⟩:=mem_ready.1 hj;have hjh:j∈Region.ready .any (l.take n).toArray lh:=mem_ready.2 ⟨by rw [<- hag j true hjn]; exact hju,o,by rw [Ky hjn]; exact ho,fun e he hb=>by
    have hlt:=(Jw hlow hjn ho).1 e he;rw [<- hag e.on false (by omega)];exact hall e he hb⟩
   have hq:=Ee hlow hjn (h.2 j hjh);refine wpOp_of_qOp hw (fun a' w' hw' h'=>Ga hlow hs hc hn hdone f (lh.setIfInBounds j true) (L.setIfInBounds j true) a' w' hw' ?_ (inv.set hj hjn) ?_ h') hq
   ·intro k b hk;by_cases hjk:j=k
    ·subst hjk;have h1:j<L.size:=by rw [inv.size,hsz]; omega
     have h2:j<lh.size:=by
      rcases Nat.lt_or_ge j lh.size with h' | h'
      ·exact h'
      ·have:=(mem_ready.1 hjh).1;simp [Array.getElem?_eq_none h'] at this
     simp [h1,h2]
    ·rw [getD_set_ne b hjk,getD_set_ne b hjk];exact hag k b hk
   ·have:=V0 hju hjn;omega
def Kz (l:List Oper) (n:Nat):Bool :=
 Uq l.toArray n && Region.sinkB .any l.toArray n && Region.chainB .any l.toArray n && decide (n<l.length) && Region.lexB .any (l.take n).toArray &&
  Region.seqB .any l.toArray (l.length - n) n (List.replicate n true ++ List.replicate (l.length - n) false).toArray
theorem Gb {N n:Nat} {L:Array Bool} (hn:n<=N) (hsz:L.size=N) (h1:∀ i,i<n->L.getD i true=true) (h2:∀ t,n<=t->t<N->L.getD t true=false) :
  L=(List.replicate n true ++ List.replicate (N - n) false).toArray:=by
 apply Array.ext
 ·simp; omega
 ·intro i hi1 hi2;by_cases hi:i<n
  ·have:=h1 i hi;simp [hi1] at this;simp [hi,this]
  ·have:=h2 i (by omega) (by omega);simp [hi1] at this;simp [List.getElem_append,hi,this]
theorem Ef {id:Nat} {Q:Exit->Act->World->Prop} {a:Act} {w:World} {l:List Oper} (n:Nat) (hm:P.follows .mixedOrders=true) (hB:Kz l n=true) (hC:C { w with drawn:=w.drawn+1 })
  (h:wpQuiet P (l.take n).toArray C (fun a'=>∀ w',C w'->wpList P l.toArray Q (l.drop n) a' w') (l.take n) a):(Code.region id l.toArray true).wp P Q a w:=by
 simp only [Kz,Bool.and_eq_true,decide_eq_true_eq] at hB;obtain ⟨⟨⟨⟨⟨hlow,hs⟩,hc⟩,hn⟩,hlex⟩,hseq⟩:=hB;simp only [Region.lexB,Bool.and_eq_true] at hlex;have hlen:(l.take n).length=n:=by simp; omega
 have H:=wpAnyQ_lex (P:=P) (C:=C) (md:=.any) hlex.1 (l.take n) 0 (Array.replicate (l.take n).toArray.size false) a (by simp) (by simpa using hlex.2) h;have inv0:HeadInv .any l.toArray n (Array.replicate l.length false) :=
  ⟨by simp,fun j oj _ hl=>(by rw [getD_replicate_false] at hl; cases hl),fun t _ ht=>getD_in (by simpa using ht) (getD_replicate_false _ _)⟩
 refine wp_region_any hm ?_;have key:=Ga (P:=P) (C:=C) (Q':=Q) (g:=l.length - n) hlow hs hc hn (Lq:=fun a'=>∀ w',C w'->wpList P l.toArray Q (l.drop n) a' w') (fun L a' w' hsz h1 h2 hw' hq=>by
  have e:=Gb (by omega) hsz h1 h2;subst e;have:=wpAny_of_seq (P:=P) (md:=.any) (ops:=l.toArray) (Q':=Q) (l.drop n) n _ a' w' (fun j=>by simp [List.getElem?_drop]) (by simpa using hseq) (hq w' hw');simpa using this) n (Array.replicate n false) (Array.replicate l.length false) a _ hC (fun i b hi=>by
   simp [show i<l.length by omega,hi]) inv0 (VS (by omega)) (by simp only [List.size_toArray,hlen] at H; exact H)
 have e:n+(l.length - n)=l.toArray.size:=by simp; omega
 rw [e] at key;simpa using key
end
structure Aft (w:World):Type where
 u:World
 s:Yc w u
theorem Aft.here (w:World):Nonempty (Aft w):=⟨⟨w,Fr.refl _ w⟩⟩
abbrev Cl (w:World):World->Prop:=fun w'=>∃ z:Aft w,w'=z.u
theorem Cl.here (w:World):Cl w { w with drawn:=w.drawn+1 }:=⟨⟨w.drew,(Fr.refl _ w).drew⟩,rfl⟩
theorem Calls.cl {P:Program} {f:FuncId} {args:Array Value} {w:World} {z:Aft w} {v:Value}
  (h:Calls P f args z.u fun e w'=>e=.returned v/\Yc z.u w'):Calls P f args z.u fun e w''=>e=.returned v/\∃ y:Aft w,w''=y.u :=
 h.mono fun _ w' ⟨he,hs⟩=>⟨he,⟨w',z.s.trans hs⟩,rfl⟩
theorem Calls.cl_same {P:Program} {f:FuncId} {args:Array Value} {w:World} {z:Aft w} {v:Value}
  (h:Calls P f args z.u fun e w'=>e=.returned v/\w'=z.u):Calls P f args z.u fun e w''=>e=.returned v/\∃ y:Aft w,w''=y.u :=
 h.mono fun _ _ ⟨he,hs⟩=>⟨he,z,hs⟩
theorem Yo {P:Program} {id:Nat} {Q:Exit->Act->World->Prop} {a:Act} {w:World} {l:List Oper} (hm:P.follows .mixedOrders=true) (hB:Region.lexB .any l.toArray=true)
  (h:wpQuiet P l.toArray (fun w'=>∃ z:Aft w,w'=z.u) (fun a'=>∀ w',Yc w w'->Q .normal a' w') l a):(Code.region id l.toArray true).wp P Q a w :=
 wp_region_quiet (C:=Cl w) hm hB (Cl.here w) (by
  have e:(fun a'=>∀ w',Yc w w'->Q .normal a' w')=fun a'=>∀ w',Cl w w'->Q .normal a' w':=funext fun a'=>propext ⟨fun h w' ⟨z,e⟩=>e ▸ h z.u z.s,fun h w' hs=>h w' ⟨⟨w',hs⟩,rfl⟩⟩;rw [e] at h;simpa using h)
theorem YC {P:Program} {id:Nat} {Q:Exit->Act->World->Prop} {a:Act} {w:World} {l:List Oper} (n:Nat) (hm:P.follows .mixedOrders=true) (hB:Kz l n=true)
  (h:wpQuiet P (l.take n).toArray (fun w'=>∃ z:Aft w,w'=z.u) (fun a'=>∀ w',Yc w w'->wpList P l.toArray Q (l.drop n) a' w') (l.take n) a):(Code.region id l.toArray true).wp P Q a w:=by
 have e:(fun a'=>∀ w',Yc w w'->wpList P l.toArray Q (l.drop n) a' w')=fun a'=>∀ w',Cl w w'->wpList P l.toArray Q (l.drop n) a' w':=funext fun a'=>propext ⟨fun h w' ⟨z,e⟩=>e ▸ h z.u z.s,fun h w' hs=>h w' ⟨⟨w',hs⟩,rfl⟩⟩;rw [e] at h;exact Ef (C:=Cl w) n hm hB (Cl.here w) h
theorem Cl.cell {w:World} {p:Addr} {v:Value} (h:w.cell? p=some v):∀ z:Aft w,z.u.cell? p=some v :=
 fun z=>(z.s.cell (World.block_lt_of_cell? w _ h) (fun e=>e)).trans h
theorem kC {w:World} {p:Addr} {v:Value} (h:w.cell? p=some v):∀ z:Aft w,z.u.cell? p=some v:=Cl.cell h
end Go.Proofs.YthcjckgmdokmdaaGreatDoor
namespace Go.Proofs.YthcjckgmdokmdaaGreatDoor
open Go.RowKit
open Pu Gp
abbrev pt (x y:Int):Value:=.agg #[.int .i64 x,.int .i64 y]
abbrev bx (a b c d:Int):Value:=.agg #[.int .i64 a,.int .i64 b,.int .i64 c,.int .i64 d]
theorem Gc (w:World) (g:Nat) (x y:Int) (c0:w.cell? ⟨g,0,none⟩=some (.int .i64 x)) (c1:w.cell? ⟨g,1,none⟩=some (.int .i64 y)) :
  (loadVar 54 ⟨g,0,none⟩).run Tryz.prog w=.ok (pt x y) w:=by
 go_simp
theorem Gd (w:World) (g:Nat) (x y z u:Int) (c0:w.cell? ⟨g,0,none⟩=some (.int .i64 x)) (c1:w.cell? ⟨g,1,none⟩=some (.int .i64 y)) (c2:w.cell? ⟨g,2,none⟩=some (.int .i64 z)) (c3:w.cell? ⟨g,3,none⟩=some (.int .i64 u)) :
  (loadVar 194 ⟨g,0,none⟩).run Tryz.prog w=.ok (bx x y z u) w:=by
 go_simp
theorem Eg {fn:Func} {p:Tmp} (h:fn.results=#[.cell p 54]) (tmps:Array Value) (w:World) (g:Nat) (x y:Int) (hp:tmps.getD p undef=.pointer (some ⟨g,0,none⟩))
  (c0:w.cell? ⟨g,0,none⟩=some (.int .i64 x)) (c1:w.cell? ⟨g,1,none⟩=some (.int .i64 y)):(results fn tmps).run Tryz.prog w=.ok (pt x y) w:=by
 have hp':tmps[p]?.getD undef=.pointer (some ⟨g,0,none⟩):=by simpa using hp
 simp [results,h,hp',asAddr,Gc w g x y c0 c1]
theorem Eh {fn:Func} {p:Tmp} (h:fn.results=#[.cell p 194]) (tmps:Array Value) (w:World) (g:Nat) (x y z u:Int) (hp:tmps.getD p undef=.pointer (some ⟨g,0,none⟩))
  (c0:w.cell? ⟨g,0,none⟩=some (.int .i64 x)) (c1:w.cell? ⟨g,1,none⟩=some (.int .i64 y)) (c2:w.cell? ⟨g,2,none⟩=some (.int .i64 z)) (c3:w.cell? ⟨g,3,none⟩=some (.int .i64 u)) :
  (results fn tmps).run Tryz.prog w=.ok (bx x y z u) w:=by
 have hp':tmps[p]?.getD undef=.pointer (some ⟨g,0,none⟩):=by simpa using hp
 simp [results,h,hp',asAddr,Gd w g x y z u c0 c1 c2 c3]
theorem Ei {fn:Func} {p q:Tmp} (h:fn.results=#[.cell p 194,.tmp q]) (tmps:Array Value) (w:World) (g:Nat) (x y z u:Int) (t:Value) (hp:tmps.getD p undef=.pointer (some ⟨g,0,none⟩)) (hq:tmps.getD q undef=t)
  (c0:w.cell? ⟨g,0,none⟩=some (.int .i64 x)) (c1:w.cell? ⟨g,1,none⟩=some (.int .i64 y)) (c2:w.cell? ⟨g,2,none⟩=some (.int .i64 z)) (c3:w.cell? ⟨g,3,none⟩=some (.int .i64 u)) :
  (results fn tmps).run Tryz.prog w=.ok (.tuple #[bx x y z u,t]) w:=by
 rw [results_cell_tmp h,hp,hq];simp [asAddr,Result.andThen,Gd w g x y z u c0 c1 c2 c3]
def Pb (w:World) (b:Nat) (x y:Int):Prop:=w.heap[b]?=some (.cells #[.int .i64 x,.int .i64 y] 54 (0,0))
def Bb (w:World) (b:Nat) (x y z u:Int):Prop:=w.heap[b]?=some (.cells #[.int .i64 x,.int .i64 y,.int .i64 z,.int .i64 u] 194 (0,0))
theorem Pb.sT {w w':World} {b:Nat} {x y:Int} (h:Pb w b x y) (hs:Yc w w'):Pb w' b x y:=hs.kept_still h
theorem Bb.sT {w w':World} {b:Nat} {x y z u:Int} (h:Bb w b x y z u) (hs:Yc w w'):Bb w' b x y z u:=hs.kept_still h
theorem Pb.cells {w:World} {b:Nat} {x y:Int} (h:Pb w b x y) :
  w.cell? ⟨b,0,none⟩=some (.int .i64 x)/\w.cell? ⟨b,1,none⟩=some (.int .i64 y)/\∀ o,w.frozen? ⟨b,o,none⟩=false:=by
 refine ⟨?_, ?_,fun o=>frozen_of_row w b o _ _ h⟩ <;> (rw [cell_of_row _ _ _ _ _ _ h]; rfl)
theorem Bb.cells {w:World} {b:Nat} {x y z u:Int} (h:Bb w b x y z u) :
  w.cell? ⟨b,0,none⟩=some (.int .i64 x)/\w.cell? ⟨b,1,none⟩=some (.int .i64 y)/\w.cell? ⟨b,2,none⟩=some (.int .i64 z)/\w.cell? ⟨b,3,none⟩=some (.int .i64 u)/\∀ o,w.frozen? ⟨b,o,none⟩=false:=by
 refine ⟨?_, ?_, ?_, ?_,fun o=>frozen_of_row w b o _ _ h⟩ <;> (rw [cell_of_row _ _ _ _ _ _ h]; rfl)
abbrev Z0 (w:World) (b:Nat) (x y:Int):World:=(w.setCell ⟨b,0,none⟩ (.int .i64 x)).setCell ⟨b,1,none⟩ (.int .i64 y)
abbrev setB (w:World) (b:Nat) (x y z u:Int):World:=(((w.setCell ⟨b,0,none⟩ (.int .i64 x)).setCell ⟨b,1,none⟩ (.int .i64 y)).setCell ⟨b,2,none⟩ (.int .i64 z)).setCell ⟨b,3,none⟩ (.int .i64 u)
theorem Pb.set {w:World} {b:Nat} {x y:Int} (h:Pb w b x y) (x' y':Int):Pb (Z0 w b x' y') b x' y':=by
 unfold Pb;have h1:=heap_setCell_same w b 0 _ _ (.int .i64 x') h;have h2:=heap_setCell_same _ b 1 _ _ (.int .i64 y') h1;rw [h2]; rfl
theorem Bb.set {w:World} {b:Nat} {x y z u:Int} (h:Bb w b x y z u) (x' y' z' u':Int):Bb (setB w b x' y' z' u') b x' y' z' u':=by
 unfold Bb;have h1:=heap_setCell_same w b 0 _ _ (.int .i64 x') h;have h2:=heap_setCell_same _ b 1 _ _ (.int .i64 y') h1;have h3:=heap_setCell_same _ b 2 _ _ (.int .i64 z') h2;have h4:=heap_setCell_same _ b 3 _ _ (.int .i64 u') h3;rw [h4]; rfl
theorem YJ {F:Nat->Prop} {a w:World} (h:Fr F a w) (b:Nat) (x y:Int) (hb:F b\/a.heap.size<=b):Fr F a (Z0 w b x y):=(h.setCell _ _ hb).setCell _ _ hb
theorem V1 {F:Nat->Prop} {a w:World} (h:Fr F a w) (b:Nat) (x y z u:Int) (hb:F b\/a.heap.size<=b):Fr F a (setB w b x y z u):=(((h.setCell _ _ hb).setCell _ _ hb).setCell _ _ hb).setCell _ _ hb
theorem Pb.res {fn:Func} {p:Tmp} {w:World} {g:Nat} {x y:Int} (hb:Pb w g x y) (h:fn.results=#[.cell p 54]) (tmps:Array Value) (hp:tmps.getD p undef=.pointer (some ⟨g,0,none⟩)) :
  (results fn tmps).run Tryz.prog w=.ok (pt x y) w:=Eg h tmps w g x y hp hb.cells.1 hb.cells.2.1
theorem Bb.res {fn:Func} {p:Tmp} {w:World} {g:Nat} {x y z u:Int} (hb:Bb w g x y z u) (h:fn.results=#[.cell p 194]) (tmps:Array Value) (hp:tmps.getD p undef=.pointer (some ⟨g,0,none⟩)) :
  (results fn tmps).run Tryz.prog w=.ok (bx x y z u) w:=Eh h tmps w g x y z u hp hb.cells.1 hb.cells.2.1 hb.cells.2.2.1 hb.cells.2.2.2.1
theorem Bb.resb {fn:Func} {p q:Tmp} {w:World} {g:Nat} {x y z u:Int} (hb:Bb w g x y z u) (h:fn.results=#[.cell p 194,.tmp q]) (tmps:Array Value) (t:Value) (hp:tmps.getD p undef=.pointer (some ⟨g,0,none⟩)) (hq:tmps.getD q undef=t) :
  (results fn tmps).run Tryz.prog w=.ok (.tuple #[bx x y z u,t]) w:=Ei h tmps w g x y z u t hp hq hb.cells.1 hb.cells.2.1 hb.cells.2.2.1 hb.cells.2.2.2.1
abbrev Yh (w:World) (x y:Int):World:=w.alloc (.cells #[.int .i64 x,.int .i64 y] 54)
abbrev Yl (w:World) (x y z u:Int):World:=w.alloc (.cells #[.int .i64 x,.int .i64 y,.int .i64 z,.int .i64 u] 194)
theorem Yp (w:World) (x y:Int):Pb (Yh w x y) w.heap.size x y:=heap_alloc_new w _
theorem Y4 (w:World) (x y z u:Int):Bb (Yl w x y z u) w.heap.size x y z u:=heap_alloc_new w _
theorem Yf (w:World) (o:Obj):(w.alloc o).heap.size=w.heap.size+1:=by simp
theorem Ge (x y:Int) (w:World):Ya 189 #[pt x y] w (pt (bnd x) (bnd y)):=by
 obtain ⟨W,eW⟩:∃ W,W=(Yh (Yh w x y) 0 0):=⟨_,rfl⟩;have p0:Pb W (w.heap.size) x y:=by rw [eW]; have h:=Yp w x y; exact (h.sT (aL _ _))
 have c00:=kC p0.cells.1;have c01:=kC p0.cells.2.1;clear p0;have r:Pb W (w.heap.size+1) 0 0:=by rw [eW]; have h:=Yp (Yh w x y) 0 0; simp only [Yf] at h; exact h
 have HF:=hid (show Yc w W by rw [eW]; exact ((aL w _).trans (aL _ _)));have HW:=hid eW;have hne:=Aft.here W;clear eW;have HB:=hid (show w.heap.size<=w.heap.size+1 by omega);go_enter Tryz.func189,Tryz.ntmps189;go_wp2_with fail;have e:=HW.o;simp only [Yh] at e;rw [<- e];clear e HW;refine YC 6 (by kernel_rfl) (by kernel_rfl) ?_;simp only [List.take_succ_cons,List.take_zero,List.drop_succ_cons,List.drop_zero];repeat (go_big_quiet_step ((go_at_call 206; exact Calls.cl_same (BU _ _))))
 refine wpQuiet_nil ?_;intro w1 hs;clear hne c00 c01;have q:=r.sT hs;obtain ⟨d0,d1,df⟩:=q.cells;go_wp2_with fail
 (try simp only [Exit.inBlock,Exit.then])
 exact bodyPost_ret ((q.set _ _).res rfl _ rfl) rfl ⟨rfl,YJ (HF.o.trans hs) _ _ _ (.inr HB.o)⟩
theorem ZE (x y:Int) (w:World):Ya 58 #[pt x y] w (pt (bnd x) (bnd y)):=by
 obtain ⟨W,eW⟩:∃ W,W=(Yh (Yh w x y) 0 0):=⟨_,rfl⟩;have p0:Pb W (w.heap.size) x y:=by rw [eW]; have h:=Yp w x y; exact (h.sT (aL _ _))
 have c00:=kC p0.cells.1;have c01:=kC p0.cells.2.1;clear p0;have r:Pb W (w.heap.size+1) 0 0:=by rw [eW]; have h:=Yp (Yh w x y) 0 0; simp only [Yf] at h; exact h
 have HF:=hid (show Yc w W by rw [eW]; exact ((aL w _).trans (aL _ _)));have HW:=hid eW;have hne:=Aft.here W;clear eW;have HB:=hid (show w.heap.size<=w.heap.size+1 by omega);go_enter Tryz.func58,Tryz.ntmps58;go_wp2_with fail;have e:=HW.o;simp only [Yh] at e;rw [<- e];clear e HW;refine YC 6 (by kernel_rfl) (by kernel_rfl) ?_;simp only [List.take_succ_cons,List.take_zero,List.drop_succ_cons,List.drop_zero];repeat (go_big_quiet_step ((go_at_call 109; exact Calls.cl_same (XI _ _))))
 refine wpQuiet_nil ?_;intro w1 hs;clear hne c00 c01;have q:=r.sT hs;obtain ⟨d0,d1,df⟩:=q.cells;go_wp2_with fail
 (try simp only [Exit.inBlock,Exit.then])
 exact bodyPost_ret ((q.set _ _).res rfl _ rfl) rfl ⟨rfl,YJ (HF.o.trans hs) _ _ _ (.inr HB.o)⟩
theorem VT (x y z u:Int) (w:World):Ya 114 #[pt x y,pt z u] w (pt (Yj x z) (Yj y u)):=by
 obtain ⟨W,eW⟩:∃ W,W=(Yh (Yh (Yh w x y) z u) 0 0):=⟨_,rfl⟩;have p0:Pb W (w.heap.size) x y:=by rw [eW]; have h:=Yp w x y; exact ((h.sT (aL _ _)).sT (aL _ _))
 have c00:=kC p0.cells.1;have c01:=kC p0.cells.2.1;clear p0;have p1:Pb W (w.heap.size+1) z u:=by rw [eW]; have h:=Yp (Yh w x y) z u; simp only [Yf] at h; exact (h.sT (aL _ _))
 have c10:=kC p1.cells.1;have c11:=kC p1.cells.2.1;clear p1;have r:Pb W (w.heap.size+1+1) 0 0:=by rw [eW]; have h:=Yp (Yh (Yh w x y) z u) 0 0; simp only [Yf] at h; exact h
 have HF:=hid (show Yc w W by rw [eW]; exact (((aL w _).trans (aL _ _)).trans (aL _ _)));have HW:=hid eW;have hne:=Aft.here W;clear eW;have HB:=hid (show w.heap.size<=w.heap.size+1+1 by omega);go_enter Tryz.func114,Tryz.ntmps114;go_wp2_with fail;have e:=HW.o;simp only [Yh] at e;rw [<- e];clear e HW;refine YC 10 (by kernel_rfl) (by kernel_rfl) ?_;simp only [List.take_succ_cons,List.take_zero,List.drop_succ_cons,List.drop_zero];repeat (go_big_quiet_step ((go_at_call 151; exact Calls.cl_same (BV _ _ _))))
 refine wpQuiet_nil ?_;intro w1 hs;clear hne c00 c01 c10 c11;have q:=r.sT hs;obtain ⟨d0,d1,df⟩:=q.cells;go_wp2_with fail
 (try simp only [Exit.inBlock,Exit.then])
 exact bodyPost_ret ((q.set _ _).res rfl _ rfl) rfl ⟨rfl,YJ (HF.o.trans hs) _ _ _ (.inr HB.o)⟩
theorem Ej (x y z u:Int) (w:World):Ya 159 #[pt x y,pt z u] w (pt (Ys x z) (Ys y u)):=by
 obtain ⟨W,eW⟩:∃ W,W=(Yh (Yh (Yh w x y) z u) 0 0):=⟨_,rfl⟩;have p0:Pb W (w.heap.size) x y:=by rw [eW]; have h:=Yp w x y; exact ((h.sT (aL _ _)).sT (aL _ _))
 have c00:=kC p0.cells.1;have c01:=kC p0.cells.2.1;clear p0;have p1:Pb W (w.heap.size+1) z u:=by rw [eW]; have h:=Yp (Yh w x y) z u; simp only [Yf] at h; exact (h.sT (aL _ _))
 have c10:=kC p1.cells.1;have c11:=kC p1.cells.2.1;clear p1;have r:Pb W (w.heap.size+1+1) 0 0:=by rw [eW]; have h:=Yp (Yh (Yh w x y) z u) 0 0; simp only [Yf] at h; exact h
 have HF:=hid (show Yc w W by rw [eW]; exact (((aL w _).trans (aL _ _)).trans (aL _ _)));have HW:=hid eW;have hne:=Aft.here W;clear eW;have HB:=hid (show w.heap.size<=w.heap.size+1+1 by omega);go_enter Tryz.func159,Tryz.ntmps159;go_wp2_with fail;have e:=HW.o;simp only [Yh] at e;rw [<- e];clear e HW;refine YC 10 (by kernel_rfl) (by kernel_rfl) ?_;simp only [List.take_succ_cons,List.take_zero,List.drop_succ_cons,List.drop_zero];repeat (go_big_quiet_step ((go_at_call 181; exact Calls.cl_same (BW _ _ _))))
 refine wpQuiet_nil ?_;intro w1 hs;clear hne c00 c01 c10 c11;have q:=r.sT hs;obtain ⟨d0,d1,df⟩:=q.cells;go_wp2_with fail
 (try simp only [Exit.inBlock,Exit.then])
 exact bodyPost_ret ((q.set _ _).res rfl _ rfl) rfl ⟨rfl,YJ (HF.o.trans hs) _ _ _ (.inr HB.o)⟩
theorem K1 (x y b:Int) (w:World):Ya 112 #[pt x y,.int .i64 b] w (pt (Yw x b) (Yw y b)):=by
 obtain ⟨W,eW⟩:∃ W,W=(Yh (Yh w x y) 0 0):=⟨_,rfl⟩;have p0:Pb W (w.heap.size) x y:=by rw [eW]; have h:=Yp w x y; exact (h.sT (aL _ _))
 have c00:=kC p0.cells.1;have c01:=kC p0.cells.2.1;clear p0;have r:Pb W (w.heap.size+1) 0 0:=by rw [eW]; have h:=Yp (Yh w x y) 0 0; simp only [Yf] at h; exact h
 have HF:=hid (show Yc w W by rw [eW]; exact ((aL w _).trans (aL _ _)));have HW:=hid eW;have hne:=Aft.here W;clear eW;have HB:=hid (show w.heap.size<=w.heap.size+1 by omega);go_enter Tryz.func112,Tryz.ntmps112;go_wp2_with fail;have e:=HW.o;simp only [Yh] at e;rw [<- e];clear e HW;refine YC 8 (by kernel_rfl) (by kernel_rfl) ?_;simp only [List.take_succ_cons,List.take_zero,List.drop_succ_cons,List.drop_zero];repeat (go_big_quiet_step ((go_at_call 150; exact Calls.cl_same (BZ _ _ _))))
 refine wpQuiet_nil ?_;intro w1 hs;clear hne c00 c01;have q:=r.sT hs;obtain ⟨d0,d1,df⟩:=q.cells;go_wp2_with fail
 (try simp only [Exit.inBlock,Exit.then])
 exact bodyPost_ret ((q.set _ _).res rfl _ rfl) rfl ⟨rfl,YJ (HF.o.trans hs) _ _ _ (.inr HB.o)⟩
theorem Vd (d:Nat) (x y z u:Int) (w:World):(Op.equalIn (d+2) 54 (pt x y) (pt z u)).run Tryz.prog w=.ok (x == z && y == u) w:=by
 rw [run_equalIn_struct w (d+1) _ _ _ (by kernel_rfl) (by kernel_rfl)];have e : (Tryz.prog.fieldsOf 54) = #[⟨ "X", 3, 0, false, "", "", 0⟩, ⟨ "Y", 3, 1, false, "", "", 8⟩] := by kernel_rfl
 rw [e];by_cases h1:x=z
 ·by_cases h2:y=u
  ·subst h1 h2;go_simp
  ·have h3:(y == u)=false:=by simpa using h2
   subst h1;go_simp
 ·have h3:(x == z)=false:=by simpa using h1
  go_simp
theorem Ek (x y z u x' y' z' u':Int) (w:World):(Op.equalIn 10000 194 (bx x y z u) (bx x' y' z' u')).run Tryz.prog w=.ok ((x == x' && y == y') && (z == z' && u == u')) w:=by
 have q1:=fun w=>Vd 9997 x y x' y' w;have q2:=fun w=>Vd 9997 z u z' u' w;rw [run_equalIn_struct w 9999 _ _ _ (by kernel_rfl) (by kernel_rfl)];have e : (Tryz.prog.fieldsOf 194) = #[⟨ "Min", 54, 0, false, "", "", 0⟩, ⟨ "Max", 54, 2, false, "", "", 16⟩] := by kernel_rfl
 rw [e];have p1:∀ w,(part 54 #[.int .i64 x,.int .i64 y,.int .i64 z,.int .i64 u] 0).run Tryz.prog w=.ok (pt x y) w:=fun w=>by go_simp
 have p2:∀ w,(part 54 #[.int .i64 x,.int .i64 y,.int .i64 z,.int .i64 u] 2).run Tryz.prog w=.ok (pt z u) w:=fun w=>by go_simp
 have p3:∀ w,(part 54 #[.int .i64 x',.int .i64 y',.int .i64 z',.int .i64 u'] 0).run Tryz.prog w=.ok (pt x' y') w:=fun w=>by go_simp
 have p4:∀ w,(part 54 #[.int .i64 x',.int .i64 y',.int .i64 z',.int .i64 u'] 2).run Tryz.prog w=.ok (pt z' u') w:=fun w=>by go_simp
 simp only [Op.eqFields,ne_eq,String.reduceEq,not_false_eq_true,if_true,Sem.run_bind,p1,p2,p3,p4,Result.andThen_ok,q1,q2,Sem.run_ite,Sem.run_pure];cases (x == x' && y == y') <;> cases (z == z' && u == u') <;> rfl
theorem Jx (x y z u:Int) (w:World):(binOp .eql 54 (pt x y) (pt z u)).run Tryz.prog w=.ok (.bool (x == z && y == u)) w:=by
 rw [run_eql_struct,Vd 9998]; rfl
theorem Gf (x y z u:Int) (w:World):(binOp .neq 54 (pt x y) (pt z u)).run Tryz.prog w=.ok (.bool (!(x == z && y == u))) w:=by
 rw [run_neq_struct,Vd 9998]; rfl
theorem El (x y z u x' y' z' u':Int) (w:World):(binOp .eql 194 (bx x y z u) (bx x' y' z' u')).run Tryz.prog w=.ok (.bool ((x == x' && y == y') && (z == z' && u == u'))) w:=by
 rw [run_eql_struct,Ek]; rfl
theorem Ve (op:BinOp) (a b:Operand) (xs ys:Array Value) (w:World):(eqGuard op 54 a b (.agg xs) (.agg ys)).run Tryz.prog w=.ok () w:=run_eqGuard_agg w op _ a b xs ys (by kernel_rfl)
theorem Em (op:BinOp) (a b:Operand) (xs ys:Array Value) (w:World):(eqGuard op 194 a b (.agg xs) (.agg ys)).run Tryz.prog w=.ok () w:=run_eqGuard_agg w op _ a b xs ys (by kernel_rfl)
theorem Vf {x y z u:Int} (h:x=z/\y=u) (w:World):(binOp .neq 54 (pt x y) (pt z u)).run Tryz.prog w=.ok (.bool false) w:=by
 obtain ⟨h1,h2⟩:=h;rw [Gf,h1,h2]; simp
theorem K2 {x y z u:Int} (h:¬ (x=z/\y=u)) (w:World):(binOp .neq 54 (pt x y) (pt z u)).run Tryz.prog w=.ok (.bool true) w:=by
 rw [Gf];have:(x == z && y == u)=false:=by
  cases hb:(x == z && y == u) with
  | false=>rfl
  | true=>simp at hb; exact absurd hb h
 rw [this]; rfl
def okb (a b c d:Int):Bool:=decide (-2147483647<=a/\a<=2147483647/\-2147483647<=b/\b<=2147483647/\-2147483647<=c/\c<=2147483647/\-2147483647<=d/\d<=2147483647/\a<=c/\b<=d)
theorem UO {a b c d:Int} (h:okb a b c d=true):okB a b c d:=by unfold okb at h; simpa only [okB,decide_eq_true_eq] using h
theorem RW {a b c d:Int} (h:okb a b c d=false):¬ okB a b c d:=by unfold okb at h; simpa only [okB,decide_eq_false_iff_not] using h
def chk (a b c d:Int):Int:=if okb a b c d then 0 else 50
theorem Jy {a b c d:Int} (h:okB a b c d):okb a b c d=true:=by unfold okb; simpa only [okB,decide_eq_true_eq] using h
theorem Jz {a b c d:Int} (h:¬ okB a b c d):okb a b c d=false:=by unfold okb; simpa only [okB,decide_eq_false_iff_not] using h
theorem bnd_in {x:Int} (h:bnd x=x):-2147483647<=x/\x<=2147483647:=by have a:=YO x; have b:=YP x; omega
theorem En (a b c d:Int) (h1:¬ (bnd a=a/\bnd b=b)) (w:World):Ya 158 #[bx a b c d] w (.int .i64 50):=by
 have E1:=K2 h1;have G:=Ve;clear h1;have r:=Y4 w a b c d;go_enter Tryz.func158,Tryz.ntmps158;go_wp2_with fail;refine (ZE a b _).mono ?_;rintro e w1 ⟨rfl,hs1⟩;have r1:=r.sT hs1;have HF1:=hid ((aL w (.cells #[.int .i64 a,.int .i64 b,.int .i64 c,.int .i64 d] 194)).trans hs1);obtain ⟨b0,ew⟩:∃ b0,w.heap.size=b0:=⟨_,rfl⟩;rw [ew] at r1 ⊢;clear ew r hs1;obtain ⟨d0,d1,d2,d3,df⟩:=r1.cells;obtain ⟨g0,g1,g2,g3,gf⟩:=(r1.sT (aL w1 (.cells #[.int .i64 (bnd a),.int .i64 (bnd b)] 54))).cells;go_wp2_with fail;refine (ZE c d _).mono ?_;rintro e w2 ⟨rfl,hs2⟩;have r2:=(r1.sT (aL w1 (.cells #[.int .i64 (bnd a),.int .i64 (bnd b)] 54))).sT hs2;have p2:=(Yp w1 (bnd a) (bnd b)).sT hs2;have HF2:=hid ((HF1.o.trans (aL w1 (.cells #[.int .i64 (bnd a),.int .i64 (bnd b)] 54))).trans hs2);obtain ⟨b1,ew⟩:∃ b1,w1.heap.size=b1:=⟨_,rfl⟩;rw [ew] at p2 ⊢;clear ew d0 d1 d2 d3 df g0 g1 g2 g3 gf r1 HF1;obtain ⟨d0,d1,d2,d3,df⟩:=r2.cells;obtain ⟨k0,k1,kf⟩:=p2.cells;obtain ⟨m0,m1,m2,m3,mf⟩:=(r2.sT (aL w2 (.cells #[.int .i64 (bnd c),.int .i64 (bnd d)] 54))).cells;obtain ⟨n0,n1,nf⟩:=(p2.sT (aL w2 (.cells #[.int .i64 (bnd c),.int .i64 (bnd d)] 54))).cells;clear r2 p2 hs2;go_wp2_with fail;go_ret;exact ⟨rfl,HF2.o.trans (aL _ _)⟩
theorem Eo (a b c d:Int) (h1:bnd a=a/\bnd b=b) (h2:¬ (bnd c=c/\bnd d=d)) (w:World):Ya 158 #[bx a b c d] w (.int .i64 50):=by
 have E1:=Vf h1;have E2:=K2 h2;have G:=Ve;clear h1 h2;have r:=Y4 w a b c d;go_enter Tryz.func158,Tryz.ntmps158;go_wp2_with fail;refine (ZE a b _).mono ?_;rintro e w1 ⟨rfl,hs1⟩;have r1:=r.sT hs1;have HF1:=hid ((aL w (.cells #[.int .i64 a,.int .i64 b,.int .i64 c,.int .i64 d] 194)).trans hs1);obtain ⟨b0,ew⟩:∃ b0,w.heap.size=b0:=⟨_,rfl⟩;rw [ew] at r1 ⊢;clear ew r hs1;obtain ⟨d0,d1,d2,d3,df⟩:=r1.cells;obtain ⟨g0,g1,g2,g3,gf⟩:=(r1.sT (aL w1 (.cells #[.int .i64 (bnd a),.int .i64 (bnd b)] 54))).cells;go_wp2_with fail;refine (ZE c d _).mono ?_;rintro e w2 ⟨rfl,hs2⟩;have r2:=(r1.sT (aL w1 (.cells #[.int .i64 (bnd a),.int .i64 (bnd b)] 54))).sT hs2;have p2:=(Yp w1 (bnd a) (bnd b)).sT hs2;have HF2:=hid ((HF1.o.trans (aL w1 (.cells #[.int .i64 (bnd a),.int .i64 (bnd b)] 54))).trans hs2);obtain ⟨b1,ew⟩:∃ b1,w1.heap.size=b1:=⟨_,rfl⟩;rw [ew] at p2 ⊢;clear ew d0 d1 d2 d3 df g0 g1 g2 g3 gf r1 HF1;obtain ⟨d0,d1,d2,d3,df⟩:=r2.cells;obtain ⟨k0,k1,kf⟩:=p2.cells;obtain ⟨m0,m1,m2,m3,mf⟩:=(r2.sT (aL w2 (.cells #[.int .i64 (bnd c),.int .i64 (bnd d)] 54))).cells;obtain ⟨n0,n1,nf⟩:=(p2.sT (aL w2 (.cells #[.int .i64 (bnd c),.int .i64 (bnd d)] 54))).cells;clear r2 p2 hs2;go_wp2_with fail;go_ret;exact ⟨rfl,HF2.o.trans (aL _ _)⟩
theorem Ep (a b c d:Int) (h1:bnd a=a/\bnd b=b) (h2:bnd c=c/\bnd d=d) (h3:c<a) (w:World):Ya 158 #[bx a b c d] w (.int .i64 50):=by
 have E1:=Vf h1;have E2:=Vf h2;have G:=Ve;clear h1 h2;have r:=Y4 w a b c d;go_enter Tryz.func158,Tryz.ntmps158;go_wp2_with fail;refine (ZE a b _).mono ?_;rintro e w1 ⟨rfl,hs1⟩;have r1:=r.sT hs1;have HF1:=hid ((aL w (.cells #[.int .i64 a,.int .i64 b,.int .i64 c,.int .i64 d] 194)).trans hs1);obtain ⟨b0,ew⟩:∃ b0,w.heap.size=b0:=⟨_,rfl⟩;rw [ew] at r1 ⊢;clear ew r hs1;obtain ⟨d0,d1,d2,d3,df⟩:=r1.cells;obtain ⟨g0,g1,g2,g3,gf⟩:=(r1.sT (aL w1 (.cells #[.int .i64 (bnd a),.int .i64 (bnd b)] 54))).cells;go_wp2_with fail;refine (ZE c d _).mono ?_;rintro e w2 ⟨rfl,hs2⟩;have r2:=(r1.sT (aL w1 (.cells #[.int .i64 (bnd a),.int .i64 (bnd b)] 54))).sT hs2;have p2:=(Yp w1 (bnd a) (bnd b)).sT hs2;have HF2:=hid ((HF1.o.trans (aL w1 (.cells #[.int .i64 (bnd a),.int .i64 (bnd b)] 54))).trans hs2);obtain ⟨b1,ew⟩:∃ b1,w1.heap.size=b1:=⟨_,rfl⟩;rw [ew] at p2 ⊢;clear ew d0 d1 d2 d3 df g0 g1 g2 g3 gf r1 HF1;obtain ⟨d0,d1,d2,d3,df⟩:=r2.cells;obtain ⟨k0,k1,kf⟩:=p2.cells;obtain ⟨m0,m1,m2,m3,mf⟩:=(r2.sT (aL w2 (.cells #[.int .i64 (bnd c),.int .i64 (bnd d)] 54))).cells;obtain ⟨n0,n1,nf⟩:=(p2.sT (aL w2 (.cells #[.int .i64 (bnd c),.int .i64 (bnd d)] 54))).cells;clear r2 p2 hs2;go_wp2_with fail;go_ret;exact ⟨rfl,HF2.o.trans (aL _ _)⟩
theorem Er (a b c d:Int) (h1:bnd a=a/\bnd b=b) (h2:bnd c=c/\bnd d=d) (h3:a<=c) (h4:d<b) (w:World):Ya 158 #[bx a b c d] w (.int .i64 50):=by
 have E1:=Vf h1;have E2:=Vf h2;have G:=Ve;clear h1 h2;have r:=Y4 w a b c d;go_enter Tryz.func158,Tryz.ntmps158;go_wp2_with fail;refine (ZE a b _).mono ?_;rintro e w1 ⟨rfl,hs1⟩;have r1:=r.sT hs1;have HF1:=hid ((aL w (.cells #[.int .i64 a,.int .i64 b,.int .i64 c,.int .i64 d] 194)).trans hs1);obtain ⟨b0,ew⟩:∃ b0,w.heap.size=b0:=⟨_,rfl⟩;rw [ew] at r1 ⊢;clear ew r hs1;obtain ⟨d0,d1,d2,d3,df⟩:=r1.cells;obtain ⟨g0,g1,g2,g3,gf⟩:=(r1.sT (aL w1 (.cells #[.int .i64 (bnd a),.int .i64 (bnd b)] 54))).cells;go_wp2_with fail;refine (ZE c d _).mono ?_;rintro e w2 ⟨rfl,hs2⟩;have r2:=(r1.sT (aL w1 (.cells #[.int .i64 (bnd a),.int .i64 (bnd b)] 54))).sT hs2;have p2:=(Yp w1 (bnd a) (bnd b)).sT hs2;have HF2:=hid ((HF1.o.trans (aL w1 (.cells #[.int .i64 (bnd a),.int .i64 (bnd b)] 54))).trans hs2);obtain ⟨b1,ew⟩:∃ b1,w1.heap.size=b1:=⟨_,rfl⟩;rw [ew] at p2 ⊢;clear ew d0 d1 d2 d3 df g0 g1 g2 g3 gf r1 HF1;obtain ⟨d0,d1,d2,d3,df⟩:=r2.cells;obtain ⟨k0,k1,kf⟩:=p2.cells;obtain ⟨m0,m1,m2,m3,mf⟩:=(r2.sT (aL w2 (.cells #[.int .i64 (bnd c),.int .i64 (bnd d)] 54))).cells;obtain ⟨n0,n1,nf⟩:=(p2.sT (aL w2 (.cells #[.int .i64 (bnd c),.int .i64 (bnd d)] 54))).cells;clear r2 p2 hs2;go_wp2_with fail;go_ret;exact ⟨rfl,HF2.o.trans (aL _ _)⟩
theorem Es (a b c d:Int) (h1:bnd a=a/\bnd b=b) (h2:bnd c=c/\bnd d=d) (h3:a<=c) (h4:b<=d) (w:World):Ya 158 #[bx a b c d] w (.int .i64 0):=by
 have E1:=Vf h1;have E2:=Vf h2;have G:=Ve;clear h1 h2;have r:=Y4 w a b c d;go_enter Tryz.func158,Tryz.ntmps158;go_wp2_with fail;refine (ZE a b _).mono ?_;rintro e w1 ⟨rfl,hs1⟩;have r1:=r.sT hs1;have HF1:=hid ((aL w (.cells #[.int .i64 a,.int .i64 b,.int .i64 c,.int .i64 d] 194)).trans hs1);obtain ⟨b0,ew⟩:∃ b0,w.heap.size=b0:=⟨_,rfl⟩;rw [ew] at r1 ⊢;clear ew r hs1;obtain ⟨d0,d1,d2,d3,df⟩:=r1.cells;obtain ⟨g0,g1,g2,g3,gf⟩:=(r1.sT (aL w1 (.cells #[.int .i64 (bnd a),.int .i64 (bnd b)] 54))).cells;go_wp2_with fail;refine (ZE c d _).mono ?_;rintro e w2 ⟨rfl,hs2⟩;have r2:=(r1.sT (aL w1 (.cells #[.int .i64 (bnd a),.int .i64 (bnd b)] 54))).sT hs2;have p2:=(Yp w1 (bnd a) (bnd b)).sT hs2;have HF2:=hid ((HF1.o.trans (aL w1 (.cells #[.int .i64 (bnd a),.int .i64 (bnd b)] 54))).trans hs2);obtain ⟨b1,ew⟩:∃ b1,w1.heap.size=b1:=⟨_,rfl⟩;rw [ew] at p2 ⊢;clear ew d0 d1 d2 d3 df g0 g1 g2 g3 gf r1 HF1;obtain ⟨d0,d1,d2,d3,df⟩:=r2.cells;obtain ⟨k0,k1,kf⟩:=p2.cells;obtain ⟨m0,m1,m2,m3,mf⟩:=(r2.sT (aL w2 (.cells #[.int .i64 (bnd c),.int .i64 (bnd d)] 54))).cells;obtain ⟨n0,n1,nf⟩:=(p2.sT (aL w2 (.cells #[.int .i64 (bnd c),.int .i64 (bnd d)] 54))).cells;clear r2 p2 hs2;go_wp2_with fail;go_ret;exact ⟨rfl,HF2.o.trans (aL _ _)⟩
theorem J0 (a b c d:Int) (w:World):Ya 158 #[bx a b c d] w (.int .i64 (chk a b c d)):=by
 unfold chk;by_cases h1:bnd a=a/\bnd b=b
 ·by_cases h2:bnd c=c/\bnd d=d
  ·by_cases h3:c<a
   ·rw [Jz (fun k=>by unfold okB at k; omega)];exact Ep a b c d h1 h2 h3 w
   ·by_cases h4:d<b
    ·rw [Jz (fun k=>by unfold okB at k; omega)];exact Er a b c d h1 h2 (by omega) h4 w
    ·rw [Jy (by have:=bnd_in h1.1; have:=bnd_in h1.2; have:=bnd_in h2.1; have:=bnd_in h2.2; unfold okB; omega)];exact Es a b c d h1 h2 (by omega) (by omega) w
  ·rw [Jz (fun k=>h2 (by unfold okB at k; exact ⟨bnd_id (by omega) (by omega),bnd_id (by omega) (by omega)⟩))];exact Eo a b c d h1 h2 w
 ·rw [Jz (fun k=>h1 (by unfold okB at k; exact ⟨bnd_id (by omega) (by omega),bnd_id (by omega) (by omega)⟩))];exact En a b c d h1 w
end Go.Proofs.YthcjckgmdokmdaaGreatDoor
namespace Go.Proofs.YthcjckgmdokmdaaGreatDoor
open Go
theorem UP {P:Program} {o:Oper} {a:Act} {w:World} {v:Value} {K:Act->World->Prop} {Q:Exit->Act->World->Prop} (h:o.quietAt P a (fun u=>Yc w u) w v)
  (hK:∀ w',Yc w w'->K (a.put o.dst v) w'):o.wp P a w K Q:=by
 unfold Oper.quietAt at h;unfold Oper.wp;generalize (execOp a.eval o).run P w=r at h ⊢;cases r with
 | halt x w'=>simp only [Oper.quietUpon] at h
 | ok n w' =>
  cases n <;> simp only [Oper.quietUpon] at h
  case value u =>
   obtain ⟨rfl,rfl⟩:=h;rw [Oper.upon_value];exact hK _ (Fr.refl _ _)
  case skip =>
   obtain ⟨rfl,rfl⟩:=h;rw [Oper.upon_skip];exact hK _ (Fr.refl _ _)
  case enter f args =>
   obtain ⟨rfl,hc⟩:=h;simp only [Oper.upon];exact hc.mono fun e w'' ⟨he,hs⟩=>by subst he; exact hK _ hs
def K3 (ops:Array Oper) (n d:Nat):Bool :=
  (List.range n).all fun j=>match ops[j]? with
    | some o => o.guard.isNone && (o.dst != some d) && (o.dst.isSome) &&
        ((List.range n).all fun i=>(i == j) || (match ops[i]? with | some p=>p.dst != o.dst | none=>false)) &&
        o.op.operands.toList.all fun x=>match x with
          | .tmp t => (t != d) && (List.range n).all fun i => match ops[i]? with
              | some p=>(p.dst != some t) || o.after.any fun e=>e.on == i && Region.binds .any e
              | none=>false
          | _=>true
    | none=>false
section
variable {P:Program} {W:World} {l:List Oper} {n d:Nat} {A:Act} {z:Obj}
structure Mid (l:List Oper) (n d:Nat) (A:Act) (W:World) (z:Obj) (L:Array Bool) (a:Act) (w:World):Prop where
 sT:Yc W w
 size:a.tmps.size=A.tmps.size
 defers:a.defers=A.defers
 rest:∀ t,(∀ j o,j<n->l[j]?=some o->o.dst≠some t)->t≠d->a.tmps[t]?=A.tmps[t]?
 done:∀ j o t,j<n->l[j]?=some o->o.dst=some t->L.getD j true=true->a.tmps[t]?=A.tmps[t]?
 new:L.getD n true=true->∃ g,a.tmps[d]?=some (.pointer (some ⟨g,0,none⟩))/\w.heap[g]?=some z/\W.heap.size<=g
theorem Gg (h:K3 l.toArray n d=true) {j:Nat} {o:Oper} (hj:j<n) (ho:l[j]?=some o) :
  o.guard=none/\o.dst≠some d/\(∃ t,o.dst=some t)/\(∀ i p,i<n->l[i]?=some p->i≠j->p.dst≠o.dst) /\
  ∀ t,.tmp t∈o.op.operands->t≠d/\∀ i p,i<n->l[i]?=some p->p.dst=some t->∃ e∈o.after,e.on=i/\Region.binds .any e=true:=by
 have h1:=List.all_eq_true.1 h j (List.mem_range.2 hj);have ho':l.toArray[j]?=some o:=by simpa using ho
 simp only [ho',Bool.and_eq_true] at h1;obtain ⟨⟨⟨⟨h2,h3⟩,h4⟩,h5⟩,h6⟩:=h1;refine ⟨by simpa using h2,by simpa using h3,Option.isSome_iff_exists.1 h4,fun i p hi hp hij=>?_,fun t ht=>?_⟩
 ·have:=List.all_eq_true.1 h5 i (List.mem_range.2 hi);have hp':l.toArray[i]?=some p:=by simpa using hp
  simp only [hp',Bool.or_eq_true,beq_iff_eq] at this;rcases this with e | e
  ·exact absurd e hij
  ·simpa using e
 ·have:=List.all_eq_true.1 h6 (.tmp t) (by simpa using ht);simp only [Bool.and_eq_true] at this;refine ⟨by simpa using this.1,fun i p hi hp hd=>?_⟩;have h7:=List.all_eq_true.1 this.2 i (List.mem_range.2 hi);have hp':l.toArray[i]?=some p:=by simpa using hp
  simp only [hp',Bool.or_eq_true] at h7;rcases h7 with e | e
  ·simp [hd] at e
  ·obtain ⟨e,he,hb⟩:=Array.any_eq_true'.1 e;simp only [Bool.and_eq_true,beq_iff_eq] at hb;exact ⟨e,he,hb.1,hb.2⟩
theorem XJ {a b:Act} {t:Nat} (h:a.tmps[t]?=b.tmps[t]?):a.eval (.tmp t)=b.eval (.tmp t):=by
 simp only [Act.eval,Array.getD_eq_getD_getElem?,h]
theorem XK {L:Array Bool} {i:Nat} (hi:i<L.size) (h:L.getD i false=true):L.getD i true=true:=by
 simp [hi] at h ⊢; exact h
theorem Gh {dn:Nat} {on:Oper} {g':Nat} {Q':Exit->Act->World->Prop} (hE:K3 l.toArray n dn=true) (hsel:Region.noSelect l.toArray=true) (hlow:Uq l.toArray (n+1)=true)
  (hs:Region.sinkB .any l.toArray (n+1)=true) (hc:Region.chainB .any l.toArray (n+1)=true) (hn:n+1<l.length) (hon:l[n]?=some on) (hdn:on.dst=some dn) (hgn:on.guard=none) (hdA:dn<A.tmps.size)
  (hop:∀ j o,j<n->l[j]?=some o->∀ w,Yc W w->∀ t,o.dst=some t->o.quietAt P A (fun u=>Yc w u) w (A.tmps.getD t undef)/\t<A.tmps.size)
  (hnew:∀ w,Yc W w->∀ a:Act,(execOp a.eval on).run P w=.ok (.value (.pointer (some ⟨w.heap.size,0,none⟩))) (w.alloc z))
  (hdone:∀ (L:Array Bool) a w,L.size=l.length->(∀ i,i<n+1->L.getD i true=true)->(∀ t,n+1<=t->t<l.length->L.getD t true=false)->Mid l n dn A W z L a w->wpAny P .any l.toArray Q' g' L a w) :
  ∀ (f:Nat) (L:Array Bool) (a:Act) (w:World),HeadInv .any l.toArray (n+1) L->cnt L (n+1)=f->Mid l n dn A W z L a w->wpAny P .any l.toArray Q' (f+g') L a w
 | 0,L,a,w,inv,hcnt,hm=>by
  rw [Nat.zero_add];exact hdone L a w (by simpa using inv.size) (Vc hcnt) (fun t h1 h2=>inv.tail t h1 (by simpa using h2)) hm
 | f+1,L,a,w,inv,hcnt,hm=>by
  rw [show f+1+g'=(f+g')+1 by omega];obtain ⟨i,hi,hun,hmin⟩:=VR (L:=L) (n:=n+1) (by omega);have hsz:l.toArray.size=l.length:=by simp
  have hLs:L.size=l.length:=by rw [inv.size,hsz]
  refine ⟨fun h0=>?_,fun j hj=>?_⟩
  ·exfalso;obtain ⟨o,ho⟩:∃ o,l.toArray[i]?=some o:=⟨_,Array.getElem?_eq_getElem (by simp; omega)⟩;have:i∈Region.ready .any l.toArray L:=mem_ready.2 ⟨hun,o,ho,fun e he _=>by
    have hlt:=(Jw hlow hi ho).1 e he;have hin:e.on<L.size:=by omega
    have:=hmin e.on hlt;simp [hin] at this ⊢;exact this⟩
   rw [h0] at this;cases this
  ·have hjn:j<n+1:=by
    rcases Nat.lt_or_ge j (n+1) with h' | h'
    ·exact h'
    ·exact absurd hj (tail_waits hs hc (by rw [hsz]; exact hn) inv _ i rfl hi hun j h')
   obtain ⟨hju,o,ho,hall⟩:=mem_ready.1 hj;have ho':l[j]?=some o:=by simpa using ho
   have next:∀ (a':Act) (w':World),Mid l n dn A W z (L.setIfInBounds j true) a' w'->wpAny P .any l.toArray Q' (f+g') (L.setIfInBounds j true) a' w':=fun a' w' hm' =>
    Gh hE hsel hlow hs hc hn hon hdn hgn hdA hop hnew hdone f _ a' w' (inv.set hj hjn) (by have:=V0 hju hjn; omega) hm'
   unfold wpOp;simp only [ho];by_cases hjN:j=n
   ·subst hjN;obtain rfl:on=o:=Option.some.inj (hon.symm.trans ho');rw [if_pos (by unfold Region.wanted; rw [hgn])];refine .inl ?_;unfold Oper.wp;rw [hnew w hm.sT a,Oper.upon_value];refine next _ _ ⟨hm.sT.trans (aL w z), ?_, ?_,fun t h1 h2=>?_,fun k p t hk hp ht hl=>?_,fun _=>⟨w.heap.size, ?_, ?_,hm.sT.size⟩⟩
    ·simp [Act.put,hdn,hm.size]
    ·simp [Act.put,hdn,hm.defers]
    ·simp only [Act.put,hdn,Array.getElem?_setIfInBounds_ne (Ne.symm h2)];exact hm.rest t h1 h2
    ·have hne:t≠dn:=fun e=>(Gg hE hk hp).2.1 (by rw [ht,e]);rw [getD_set_ne true (by omega)] at hl;simp only [Act.put,hdn,Array.getElem?_setIfInBounds_ne (Ne.symm hne)];exact hm.done k p t hk hp ht hl
    ·simp only [Act.put,hdn];rw [Array.getElem?_setIfInBounds_self];simp [hm.size,hdA]
    ·exact heap_alloc_new w z
   ·have hj':j<n:=by omega
    obtain ⟨hg,hd1,⟨t,ht⟩,hd2,hopn⟩:=Gg hE hj' ho';rw [if_pos (by unfold Region.wanted; rw [hg])];refine .inl ?_;have hcong:execOp a.eval o=execOp A.eval o:=execOp_congr o (fun cs b=>Region.noSelect_spec hsel j o cs b ho) fun x hx=>by
     cases x with
     | tmp s =>
      obtain ⟨hs1,hs2⟩:=hopn s hx;refine XJ ?_;by_cases hex:∃ k p,k<n/\l[k]?=some p/\p.dst=some s
      ·obtain ⟨k,p,hk,hp,hps⟩:=hex;obtain ⟨e,he,heo,hb⟩:=hs2 k p hk hp hps;have:=hall e he hb;rw [heo] at this;exact hm.done k p s hk hp hps (XK (by omega) this)
      ·exact hm.rest s (fun k p hk hp hps=>hex ⟨k,p,hk,hp,hps⟩) hs1
     | const v=>rfl
     | global g=>rfl
     | func f=>rfl
    obtain ⟨hq,hta⟩:=hop j o hj' ho' w hm.sT t ht;have hq':o.quietAt P a (fun u=>Yc w u) w (A.tmps.getD t undef):=by
     unfold Oper.quietAt at hq ⊢;rw [hcong];exact hq
    refine UP hq' fun w' hw'=>next _ _ ⟨hm.sT.trans hw', ?_, ?_,fun s h1 h2=>?_,fun k p s hk hp hps hl=>?_,fun hl=>?_⟩
    ·simp [Act.put,ht,hm.size]
    ·simp [Act.put,ht,hm.defers]
    ·have hne:t≠s:=fun e=>h1 j o hj' ho' (by rw [ht,e]);simp only [Act.put,ht,Array.getElem?_setIfInBounds_ne hne];exact hm.rest s h1 h2
    ·by_cases hkj:k=j
     ·subst hkj;obtain rfl:o=p:=Option.some.inj (ho'.symm.trans hp);obtain rfl:t=s:=Option.some.inj (ht.symm.trans hps);simp only [Act.put,ht];rw [Array.getElem?_setIfInBounds_self];simp [hm.size,hta]
     ·have hne:t≠s:=fun e=>hd2 k p hk hp hkj (by rw [ht,hps,e]);rw [getD_set_ne true (by omega)] at hl;simp only [Act.put,ht,Array.getElem?_setIfInBounds_ne hne];exact hm.done k p s hk hp hps hl
    ·rw [getD_set_ne true hjN] at hl;obtain ⟨g,hg1,hg2,hg3⟩:=hm.new hl;have hne:t≠dn:=fun e=>hd1 (by rw [ht,e]);refine ⟨g, ?_,hw'.kept_still hg2,hg3⟩;simp only [Act.put,ht,Array.getElem?_setIfInBounds_ne hne];exact hg1
def newB? (l:List Oper) (n d:Nat):Bool :=
 K3 l.toArray n d && Region.noSelect l.toArray && Uq l.toArray (n+1) && Region.sinkB .any l.toArray (n+1) && Region.chainB .any l.toArray (n+1) && decide (n+1<l.length) &&
  Region.seqB .any l.toArray (l.length - (n+1)) (n+1) (List.replicate (n+1) true ++ List.replicate (l.length - (n+1)) false).toArray
theorem Et {id:Nat} {Q:Exit->Act->World->Prop} {a:Act} {w:World} {on:Oper} (n d:Nat) (A:Act) (z:Obj) (hm:P.follows .mixedOrders=true) (hB:newB? l n d=true) (hon:l[n]?=some on) (hdn:on.dst=some d) (hgn:on.guard=none) (hdA:d<A.tmps.size)
  (hsize:a.tmps.size=A.tmps.size) (hdef:a.defers=A.defers) (hrest:∀ t,(∀ j o,j<n->l[j]?=some o->o.dst≠some t)->t≠d->a.tmps[t]?=A.tmps[t]?)
  (hop:∀ j o,j<n->l[j]?=some o->∀ u,Yc w u->∀ t,o.dst=some t->o.quietAt P A (fun v=>Yc u v) u (A.tmps.getD t undef)/\t<A.tmps.size)
  (hnew:∀ u,Yc w u->∀ b:Act,(execOp b.eval on).run P u=.ok (.value (.pointer (some ⟨u.heap.size,0,none⟩))) (u.alloc z))
  (h:∀ u g,Yc w u->w.heap.size<=g->u.heap[g]?=some z->wpList P l.toArray Q (l.drop (n+1)) (A.put (some d) (.pointer (some ⟨g,0,none⟩))) u):(Code.region id l.toArray true).wp P Q a w:=by
 simp only [newB?,Bool.and_eq_true,decide_eq_true_eq] at hB;obtain ⟨⟨⟨⟨⟨⟨hE,hsel⟩,hlow⟩,hs⟩,hc⟩,hn⟩,hseq⟩:=hB;have inv0:HeadInv .any l.toArray (n+1) (Array.replicate l.length false) :=
  ⟨by simp,fun j oj _ hl=>(by rw [getD_replicate_false] at hl; cases hl),fun t _ ht=>getD_in (by simpa using ht) (getD_replicate_false _ _)⟩
 refine wp_region_any hm ?_;have hst:Yc w { w with drawn:=w.drawn+1 }:=(Fr.refl _ w).drew;have key:=Gh (P:=P) (W:=w) (A:=A) (z:=z) (Q':=Q) (g':=l.length - (n+1)) hE hsel hlow hs hc hn hon hdn hgn hdA hop hnew (fun L a' w' hsz h1 h2 hm'=>by
  have e:=Gb (by omega) hsz h1 h2;obtain ⟨g,hg1,hg2,hg3⟩:=hm'.new (h1 n (by omega));have ea:a'=A.put (some d) (.pointer (some ⟨g,0,none⟩)):=by
   obtain ⟨ts,df⟩:=a';obtain ⟨Ts,Df⟩:=A;have e2:df=Df:=hm'.defers;subst e2;have e1:ts=Ts.setIfInBounds d (.pointer (some ⟨g,0,none⟩)):=by
    apply Array.ext_getElem?;intro t;by_cases htd:t=d
    ·subst htd;rw [hg1,Array.getElem?_setIfInBounds_self];simp only [show t<Ts.size from hdA,if_true]
    ·rw [Array.getElem?_setIfInBounds_ne (Ne.symm htd)];by_cases hex:∃ k p,k<n/\l[k]?=some p/\p.dst=some t
     ·obtain ⟨k,p,hk,hp,hps⟩:=hex;exact hm'.done k p t hk hp hps (h1 k (by omega))
     ·exact hm'.rest t (fun k p hk hp hps=>hex ⟨k,p,hk,hp,hps⟩) htd
   rw [e1]; rfl
  rw [ea];subst e;have:=wpAny_of_seq (P:=P) (md:=.any) (ops:=l.toArray) (Q':=Q) (l.drop (n+1)) (n+1) _ _ w' (fun j=>by simp [List.getElem?_drop]) (by simpa using hseq) (h w' g hm'.sT hg3 hg2);simpa using this) (n+1) (Array.replicate l.length false) a { w with drawn:=w.drawn+1 } inv0 (VS (by omega))
  ⟨hst,hsize,hdef,hrest,fun j o t hj ho ht hl=>(by simp [show j<l.length by omega] at hl),fun hl=>(by simp [show n<l.length by omega] at hl)⟩
 have e:n+1+(l.length - (n+1))=l.toArray.size:=by simp; omega
 rw [e] at key;simpa using key
def VU (a:Act):List Oper->List Value->Act
 | o :: r,v :: vs=>VU (a.put o.dst v) r vs
 | _,_=>a
theorem Gj:∀ (ops:List Oper) (vs:List Value) (a:Act),(VU a ops vs).tmps.size=a.tmps.size/\(VU a ops vs).defers=a.defers/\∀ t,(∀ o∈ops,o.dst≠some t)->(VU a ops vs).tmps[t]?=a.tmps[t]?
 | [],vs,a=>by cases vs <;> exact ⟨rfl,rfl,fun _ _=>rfl⟩
 | o :: r,[],a=>⟨rfl,rfl,fun _ _=>rfl⟩
 | o :: r,v :: vs,a=>by
  obtain ⟨h1,h2,h3⟩:=Gj r vs (a.put o.dst v);have e:VU a (o :: r) (v :: vs)=VU (a.put o.dst v) r vs:=rfl;rw [e,h1,h2];refine ⟨?_, ?_,fun t ht=>?_⟩
  ·cases hd:o.dst <;> simp [Act.put]
  ·cases hd:o.dst <;> simp [Act.put]
  ·rw [h3 t fun p hp=>ht p (List.mem_cons_of_mem _ hp)];have:=ht o (List.mem_cons_self ..);cases hd:o.dst with
   | none=>rfl
   | some d =>
    rw [hd] at this;have hne:d≠t:=fun e=>this (by rw [e]);simp only [Act.put,Array.getElem?_setIfInBounds_ne hne]
def VV (P:Program) (W:World) (A:Act):List Oper->Prop
 | []=>True
 | o :: r=>(∀ u,Yc W u->o.quietAt P A (fun v=>Yc u v) u (A.tmps.getD (o.dst.getD 0) undef))/\VV P W A r
theorem Gl:∀ {ops:List Oper},VV P W A ops->∀ (j:Nat) (o:Oper),ops[j]?=some o->∀ u,Yc W u->o.quietAt P A (fun v=>Yc u v) u (A.tmps.getD (o.dst.getD 0) undef)
 | [],_,j,o,h=>by simp at h
 | p :: r,hw,0,o,h=>by
  simp at h;subst h;exact hw.1
 | p :: r,hw,j+1,o,h=>Gl hw.2 j o (by simpa using h)
def inB (l:List Oper) (n m:Nat):Bool:=(l.take n).all fun o=>match o.dst with | some t=>decide (t<m) | none=>true
theorem J1 {id:Nat} {Q:Exit->Act->World->Prop} {a:Act} {w:World} {on:Oper} (n d:Nat) (z:Obj) (vs:List Value) (A:Act) (hm:P.follows .mixedOrders=true) (hB:newB? l n d=true) (hon:l[n]?=some on) (hdn:on.dst=some d) (hgn:on.guard=none)
  (hA:VU a (l.take n) vs=A) (hI:inB l n A.tmps.size=true) (hdA:d<A.tmps.size)
  (hop:VV P w A (l.take n))
  (hnew:∀ u,Yc w u->∀ b:Act,(execOp b.eval on).run P u=.ok (.value (.pointer (some ⟨u.heap.size,0,none⟩))) (u.alloc z))
  (h:∀ u g,Yc w u->w.heap.size<=g->u.heap[g]?=some z->wpList P l.toArray Q (l.drop (n+1)) (A.put (some d) (.pointer (some ⟨g,0,none⟩))) u):(Code.region id l.toArray true).wp P Q a w:=by
 obtain ⟨e1,e2,e3⟩:=Gj (l.take n) vs a;rw [hA] at e1 e2 e3;refine Et n d A z hm hB hon hdn hgn hdA e1.symm e2.symm (fun t h1 _=>(e3 t fun o ho=>?_).symm) (fun j o hj ho u hu t ht=>?_) hnew h
 ·obtain ⟨j,hj,e⟩:=List.mem_iff_getElem.1 ho;have hjn:j<n:=by simp at hj; omega
  exact h1 j o hjn (by rw [<- e]; simp)
 ·have:=Gl hop j o (by rw [List.getElem?_take_of_lt hj]; exact ho) u hu;rw [ht] at this;refine ⟨this, ?_⟩;have h2:=List.all_eq_true.1 hI o (List.mem_iff_getElem?.2 ⟨j,by rw [List.getElem?_take_of_lt hj]; exact ho⟩);rw [ht] at h2;simpa using h2
end
end Go.Proofs.YthcjckgmdokmdaaGreatDoor
namespace Go.Proofs.YthcjckgmdokmdaaGreatDoor
open Go.RowKit
open Pu Gp
theorem K4 (x y n:Int) (w:World):Ya 125 #[pt x y,.int .i64 n] w (bx (Ys x (YB n 0 2147483647)) (Ys y (YB n 0 2147483647)) (Yj x (YB n 0 2147483647)) (Yj y (YB n 0 2147483647))):=by
 obtain ⟨R,eR⟩:∃ R,R=YB n 0 2147483647:=⟨_,rfl⟩;rw [<- eR];have HR:=hid eR;clear eR;obtain ⟨W,eW⟩:∃ W,W=Yh (Yl (Yh w x y) 0 0 0 0) R R:=⟨_,rfl⟩;have p0:Pb W w.heap.size x y:=by rw [eW]; exact ((Yp w x y).sT (aL _ _)).sT (aL _ _)
 have r:Bb W (w.heap.size+1) 0 0 0 0:=by rw [eW]; have h:=Y4 (Yh w x y) 0 0 0 0; simp only [Yf] at h; exact h.sT (aL _ _)
 have p1:Pb W (w.heap.size+1+1) R R:=by rw [eW]; have h:=Yp (Yl (Yh w x y) 0 0 0 0) R R; simp only [Yf] at h; exact h
 have c00:=kC p0.cells.1;have c01:=kC p0.cells.2.1;have c10:=kC p1.cells.1;have c11:=kC p1.cells.2.1;have HF:=hid (show Yc w W by rw [eW]; exact ((aL w _).trans (aL _ _)).trans (aL _ _));have HW:=hid eW;have hne:=Aft.here W;have HB:=hid (show w.heap.size<=w.heap.size+1 by omega);clear eW p0 p1;go_enter Tryz.func125,Tryz.ntmps125;go_wp2_with (go_at_call 115; refine (VQ _ _ _ _).mono ?_; rintro e w' ⟨he,hw⟩; rw [he,hw,<- HR.o]; clear he hw w');have e:=HW.o;simp only [Yh,Yl] at e;rw [<- e];clear e HW HR;refine YC 6 (by kernel_rfl) (by kernel_rfl) ?_;simp only [List.take_succ_cons,List.take_zero,List.drop_succ_cons,List.drop_zero];repeat (go_big_quiet_step ((first | (go_at_call 159; exact Calls.cl (Ej _ _ _ _ _)) | (go_at_call 114; exact Calls.cl (VT _ _ _ _ _)))))
 refine wpQuiet_nil ?_;intro w1 hs;clear hne c00 c01 c10 c11;have q:=r.sT hs;obtain ⟨d0,d1,d2,d3,df⟩:=q.cells;go_wp2_with fail
 (try simp only [Exit.inBlock,Exit.then])
 exact bodyPost_ret ((q.set _ _ _ _).res rfl _ rfl) rfl ⟨rfl,V1 (HF.o.trans hs) _ _ _ _ _ (.inr HB.o)⟩
def mt (a b c d a' b' c' d':Int):Bool:=(okb a b c d && okb a' b' c' d') && okb (max a a') (max b b') (min c c') (min d d')
def mif (t:Bool) (x:Int):Int:=if t then x else 0
abbrev mb (a b c d a' b' c' d':Int):Value:=bx (mif (mt a b c d a' b' c' d') (max a a')) (mif (mt a b c d a' b' c' d') (max b b')) (mif (mt a b c d a' b' c' d') (min c c')) (mif (mt a b c d a' b' c' d') (min d d'))
structure RTab (w:World):Prop where
 x:∀ d,d<16->w.cell? ⟨2,d,none⟩=some (.int .i64 (ux d))
 y:∀ d,d<16->w.cell? ⟨3,d,none⟩=some (.int .i64 (uy d))
theorem RTab.sT {w w':World} /- 113 -/ (h:RTab w) (hs:Yc w w'):RTab w' :=
 ⟨fun d hd=>(hs.cell (World.block_lt_of_cell? w _ (h.x d hd)) (fun e=>e)).trans (h.x d hd),fun d hd=>(hs.cell (World.block_lt_of_cell? w _ (h.y d hd)) (fun e=>e)).trans (h.y d hd)⟩
def dir (n:Int):Nat:=(n % 16).toNat
theorem Eu (n:Int):dir n<16:=by unfold dir; omega
theorem Ev (n:Int):n % 16=(dir n:Int):=by unfold dir; omega
theorem Ew (n:Int) (w:World):Yb 59 #[.int .i64 n] w (.int .i64 (dir n:Int)):=by
 have h:=QY n w;rw [Ev] at h;exact h
theorem Gn (n:Int) (w:World) (ht:RTab w):Ya 113 #[.int .i64 n] w (pt (ux (dir n)) (uy (dir n))):=by
 have hd:=Eu n;obtain ⟨W,eW⟩:∃ W,W=Yh w 0 0:=⟨_,rfl⟩;have r:Pb W w.heap.size 0 0:=by rw [eW]; exact Yp w 0 0
 have hs0:Yc w W:=by rw [eW]; exact aL w _
 have c0:=kC ((ht.sT hs0).x (dir n) hd);have c1:=kC ((ht.sT hs0).y (dir n) hd);have hi:((dir n:Nat):Int)<16:=by omega
 have hne:=Aft.here W;have HW:=hid eW;have HF:=hid hs0;clear eW hs0;go_enter Tryz.func113,Tryz.ntmps113;go_wp2_with (go_at_call 59; refine (Ew _ _).mono ?_; rintro e w' ⟨he,hw⟩; rw [he,hw]; clear he hw w');have e:=HW.o;simp only [Yh] at e;rw [<- e];clear e HW;refine YC 6 (by kernel_rfl) (by kernel_rfl) ?_;simp only [List.take_succ_cons,List.take_zero,List.drop_succ_cons,List.drop_zero];repeat (go_big_quiet_step (fail))
 refine wpQuiet_nil ?_;intro w1 hs;clear hne c0 c1;have q:=r.sT hs;obtain ⟨d0,d1,df⟩:=q.cells;go_wp2_with fail
 (try simp only [Exit.inBlock,Exit.then])
 exact bodyPost_ret ((q.set _ _).res rfl _ rfl) rfl ⟨rfl,YJ (HF.o.trans hs) _ _ _ (.inr (Nat.le_refl _))⟩
def hdF (g:Nat->Int):Nat->Nat
 | 0=>0
 | k+1=>if g (hdF g k)<g k then k else hdF g k
def hd (x y:Int):Nat:=hdF (dot x y) 16
end Go.Proofs.YthcjckgmdokmdaaGreatDoor
set_option maxRecDepth 100000
namespace Go.Proofs.YthcjckgmdokmdaaGreatDoor
open Go
def qi (n m j:Nat):Bool:=decide (j<n) || decide (n+2*m<=j)
def YT (l:List Oper) (n m:Nat):List Oper:=l.take n ++ l.drop (n+2*m)
def Xw:List Oper->Bool
  | []=>true
  | o :: r => o.guard.isNone && (match o.dst with | some t => r.all fun p => p.dst != some t | none => false) &&
      (o.op.operands.toList.all fun x=>match x with | .tmp t=>(o :: r).all fun p=>p.dst != some t | _=>true) && Xw r
def XL (l:List Oper) (z:Nat):Bool:=l.all fun o=>match o.dst with | some t=>decide (t<z) | none=>true
theorem ZN {ts:Array Value} {t:Nat} (h:t<ts.size) (v:Value):(ts.setIfInBounds t v)[t]?=some v:=by
 rw [Array.getElem?_setIfInBounds_self]; simp [h]
section
variable {P:Program}
theorem Xx {ops:Array Oper} {u:World} {A:Act} (hsel:∀ (o:Oper),o∈ops->∀ cs b,o.op ≠ .select cs b):∀ (r:List Oper) (a:Act),(∀ o∈r,o∈ops)->Xw r=true->XL r a.tmps.size=true->wpQuiet P ops (Cl u) (fun a'=>a'=A) r a ->
  (A.tmps.size=a.tmps.size/\A.defers=a.defers/\∀ t,(∀ o∈r,o.dst≠some t)->A.tmps[t]?=a.tmps[t]?) /\
  ∀ o∈r,∀ t,o.dst=some t->o.quietAt P A (fun v=>Yc u v) u (A.tmps.getD t undef)/\t<A.tmps.size
 | [],a,_,_,_,h=>by
  obtain rfl:a=A:=h;exact ⟨⟨rfl,rfl,fun _ _=>rfl⟩,fun o ho=>by cases ho⟩
 | o :: r,a,hin,hg,hd,h=>by
  unfold Xw at hg;simp only [Bool.and_eq_true] at hg;obtain ⟨⟨⟨g1,g2⟩,g3⟩,g4⟩:=hg;have hgn:o.guard=none:=by simpa using g1
  unfold wpQuiet at h;rw [if_pos (by unfold Region.wanted; rw [hgn])] at h;obtain ⟨v,hq,hr⟩:=h;obtain ⟨t0,ht0⟩:∃ t,o.dst=some t:=by
   cases e:o.dst with
   | none=>rw [e] at g2; cases g2
   | some t=>exact ⟨t,rfl⟩
  rw [ht0] at g2;have hlt:t0<a.tmps.size:=by
   have:=List.all_eq_true.1 hd o (List.mem_cons_self ..);rw [ht0] at this;simpa using this
  have hsz:(a.put o.dst v).tmps.size=a.tmps.size:=by simp [Act.put,ht0]
  have hdr:XL r (a.put o.dst v).tmps.size=true:=by
   rw [hsz];exact List.all_eq_true.2 fun p hp=>List.all_eq_true.1 hd p (List.mem_cons_of_mem _ hp)
  obtain ⟨⟨i1,i2,i3⟩,i4⟩:=Xx hsel r (a.put o.dst v) (fun p hp=>hin p (List.mem_cons_of_mem _ hp)) g4 hdr hr;have hA:∀ t,(∀ p∈o :: r,p.dst≠some t)->A.tmps[t]?=a.tmps[t]?:=fun t ht=>by
   rw [i3 t fun p hp=>ht p (List.mem_cons_of_mem _ hp)];have hne:t0≠t:=fun e=>ht o (List.mem_cons_self ..) (by rw [ht0,e]);simp only [Act.put,ht0,Array.getElem?_setIfInBounds_ne hne]
  refine ⟨⟨i1.trans hsz,i2.trans (by simp [Act.put,ht0]),hA⟩,fun p hp t ht=>?_⟩;rcases List.mem_cons.1 hp with rfl | hp
  ·obtain rfl:t0=t:=Option.some.inj (ht0.symm.trans ht);have hv:A.tmps[t0]?=some v:=by
    rw [i3 t0 fun q hq'=>by simpa using List.all_eq_true.1 g2 q hq'];simp only [Act.put,ht0];exact ZN hlt v
   have hcong:execOp A.eval p=execOp a.eval p:=execOp_congr p (fun cs b=>hsel p (hin p (List.mem_cons_self ..)) cs b) fun x hx=>by
    cases x with
    | tmp s =>
     refine XJ (hA s fun q hq'=>?_);have:=List.all_eq_true.1 g3 (.tmp s) (by simpa using hx);simpa using List.all_eq_true.1 this q hq'
    | const v=>rfl
    | global g=>rfl
    | func f=>rfl
   have h1:=hq u ⟨⟨u,Fr.refl _ _⟩,rfl⟩;have e:(fun v=>Yc u v)=Cl u:=funext fun w'=>propext ⟨fun hs=>⟨⟨w',hs⟩,rfl⟩,fun ⟨z,e⟩=>e ▸ z.s⟩;refine ⟨?_,by rw [i1,hsz]; exact hlt⟩;unfold Oper.quietAt at h1 ⊢;rw [hcong,e,Array.getD_eq_getD_getElem?,hv];exact h1
  ·exact i4 p hp t ht
end
def UQ (l:List Oper):Bool:=(List.range l.length).all fun i=>match l.toArray[i]? with | some o=>o.after.all fun e=>!Region.binds .any e || decide (e.on<i) | none=>false
theorem VW {l:List Oper} (h:UQ l=true) {i:Nat} {o:Oper} (hi:i<l.length) (ho:l.toArray[i]?=some o):∀ e∈o.after,Region.binds .any e=true->e.on<i:=fun e he hb=>by
 have h1:=List.all_eq_true.1 h i (List.mem_range.2 hi);simp only [ho] at h1;have:=Array.all_eq_true'.1 h1 e he;simpa [hb] using this
def mkB (l:List Oper) (n m:Nat) (ds:List Nat):Bool :=
  Region.noSelect l.toArray && UQ l && decide (n+2*m<=l.length) && decide ds.Nodup && decide (ds.length=m) && Xw (YT l n m) &&
  (List.range l.length).all fun j=>match l.toArray[j]? with
    | some o => o.guard.isNone && (if qi n m j then
          (match o.dst with | some t=>!ds.contains t | none=>false) &&
          ((List.range l.length).all fun i=>(i == j) || !qi n m i || (match l.toArray[i]? with | some p=>p.dst != o.dst | none=>false)) &&
          (o.op.operands.toList.all fun x=>match x with
            | .tmp t=>!ds.contains t && (List.range l.length).all fun i=>!qi n m i || (match l.toArray[i]? with | some p=>(p.dst != some t) || o.after.any fun e=>e.on == i && Region.binds .any e | none=>false)
            | _=>true)
        else if j<n+m then o.dst == some (ds.getD (j - n) 0)
        else o.dst == none && (o.after.any fun e=>e.on == j - m && Region.binds .any e) &&
          (o.op.operands.toList.all fun x=>match x with
            | .tmp t=>(t == ds.getD (j - n - m) 0) || (!ds.contains t && (List.range l.length).all fun i=>!qi n m i || (match l.toArray[i]? with | some p=>(p.dst != some t) || o.after.any fun e=>e.on == i && Region.binds .any e | none=>false))
            | _=>true))
    | none=>false
section
variable {P:Program} {W:World} {l:List Oper} {n m:Nat} {ds:List Nat} {A:Act} {zs zs':Nat->Obj}
structure K5 (l:List Oper) (n m:Nat) (ds:List Nat) (A:Act) (W:World) (zs zs':Nat->Obj) (L:Array Bool) (a:Act) (w:World) (γ:Nat->Nat):Prop where
 sT:Yc W w
 size:a.tmps.size=A.tmps.size
 defers:a.defers=A.defers
 rest:∀ t,(∀ j o,qi n m j=true->l[j]?=some o->o.dst≠some t)->t ∉ ds->a.tmps[t]?=A.tmps[t]?
 done:∀ j o t,qi n m j=true->l[j]?=some o->o.dst=some t->L.getD j true=true->j<l.length->a.tmps[t]?=A.tmps[t]?
 new:∀ k,k<m->L.getD (n+k) true=true->a.tmps[ds.getD k 0]?=some (.pointer (some ⟨γ k,0,none⟩))/\W.heap.size<=γ k/\w.heap[γ k]?=some (if L.getD (n+m+k) true then zs' k else zs k)
 inj:∀ k j,k<m->j<m->L.getD (n+k) true=true->L.getD (n+j) true=true->γ k=γ j->k=j
 ord:∀ k,k<m->L.getD (n+m+k) true=true->L.getD (n+k) true=true
theorem qi_false {n m j:Nat}:qi n m j=false ↔ n<=j/\j<n+2*m:=by unfold qi; simp
theorem Gq {Q':Exit->Act->World->Prop} (hB:mkB l n m ds=true) (hdA:∀ d∈ds,d<A.tmps.size)
  (hop:∀ j o,qi n m j=true->l[j]?=some o->∀ w,Yc W w->∀ t,o.dst=some t->o.quietAt P A (fun u=>Yc w u) w (A.tmps.getD t undef)/\t<A.tmps.size)
  (hnew:∀ k o,k<m->l[n+k]?=some o->∀ w,Yc W w->∀ a:Act,(execOp a.eval o).run P w=.ok (.value (.pointer (some ⟨w.heap.size,0,none⟩))) (w.alloc (zs k)))
  (hz:∀ (k:Nat) (w:World),k<m->(w.alloc (zs k)).heap[w.heap.size]?=some (zs k))
  (hst:∀ k o,k<m->l[n+m+k]?=some o->∀ u g,u.heap[g]?=some (zs k)->∃ u',(execOp (A.put (some (ds.getD k 0)) (.pointer (some ⟨g,0,none⟩))).eval o).run P u=.ok .skip u'/\u'.heap[g]?=some (zs' k)/\Fr (fun i=>i=g) u u')
  (hdone:∀ (L:Array Bool) a w γ,(∀ i,i<l.length->L.getD i true=true)->K5 l n m ds A W zs zs' L a w γ->Q' .normal a w) :
  ∀ (f:Nat) (L:Array Bool) (a:Act) (w:World) (γ:Nat->Nat),L.size=l.length->cnt L l.length=f->K5 l n m ds A W zs zs' L a w γ->wpAny P .any l.toArray Q' f L a w
 | 0,L,a,w,γ,hLs,hcnt,hm=>by
  refine ⟨?_,hdone L a w γ (Vc hcnt) hm⟩;rw [List.eq_nil_iff_forall_not_mem];intro j hj;obtain ⟨hju,o,ho,_⟩:=mem_ready.1 hj;have hjl:j<l.length:=by have:=(Array.getElem?_eq_some_iff.1 ho).1; simpa using this
  rw [Vc hcnt j hjl] at hju;cases hju
 | f+1,L,a,w,γ,hLs,hcnt,hm=>by
  have hB0:=hB;unfold mkB at hB;simp only [Bool.and_eq_true,decide_eq_true_eq] at hB;obtain ⟨⟨⟨⟨⟨⟨hsel,hlow⟩,hnl⟩,hnd⟩,hdl⟩,_⟩,hall⟩:=hB;obtain ⟨i,hi,hun,hmin⟩:=VR (L:=L) (n:=l.length) (by omega);refine ⟨fun h0=>?_,fun j hj=>?_⟩
  ·exfalso;obtain ⟨o,ho⟩:∃ o,l.toArray[i]?=some o:=⟨_,Array.getElem?_eq_getElem (by simpa using hi)⟩;have:i∈Region.ready .any l.toArray L:=mem_ready.2 ⟨hun,o,ho,fun e he hb=>by
    have hlt:=VW hlow hi ho e he hb;have hin:e.on<L.size:=by omega
    have:=hmin e.on hlt;simp [hin] at this ⊢;exact this⟩
   rw [h0] at this;cases this
  ·obtain ⟨hju,o,ho,hwait⟩:=mem_ready.1 hj;have hjl:j<l.length:=by have:=(Array.getElem?_eq_some_iff.1 ho).1; simpa using this
   have ho':l[j]?=some o:=by simpa using ho
   have hJ:=List.all_eq_true.1 hall j (List.mem_range.2 hjl);simp only [ho,Bool.and_eq_true] at hJ;obtain ⟨hg0,hJ⟩:=hJ;have hg:o.guard=none:=by simpa using hg0
   have next:∀ (a':Act) (w':World) (γ':Nat->Nat),K5 l n m ds A W zs zs' (L.setIfInBounds j true) a' w' γ'->wpAny P .any l.toArray Q' f (L.setIfInBounds j true) a' w':=fun a' w' γ' hm' =>
    Gq hB0 hdA hop hnew hz hst hdone f _ a' w' γ' (by simp [hLs]) (by have:=V0 hju hjl; omega) hm'
   have hset:∀ k,k≠j->(L.setIfInBounds j true).getD k true=L.getD k true:=fun k hk=>getD_set_ne true (Ne.symm hk);have hself:(L.setIfInBounds j true).getD j true=true:=by simp [show j<L.size by omega]
   have hd0:∀ k,k<m->ds.getD k 0∈ds:=fun k hk=>by
    rw [List.getD_eq_getElem?_getD,List.getElem?_eq_getElem (by omega)];exact List.getElem_mem _
   unfold wpOp;simp only [ho];rw [if_pos (by unfold Region.wanted; rw [hg])];refine .inl ?_;by_cases hq:qi n m j=true
   ·rw [if_pos hq] at hJ;simp only [Bool.and_eq_true] at hJ;obtain ⟨⟨h2,h3⟩,h4⟩:=hJ;obtain ⟨t,ht⟩:∃ t,o.dst=some t:=by
     cases e:o.dst with
     | none=>rw [e] at h2; cases h2
     | some t=>exact ⟨t,rfl⟩
    rw [ht] at h2;have htd:t ∉ ds:=by simpa using h2
    have hcong:execOp a.eval o=execOp A.eval o:=execOp_congr o (fun cs b=>Region.noSelect_spec hsel j o cs b ho) fun x hx=>by
     cases x with
     | tmp s =>
      have h5:=List.all_eq_true.1 h4 (.tmp s) (by simpa using hx);simp only [Bool.and_eq_true] at h5;have hsd:s ∉ ds:=by simpa using h5.1
      refine XJ ?_;by_cases hex:∃ k p,qi n m k=true/\l[k]?=some p/\p.dst=some s
      ·obtain ⟨k,p,hk,hp,hps⟩:=hex;have hkl:k<l.length:=(List.getElem?_eq_some_iff.1 hp).1;have h6:=List.all_eq_true.1 h5.2 k (List.mem_range.2 hkl);have hp':l.toArray[k]?=some p:=by simpa using hp
       simp only [hp',hk,Bool.not_true,Bool.false_or,Bool.or_eq_true] at h6;rcases h6 with h6 | h6
       ·rw [hps] at h6; simp at h6
       ·obtain ⟨e,he,hb⟩:=Array.any_eq_true'.1 h6;simp only [Bool.and_eq_true,beq_iff_eq] at hb;have:=hwait e he hb.2;rw [hb.1] at this;exact hm.done k p s hk hp hps (XK (by omega) this) hkl
      ·exact hm.rest s (fun k p hk hp hps=>hex ⟨k,p,hk,hp,hps⟩) hsd
     | const v=>rfl
     | global g=>rfl
     | func f=>rfl
    obtain ⟨hqa,hta⟩:=hop j o hq ho' w hm.sT t ht;have hq':o.quietAt P a (fun u=>Yc w u) w (A.tmps.getD t undef):=by
     unfold Oper.quietAt at hqa ⊢;rw [hcong];exact hqa
    have hnj:∀ k,k<2*m->n+k≠j:=fun k hk e=>by
     have:=(qi_false (n:=n) (m:=m) (j:=j)).2 ⟨by omega,by omega⟩;rw [hq] at this; cases this
    refine UP hq' fun w' hw'=>next _ _ γ ⟨hm.sT.trans hw',by simp [Act.put,ht,hm.size],by simp [Act.put,ht,hm.defers],fun s h1 h2=>?_,fun k p s hk hp hps hl hkl=>?_,fun k hk hl=>?_,fun k k' hk hk' hl hl'=>?_,fun k hk hl=>?_⟩
    ·have hne:t≠s:=fun e=>h1 j o hq ho' (by rw [ht,e]);simp only [Act.put,ht,Array.getElem?_setIfInBounds_ne hne];exact hm.rest s h1 h2
    ·by_cases hkj:k=j
     ·subst hkj;obtain rfl:o=p:=Option.some.inj (ho'.symm.trans hp);obtain rfl:t=s:=Option.some.inj (ht.symm.trans hps);simp only [Act.put,ht];rw [ZN (by rw [hm.size]; exact hta)];simp [hta]
     ·have h5:=List.all_eq_true.1 h3 k (List.mem_range.2 hkl);have hp':l.toArray[k]?=some p:=by simpa using hp
      have hkj':(k == j)=false:=by simpa using hkj
      simp only [hp',hk,hkj',Bool.not_true,Bool.or_false,Bool.false_or,bne_iff_ne] at h5;have hne:t≠s:=fun e=>h5 (by rw [hps,ht,e]);rw [hset k hkj] at hl;simp only [Act.put,ht,Array.getElem?_setIfInBounds_ne hne];exact hm.done k p s hk hp hps hl hkl
    ·rw [hset _ (hnj k (by omega))] at hl;rw [hset _ (by have:=hnj (m+k) (by omega); omega)];obtain ⟨n1,n2,n3⟩:=hm.new k hk hl;have hne:t≠ds.getD k 0:=fun e=>htd (by rw [e]; exact hd0 k hk);refine ⟨?_,n2,hw'.kept_still n3⟩;simp only [Act.put,ht,Array.getElem?_setIfInBounds_ne hne];exact n1
    ·rw [hset _ (hnj k (by omega))] at hl;rw [hset _ (hnj k' (by omega))] at hl';exact hm.inj k k' hk hk' hl hl'
    ·rw [hset _ (by have:=hnj (m+k) (by omega); omega)] at hl;rw [hset _ (hnj k (by omega))];exact hm.ord k hk hl
   ·have hqf:qi n m j=false:=by simpa using hq
    obtain ⟨hj1,hj2⟩:=qi_false.1 hqf;rw [if_neg hq] at hJ;have hqd:∀ i p t,qi n m i=true->l[i]?=some p->p.dst=some t->t ∉ ds:=fun i p t hi hp hpt=>by
     have hil:i<l.length:=(List.getElem?_eq_some_iff.1 hp).1;have h1:=List.all_eq_true.1 hall i (List.mem_range.2 hil);have hp':l.toArray[i]?=some p:=by simpa using hp
     simp only [hp',Bool.and_eq_true] at h1;have h2:=h1.2;rw [if_pos hi] at h2;simp only [Bool.and_eq_true,hpt] at h2;simpa using h2.1.1
    have hdne:∀ k k',k<m->k' < m->k≠k'->ds.getD k 0≠ds.getD k' 0:=fun k k' hk hk' hne e=>by
     rw [List.getD_eq_getElem?_getD,List.getD_eq_getElem?_getD,List.getElem?_eq_getElem (by omega),List.getElem?_eq_getElem (by omega)] at e;simp only [Option.getD_some] at e;rcases Nat.lt_or_gt_of_ne hne with h | h
     ·exact List.pairwise_iff_getElem.1 hnd k k' (by omega) (by omega) h e
     ·exact List.pairwise_iff_getElem.1 hnd k' k (by omega) (by omega) h e.symm
    have hqj:∀ i,qi n m i=true->i≠j:=fun i hi e=>by rw [e,hqf] at hi; cases hi
    by_cases hjm:j<n+m
    · -- a variable is laid
     rw [if_pos hjm] at hJ;obtain ⟨k,rfl⟩:∃ k,j=n+k:=⟨j - n,by omega⟩;rw [show n+k - n=k by omega] at hJ;have hdk:o.dst=some (ds.getD k 0):=by simpa using hJ
     have hk:k<m:=by omega
     have hdA':ds.getD k 0<A.tmps.size:=hdA _ (hd0 k hk);unfold Oper.wp;rw [hnew k o hk ho' w hm.sT a,Oper.upon_value];have hnot:L.getD (n+m+k) true=false:=by
      cases e:L.getD (n+m+k) true with
      | false=>rfl
      | true=>rw [hm.ord k hk e] at hju; cases hju
     refine next _ _ (fun i=>if i=k then w.heap.size else γ i) ⟨hm.sT.trans (aL w (zs k)),by simp [Act.put,hdk,hm.size],by simp [Act.put,hdk,hm.defers],fun s h1 h2=>?_,fun i p s hi hp hps hl hil=>?_,fun k' hk' hl=>?_,fun k1 k2 h1 h2 l1 l2 e=>?_,fun k' hk' hl=>?_⟩
     ·have hne:ds.getD k 0≠s:=fun e=>h2 (by rw [<- e]; exact hd0 k hk);simp only [Act.put,hdk,Array.getElem?_setIfInBounds_ne hne];exact hm.rest s h1 h2
     ·have hne:ds.getD k 0≠s:=fun e=>hqd i p s hi hp hps (by rw [<- e]; exact hd0 k hk);rw [hset i (hqj i hi)] at hl;simp only [Act.put,hdk,Array.getElem?_setIfInBounds_ne hne];exact hm.done i p s hi hp hps hl hil
     ·by_cases hkk:k'=k
      ·subst hkk;rw [hset _ (by omega),hnot];refine ⟨?_, ?_, ?_⟩
       ·simp only [Act.put,hdk,if_true];exact ZN (by rw [hm.size]; exact hdA') _
       ·simp only [if_true]; exact hm.sT.size
       ·simp only [if_true]; exact hz k' w hk
      ·rw [hset _ (by omega)] at hl;rw [hset _ (by omega)];obtain ⟨n1,n2,n3⟩:=hm.new k' hk' hl;simp only [if_neg hkk];refine ⟨?_,n2,(aL w (zs k)).kept_still n3⟩;simp only [Act.put,hdk,Array.getElem?_setIfInBounds_ne (hdne k k' hk hk' (Ne.symm hkk))];exact n1
     ·have hb:∀ i,i<m->i≠k->(L.setIfInBounds (n+k) true).getD (n+i) true=true->γ i≠w.heap.size:=fun i hi hik hl=>by
       rw [hset _ (by omega)] at hl;have:=(Array.getElem?_eq_some_iff.1 (hm.new i hi hl).2.2).1;omega
      by_cases e1:k1=k
      ·by_cases e2:k2=k
       ·rw [e1,e2]
       ·simp only [e1,if_true,if_neg e2] at e;exact absurd e.symm (hb k2 h2 e2 l2)
      ·by_cases e2:k2=k
       ·simp only [e2,if_true,if_neg e1] at e;exact absurd e (hb k1 h1 e1 l1)
       ·simp only [if_neg e1,if_neg e2] at e;rw [hset _ (by omega)] at l1 l2;exact hm.inj k1 k2 h1 h2 l1 l2 e
     ·rw [hset _ (by omega)] at hl;by_cases hkk:k'=k
      ·subst hkk; exact hself
      ·rw [hset _ (by omega)]; exact hm.ord k' hk' hl
    · -- a variable is filled
     rw [if_neg hjm] at hJ;obtain ⟨k,rfl⟩:∃ k,j=n+m+k:=⟨j - (n+m),by omega⟩;rw [show n+m+k - m=n+k by omega,show n+m+k - n - m=k by omega] at hJ;simp only [Bool.and_eq_true] at hJ;obtain ⟨⟨h1,h2⟩,h3⟩:=hJ;have hdo:o.dst=none:=by simpa using h1
     have hk:k<m:=by omega
     have hdA':ds.getD k 0<A.tmps.size:=hdA _ (hd0 k hk);have hlk:L.getD (n+k) true=true:=by
      obtain ⟨e,he,hb⟩:=Array.any_eq_true'.1 h2;simp only [Bool.and_eq_true,beq_iff_eq] at hb;have:=hwait e he hb.2;rw [hb.1] at this;exact XK (by omega) this
     obtain ⟨n1,n2,n3⟩:=hm.new k hk hlk;rw [hju] at n3;obtain ⟨u',hrun,hu1,hu2⟩:=hst k o hk ho' w (γ k) (by simpa using n3);have hcong:execOp a.eval o=execOp (A.put (some (ds.getD k 0)) (.pointer (some ⟨γ k,0,none⟩))).eval o:=execOp_congr o (fun cs b=>Region.noSelect_spec hsel _ o cs b ho) fun x hx=>by
      cases x with
      | tmp s =>
       refine XJ ?_;by_cases hsd:s=ds.getD k 0
       ·subst hsd;rw [n1];simp only [Act.put];rw [ZN hdA']
       ·simp only [Act.put,Array.getElem?_setIfInBounds_ne (Ne.symm hsd)];have h5:=List.all_eq_true.1 h3 (.tmp s) (by simpa using hx);have hsd':(s == ds.getD k 0)=false:=by simpa using hsd
        simp only [hsd',Bool.false_or,Bool.and_eq_true] at h5;have hsn:s ∉ ds:=by simpa using h5.1
        by_cases hex:∃ i p,qi n m i=true/\l[i]?=some p/\p.dst=some s
        ·obtain ⟨i,p,hi,hp,hps⟩:=hex;have hil:i<l.length:=(List.getElem?_eq_some_iff.1 hp).1;have h6:=List.all_eq_true.1 h5.2 i (List.mem_range.2 hil);have hp':l.toArray[i]?=some p:=by simpa using hp
         simp only [hp',hi,Bool.not_true,Bool.false_or,Bool.or_eq_true] at h6;rcases h6 with h6 | h6
         ·rw [hps] at h6; simp at h6
         ·obtain ⟨e,he,hb⟩:=Array.any_eq_true'.1 h6;simp only [Bool.and_eq_true,beq_iff_eq] at hb;have:=hwait e he hb.2;rw [hb.1] at this;exact hm.done i p s hi hp hps (XK (by omega) this) hil
        ·exact hm.rest s (fun i p hi hp hps=>hex ⟨i,p,hi,hp,hps⟩) hsn
      | const v=>rfl
      | global g=>rfl
      | func f=>rfl
     unfold Oper.wp;rw [hcong,hrun,Oper.upon_skip,hdo];refine next _ _ γ ⟨Fr.trans hm.sT hu2 (fun i hi e=>by omega),hm.size,hm.defers,hm.rest,fun i p s hi hp hps hl hil=>?_,fun k' hk' hl=>?_,fun k1 k2 h1 h2 l1 l2 e=>?_,fun k' hk' hl=>?_⟩
     ·rw [hset i (hqj i hi)] at hl;exact hm.done i p s hi hp hps hl hil
     ·rw [hset _ (by omega)] at hl;obtain ⟨m1,m2,m3⟩:=hm.new k' hk' hl;by_cases hkk:k'=k
      ·subst hkk;exact ⟨m1,m2,by rw [hself]; exact hu1⟩
      ·rw [hset _ (by omega)];exact ⟨m1,m2,hu2.kept m3 (fun e=>hkk (hm.inj k' k hk' hk hl hlk e))⟩
     ·rw [hset _ (by omega)] at l1 l2;exact hm.inj k1 k2 h1 h2 l1 l2 e
     ·rw [hset _ (by omega)];by_cases hkk:k'=k
      ·subst hkk; exact hlk
      ·rw [hset _ (by omega)] at hl;exact hm.ord k' hk' hl
theorem Gr {id : Nat} {Q : Exit -> Act -> World -> Prop} {a : Act} {w : World} (n m : Nat) (ds : List Nat) (zs zs' : Nat -> Obj) (hm : P.follows .mixedOrders = true) (hB : mkB l n m ds = true) (hdB : XL (YT l n m) a.tmps.size = true) (hdd : (ds.all fun d => decide (d < a.tmps.size)) = true)
    (hnew:∀ k o,k<m->l[n+k]?=some o->∀ w,∀ a:Act,(execOp a.eval o).run P w=.ok (.value (.pointer (some ⟨w.heap.size,0,none⟩))) (w.alloc (zs k)))
    (hz:∀ (k:Nat) (w:World),k<m->(w.alloc (zs k)).heap[w.heap.size]?=some (zs k))
    (h:∃ A,(∀ u,Yc w u->wpQuiet P l.toArray (fun w'=>∃ z:Aft u,w'=z.u) (fun a'=>a'=A) (YT l n m) a) /\
      (∀ k o,k<m->l[n+m+k]?=some o->∀ u g,u.heap[g]?=some (zs k)->∃ u',(execOp (A.put (some (ds.getD k 0)) (.pointer (some ⟨g,0,none⟩))).eval o).run P u=.ok .skip u'/\u'.heap[g]?=some (zs' k)/\Fr (fun i=>i=g) u u') /\
      ∀ (u:World) (γ:Nat->Nat),Yc w u->(∀ k,k<m->w.heap.size<=γ k/\u.heap[γ k]?=some (zs' k))->(∀ k j,k<m->j<m->γ k=γ j->k=j)->Q .normal ((List.range m).foldl (fun a k=>a.put (some (ds.getD k 0)) (.pointer (some ⟨γ k,0,none⟩))) A) u) :
    (Code.region id l.toArray true).wp P Q a w:=by
  obtain ⟨A,hwalk,hst,hpost⟩:=h;have hB0:=hB;unfold mkB at hB;simp only [Bool.and_eq_true,decide_eq_true_eq] at hB;obtain ⟨⟨⟨⟨⟨⟨hsel,hlow⟩,hnl⟩,hnd⟩,hdl⟩,hgood⟩,hall⟩:=hB;have hin:∀ o∈YT l n m,o∈l.toArray:=fun o ho=>by
    unfold YT at ho;rcases List.mem_append.1 ho with ho | ho
    · simpa using List.mem_of_mem_take ho
    · simpa using List.mem_of_mem_drop ho
  have hsel':∀ o∈l.toArray,∀ cs b,o.op ≠ .select cs b:=fun o ho cs b=>by
    obtain ⟨i,hi,e⟩:=Array.mem_iff_getElem.1 ho;exact Region.noSelect_spec hsel i o cs b (by rw [Array.getElem?_eq_getElem hi,e])
  have hmem:∀ j o,qi n m j=true->l[j]?=some o->o∈YT l n m:=fun j o hj ho=>by
    unfold YT;unfold qi at hj;simp only [Bool.or_eq_true,decide_eq_true_eq] at hj;obtain ⟨hjl,e⟩:=List.getElem?_eq_some_iff.1 ho;rcases hj with hj | hj
    · exact List.mem_append_left _ (List.mem_iff_getElem?.2 ⟨j,by rw [List.getElem?_take_of_lt hj]; exact ho⟩)
    · refine List.mem_append_right _ (List.mem_iff_getElem?.2 ⟨j - (n+2*m), ?_⟩)
      rw [List.getElem?_drop,show n+2*m+(j - (n+2*m))=j by omega];exact ho
  obtain ⟨⟨e1,e2,e3⟩,_⟩:=Xx hsel' (YT l n m) a hin hgood hdB (hwalk w (Fr.refl _ _));have hdA:∀ d∈ds,d<A.tmps.size:=fun d hd=>by rw [e1]; simpa using List.all_eq_true.1 hdd d hd
  refine wp_region_any hm ?_;have hst0:Yc w { w with drawn:=w.drawn+1 }:=(Fr.refl _ w).drew;have key:=Gq (P:=P) (W:=w) (A:=A) (zs:=zs) (zs':=zs') (Q':=Q) hB0 hdA
    (fun j o hj ho u hu t ht=>(Xx hsel' (YT l n m) a hin hgood hdB (hwalk u hu)).2 o (hmem j o hj ho) t ht) (fun k o hk ho u _ b=>hnew k o hk ho u b) hz hst ?_ l.length (Array.replicate l.length false) a { w with drawn:=w.drawn+1 } (fun _=>0) (by simp) (VS (Nat.le_refl _))
    ⟨hst0,e1.symm,e2.symm,fun t h1 _=>((e3 t fun o ho=>?_)).symm,fun j o t _ _ _ hl hjl=>(by simp [hjl] at hl),fun k hk hl=>(by simp [show n+k<l.length by omega] at hl),fun k j hk _ hl=>(by simp [show n+k<l.length by omega] at hl),fun k hk hl=>(by simp [show n+m+k<l.length by omega] at hl)⟩
  · simpa using key
  · intro L a' w' γ hL hm'
    have hnews:=fun k (hk:k<m)=>hm'.new k hk (hL _ (by omega));have hall2:∀ k,k<m->L.getD (n+m+k) true=true:=fun k hk=>hL _ (by omega);have ea:a'=(List.range m).foldl (fun a k=>a.put (some (ds.getD k 0)) (.pointer (some ⟨γ k,0,none⟩))) A:=by
      have fold : ∀ (r : Nat), r <= m -> ((List.range r).foldl (fun a k => a.put (some (ds.getD k 0)) (.pointer (some ⟨γ k, 0, none⟩))) A).tmps.size = A.tmps.size /\ ((List.range r).foldl (fun a k => a.put (some (ds.getD k 0)) (.pointer (some ⟨γ k, 0, none⟩))) A).defers = A.defers /\
          (∀ t,(∀ k,k<r->t≠ds.getD k 0)->((List.range r).foldl (fun a k=>a.put (some (ds.getD k 0)) (.pointer (some ⟨γ k,0,none⟩))) A).tmps[t]?=A.tmps[t]?) /\
          (∀ k,k<r->((List.range r).foldl (fun a k=>a.put (some (ds.getD k 0)) (.pointer (some ⟨γ k,0,none⟩))) A).tmps[ds.getD k 0]?=some (.pointer (some ⟨γ k,0,none⟩))):=by
        intro r;induction r with
        | zero=>intro _; exact ⟨rfl,rfl,fun _ _=>rfl,fun k hk=>by omega⟩
        | succ r ih =>
          intro hr;obtain ⟨f1,f2,f3,f4⟩:=ih (by omega);have hdr:ds.getD r 0∈ds:=by
            rw [List.getD_eq_getElem?_getD,List.getElem?_eq_getElem (by omega)];exact List.getElem_mem _
          rw [List.range_succ,List.foldl_append];obtain ⟨B,eB⟩:∃ B,(List.range r).foldl (fun a k=>a.put (some (ds.getD k 0)) (.pointer (some ⟨γ k,0,none⟩))) A=B:=⟨_,rfl⟩;rw [eB] at f1 f2 f3 f4 ⊢;simp only [List.foldl_cons,List.foldl_nil];refine ⟨by simp [Act.put,f1],by simp [Act.put,f2],fun t ht=>?_,fun k hk=>?_⟩
          · simp only [Act.put,Array.getElem?_setIfInBounds_ne (Ne.symm (ht r (by omega)))]
            exact f3 t fun k hk=>ht k (by omega)
          · by_cases hkr:k=r
            · subst hkr
              simp only [Act.put];exact ZN (by rw [f1]; exact hdA _ hdr) _
            · have hne : ds.getD r 0 ≠ ds.getD k 0 := fun e => by
                rw [List.getD_eq_getElem?_getD,List.getD_eq_getElem?_getD,List.getElem?_eq_getElem (by omega),List.getElem?_eq_getElem (by omega)] at e;simp only [Option.getD_some] at e;exact List.pairwise_iff_getElem.1 hnd k r (by omega) (by omega) (by omega) e.symm
              simp only [Act.put,Array.getElem?_setIfInBounds_ne hne];exact f4 k (by omega)
      obtain ⟨f1,f2,f3,f4⟩:=fold m (Nat.le_refl _);obtain ⟨B,eB⟩:∃ B,(List.range m).foldl (fun a k=>a.put (some (ds.getD k 0)) (.pointer (some ⟨γ k,0,none⟩))) A=B:=⟨_,rfl⟩;rw [eB] at f1 f2 f3 f4 ⊢;obtain ⟨ts,df⟩:=a';obtain ⟨Ts,Df⟩:=B;have g1:df=Df:=hm'.defers.trans f2.symm;have g2:ts=Ts:=by
        apply Array.ext_getElem?;intro t;by_cases htd:t∈ds
        · obtain ⟨k,hk,e⟩:=List.mem_iff_getElem.1 htd
          have e':ds.getD k 0=t:=by rw [List.getD_eq_getElem?_getD,List.getElem?_eq_getElem hk]; exact e
          have:=(hnews k (by omega)).1;rw [e'] at this;have h4:=f4 k (by omega);rw [e'] at h4;rw [this,h4]
        · rw [f3 t fun k hk e => htd (by
            rw [e,List.getD_eq_getElem?_getD,List.getElem?_eq_getElem (by omega)];exact List.getElem_mem _)]
          by_cases hex:∃ i p,qi n m i=true/\l[i]?=some p/\p.dst=some t
          · obtain ⟨i,p,hi,hp,hpt⟩:=hex
            have hil:i<l.length:=(List.getElem?_eq_some_iff.1 hp).1;exact hm'.done i p t hi hp hpt (hL i hil) hil
          · exact hm'.rest t (fun i p hi hp hpt=>hex ⟨i,p,hi,hp,hpt⟩) htd
      rw [g1,g2]
    rw [ea];exact hpost w' γ hm'.sT (fun k hk=>⟨(hnews k hk).2.1,by have:=(hnews k hk).2.2; rwa [hall2 k hk,if_pos rfl] at this⟩) (fun k j hk hj e=>hm'.inj k j hk hj (hL _ (by omega)) (hL _ (by omega)) e)
  · intro e
    have:∃ i,qi n m i=true/\l[i]?=some o:=by
      unfold YT at ho;rcases List.mem_append.1 ho with ho | ho
      · obtain ⟨i,hi,e⟩:=List.mem_iff_getElem.1 ho
        have hin':i<n:=by simp at hi; omega
        exact ⟨i,by unfold qi; simp; omega,by rw [<- List.getElem?_take_of_lt hin',List.getElem?_eq_getElem hi,e]⟩
      · obtain ⟨i,hi,e⟩:=List.mem_iff_getElem.1 ho
        exact ⟨n+2*m+i,by unfold qi; simp,by rw [<- List.getElem?_drop,List.getElem?_eq_getElem hi,e]⟩
    obtain ⟨i,hi,hoi⟩:=this;exact h1 i o hi hoi e
theorem V2 {id:Nat} {Q:Exit->Act->World->Prop} {a:Act} {w:World} {on os:Oper} (n d:Nat) (z z':Obj) (hm:P.follows .mixedOrders=true) (hB:mkB l n 1 [d]=true) (hdB:XL (YT l n 1) a.tmps.size=true) (hdd:decide (d<a.tmps.size)=true)
  (hon:l[n]?=some on) (hos:l[n+1]?=some os) (hnew:∀ (w:World) (a:Act),(execOp a.eval on).run P w=.ok (.value (.pointer (some ⟨w.heap.size,0,none⟩))) (w.alloc z)) (hz:∀ w:World,(w.alloc z).heap[w.heap.size]?=some z)
  (h:∃ A,(∀ u,Yc w u->wpQuiet P l.toArray (fun w'=>∃ z:Aft u,w'=z.u) (fun a'=>a'=A) (YT l n 1) a) /\
   (∀ u g,u.heap[g]?=some z->∃ u',(execOp (A.put (some d) (.pointer (some ⟨g,0,none⟩))).eval os).run P u=.ok .skip u'/\u'.heap[g]?=some z'/\Fr (fun i=>i=g) u u') /\
   ∀ (u:World) (g:Nat),Yc w u->w.heap.size<=g->u.heap[g]?=some z'->Q .normal (A.put (some d) (.pointer (some ⟨g,0,none⟩))) u) :
  (Code.region id l.toArray true).wp P Q a w:=by
 obtain ⟨A,h1,h2,h3⟩:=h;refine Gr n 1 [d] (fun _=>z) (fun _=>z') hm hB hdB (by simpa using hdd) (fun k o hk ho=>?_) (fun _ w _=>hz w) ⟨A,h1,fun k o hk ho=>?_,fun u γ hs hk _=>?_⟩
 ·obtain rfl:k=0:=by omega
  obtain rfl:on=o:=Option.some.inj (hon.symm.trans ho);exact hnew
 ·obtain rfl:k=0:=by omega
  obtain rfl:os=o:=Option.some.inj (hos.symm.trans ho);exact h2
 ·exact h3 u (γ 0) hs (hk 0 (by omega)).1 (hk 0 (by omega)).2
theorem K6 {id:Nat} {Q:Exit->Act->World->Prop} {a:Act} {w:World} {on1 on2 os1 os2:Oper} (n d1 d2:Nat) (z z1 z2:Obj) (hm:P.follows .mixedOrders=true) (hB:mkB l n 2 [d1,d2]=true) (hdB:XL (YT l n 2) a.tmps.size=true) (hdd:decide (d1<a.tmps.size/\d2<a.tmps.size)=true)
  (hon:l[n]?=some on1/\l[n+1]?=some on2) (hos:l[n+2]?=some os1/\l[n+3]?=some os2)
  (hnew:∀ (w:World) (a:Act),(execOp a.eval on1).run P w=.ok (.value (.pointer (some ⟨w.heap.size,0,none⟩))) (w.alloc z)/\(execOp a.eval on2).run P w=.ok (.value (.pointer (some ⟨w.heap.size,0,none⟩))) (w.alloc z)) (hz:∀ w:World,(w.alloc z).heap[w.heap.size]?=some z)
  (h:∃ A,(∀ u,Yc w u->wpQuiet P l.toArray (fun w'=>∃ z:Aft u,w'=z.u) (fun a'=>a'=A) (YT l n 2) a) /\
   (∀ u g,u.heap[g]?=some z->∃ u',(execOp (A.put (some d1) (.pointer (some ⟨g,0,none⟩))).eval os1).run P u=.ok .skip u'/\u'.heap[g]?=some z1/\Fr (fun i=>i=g) u u') /\
   (∀ u g,u.heap[g]?=some z->∃ u',(execOp (A.put (some d2) (.pointer (some ⟨g,0,none⟩))).eval os2).run P u=.ok .skip u'/\u'.heap[g]?=some z2/\Fr (fun i=>i=g) u u') /\
   ∀ (u:World) (g1 g2:Nat),Yc w u->w.heap.size<=g1->w.heap.size<=g2->g1≠g2->u.heap[g1]?=some z1->u.heap[g2]?=some z2->Q .normal ((A.put (some d1) (.pointer (some ⟨g1,0,none⟩))).put (some d2) (.pointer (some ⟨g2,0,none⟩))) u) :
  (Code.region id l.toArray true).wp P Q a w:=by
 obtain ⟨A,h1,h2,h3,h4⟩:=h;refine Gr n 2 [d1,d2] (fun _=>z) (fun k=>if k=0 then z1 else z2) hm hB hdB (by simpa using hdd) (fun k o hk ho=>?_) (fun _ w _=>hz w) ⟨A,h1,fun k o hk ho=>?_,fun u γ hs hk hi=>?_⟩
 ·by_cases e:k=0
  ·subst e;obtain rfl:on1=o:=Option.some.inj (hon.1.symm.trans ho);exact fun w a=>(hnew w a).1
  ·obtain rfl:k=1:=by omega
   obtain rfl:on2=o:=Option.some.inj (hon.2.symm.trans ho);exact fun w a=>(hnew w a).2
 ·by_cases e:k=0
  ·subst e;obtain rfl:os1=o:=Option.some.inj (hos.1.symm.trans ho);exact h2
  ·obtain rfl:k=1:=by omega
   obtain rfl:os2=o:=Option.some.inj (hos.2.symm.trans ho);exact h3
 ·have a0:=hk 0 (by omega);have a1:=hk 1 (by omega);exact h4 u (γ 0) (γ 1) hs a0.1 a1.1 (fun e=>by have:=hi 0 1 (by omega) (by omega) e; omega) a0.2 a1.2
end
end Go.Proofs.YthcjckgmdokmdaaGreatDoor
set_option maxRecDepth 100000
namespace Go.Proofs.YthcjckgmdokmdaaGreatDoor
open Go
def XM:Op->Bool
 | .move _=>true
 | .extract _ _=>true
 | _=>false
theorem Gs {P:Program} {o:Oper} (h:XM o.op=true) (ρ:Operand->Value) {w:World} {C:World->Prop} {v:Value} (hq:Oper.quietUpon P C w v ((execOp ρ o).run P w)) (u:World):(execOp ρ o).run P u=.ok (.value v) u:=by
 cases e:o.op <;> rw [e] at h <;> try (cases h)
 ·simp only [execOp,e,Sem.run_pure,Oper.quietUpon] at hq ⊢;rw [hq.2]
 ·rename_i t ix;simp only [execOp,e,Instr.extract] at hq ⊢;cases e2:ρ t <;> simp only [e2] at hq ⊢ <;> try (exact hq.elim)
  rename_i vs;cases e3:vs[ix]? <;> simp [e3,Oper.quietUpon] at hq ⊢
  exact hq
def UR:Op->Bool
 | .load _ _=>true
 | .nilCheck _=>true
 | .fieldAddr _ _ _=>true
 | .indexAddr _ _ _=>true
 | _=>false
theorem Ex {P:Program} {o:Oper} (h:UR o.op=true) (ρ:Operand->Value) {w:World} {C:World->Prop} {v:Value} (hq:Oper.quietUpon P C w v ((execOp ρ o).run P w)):(execOp ρ o).run P w=.ok (.value v) w:=by
 have key:∀ f args w',(execOp ρ o).run P w ≠ .ok (.enter f args) w'/\(execOp ρ o).run P w ≠ .ok .skip w':=fun f args w'=>by
  cases e:o.op <;> rw [e] at h <;> try (cases h)
  ·rename_i t a;simp only [execOp,e,Sem.run_bind,Sem.run_pure];cases (Instr.loadAt t (ρ a)).run P w <;> simp [Result.andThen]
  ·rename_i a;have hb:∀ {α:Type} (s:Sem α) (k:α->Sem Next) (w0:World),(∀ x w1,(k x).run P w1 ≠ .ok (.enter f args) w'/\(k x).run P w1 ≠ .ok .skip w')->(s >>= k).run P w0 ≠ .ok (.enter f args) w'/\(s >>= k).run P w0 ≠ .ok .skip w':=fun s k w0 hk=>by
    rw [Sem.run_bind];cases s.run P w0 with
    | ok x w1=>exact hk x w1
    | halt x w1=>simp [Result.andThen]
   have hv:∀ (x:Value) w1,(pure (Next.value x):Sem Next).run P w1 ≠ .ok (.enter f args) w'/\(pure (Next.value x):Sem Next).run P w1 ≠ .ok .skip w':=fun x w1=>by simp [Sem.run_pure]
   have hp:∀ w1,(runtimePanic RuntimeError.nilDeref:Sem Next).run P w1 ≠ .ok (.enter f args) w'/\(runtimePanic RuntimeError.nilDeref:Sem Next).run P w1 ≠ .ok .skip w':=fun w1=>by
    simp [runtimePanic]
   cases e2:ρ a with
   | pointer p =>
    cases p with
    | none=>simp only [execOp,e,e2]; exact hp w
    | some p=>simp only [execOp,e,e2]; exact hv _ w
   | func fn first captured =>
    cases fn with
    | method name =>
     simp only [execOp,e,e2];split
     ·exact hp w
     ·refine hb _ _ _ fun x w1=>hb _ _ _ fun y w2=>?_;split
      ·exact hb _ _ _ fun z w3=>hv _ w3
      ·exact hv _ w2
     ·exact hv _ w
    | _=>simp only [execOp,e,e2]; exact hv _ w
   | nilIface=>simp only [execOp,e,e2]; exact hp w
   | nilFunc=>simp only [execOp,e,e2]; exact hp w
   | _=>simp only [execOp,e,e2]; exact hv _ w
  ·rename_i t a k;simp only [execOp,e,Sem.run_bind,Sem.run_pure];cases (Instr.fieldAt t (ρ a) k).run P w <;> simp [Result.andThen]
  ·rename_i t a k;simp only [execOp,e,Sem.run_bind,Sem.run_pure];cases (Instr.indexAt t (ρ a) (ρ k)).run P w <;> simp [Result.andThen]
 generalize hr:(execOp ρ o).run P w=r at hq key ⊢;cases r with
 | ok x w' =>
  cases x with
  | value u=>obtain ⟨rfl,rfl⟩:=hq; rfl
  | skip=>exact absurd rfl (key 0 #[] w').2
  | enter f args=>exact absurd rfl (key f args w').1
  | _=>exact hq.elim
 | halt x w'=>exact hq.elim
def YA (l:List Oper) (i j:Nat):Bool:=match l.toArray[i]? with | some p=>p.after.any fun e=>e.on == j && Region.binds .any e | none=>false
def Z3 (l:List Oper) (n:Nat):Nat->Nat->Bool
 | 0,_=>false
 | f+1,j=>YA l n j || (List.range n).any fun i=>YA l i j && Z3 l n f i
theorem US {l:List Oper} {n:Nat} {L:Array Bool} (h1:∀ j,YA l n j=true->L.getD j true=true) (h2:∀ i j,YA l i j=true->L.getD i true=true->L.getD j true=true):∀ f j,Z3 l n f j=true->L.getD j true=true
 | 0,_,h=>by cases h
 | f+1,j,h=>by
  unfold Z3 at h;rw [Bool.or_eq_true,List.any_eq_true] at h;rcases h with h | ⟨i,_,h⟩
  ·exact h1 j h
  ·rw [Bool.and_eq_true] at h;exact h2 i j h.1 (US h1 h2 f i h.2)
def Vg (l:List Oper) (n q:Nat):Bool :=
  Region.noSelect l.toArray && UQ l && decide (n+q<l.length/\q<=1) && Xw (l.take n) &&
  (List.range l.length).all fun j=>match l.toArray[j]? with
    | some o => o.guard.isNone && (if j < n then
          o.dst.isSome && ((List.range n).all fun i=>(i == j) || (match l.toArray[i]? with | some p=>p.dst != o.dst | none=>false)) &&
          (o.op.operands.toList.all fun x=>match x with
            | .tmp t => ((List.range l.length).all fun i => decide (i < n) || (match l.toArray[i]? with | some p => p.dst != some t || p.after.any fun e => e.on == j && Region.binds .any e | none => false)) &&
                (List.range n).all fun i=>match l.toArray[i]? with | some p=>(p.dst != some t) || o.after.any fun e=>e.on == i && Region.binds .any e | none=>false
            | _=>true) &&
          (XM o.op || (UR o.op && Z3 l (n+q) 6 j) || Z3 l n 6 j)
        else
          (j == n || o.after.any fun e=>e.on == j - 1 && Region.binds .any e) &&
          (match o.dst with | some t=>(List.range n).all fun i=>(match l.toArray[i]? with | some p=>p.dst != some t | none=>false) | none=>true) &&
          (o.op.operands.toList.all fun x=>match x with
            | .tmp t=>(List.range n).all fun i=>match l.toArray[i]? with | some p=>(p.dst != some t) || o.after.any fun e=>e.on == i && Region.binds .any e | none=>false
            | _=>true))
    | none=>false
section
variable {P:Program} {W:World} {l:List Oper} {n q d:Nat} {A:Act}
abbrev Nrm (Q:Exit->Act->World->Prop):Exit->Act->World->Prop:=fun e a w=>e=.normal/\Q .normal a w
structure Gt (P:Program) (l:List Oper) (n q d:Nat) (A:Act) (W:World) (Q:Exit->Act->World->Prop) (L:Array Bool) (a:Act) (w:World) (k:Nat) (B:Act):Prop where
 size:a.tmps.size=B.tmps.size
 defers:a.defers=B.defers
 agree:∀ t,(∀ j o,j<n->l[j]?=some o->o.dst=some t->L.getD j true=true)->a.tmps[t]?=B.tmps[t]?
 keep:∀ t,(∀ i o,n<=i->i<n+k->l[i]?=some o->o.dst≠some t)->B.tmps[t]?=A.tmps[t]?
 le:n+k<=l.length
 tail:∀ i,n<=i->i<l.length->L.getD i true=decide (i<n+k)
 first:0<k->∀ j o,j<n->l[j]?=some o->XM o.op=false->UR o.op=false->L.getD j true=true
 second:q<k->∀ j o,j<n->l[j]?=some o->XM o.op=false->L.getD j true=true
 zero:k=0->B=A
 sT:k<=q->Yc W w
 wp:0<k->wpList P l.toArray (Nrm Q) (l.drop (n+k)) B w
 bsize:B.tmps.size=A.tmps.size
 closed:∀ i j,i<l.length->j<l.length->YA l i j=true->L.getD i true=true->L.getD j true=true
 low:∀ j,j<d->L.getD j true=true
theorem J2 {o:Oper} {a B:Act} {K K':Act->World->Prop} {Q Q0:Exit->Act->World->Prop} {r:Result Next} (hK:∀ v w,K (B.put o.dst v) w->K' (a.put o.dst v) w) (hD:∀ d w,K ({ B with defers:=d :: B.defers }.put o.dst undef) w->K' ({ a with defers:=d :: a.defers }.put o.dst undef) w)
  (h:o.upon P B K (Nrm Q0) r):o.upon P a K' Q r:=by
 cases r with
 | ok x w =>
  cases x with
  | value v=>exact hK v w h
  | skip=>exact hK undef w h
  | defer d=>exact hD d w h
  | enter f args =>
   refine Calls.mono (show Calls P f args w _ from h) ?_;intro e w2 he;cases e with
   | returned v=>exact hK v w2 he
   | panicked c=>exact absurd he.1 (by simp)
   | outgrown=>obtain ⟨a0,w0,h0,_⟩:=he; cases h0
  | row row args=>exact Rows.mono (show Rows P row args w _ from h) fun v w2 he=>hK v w2 he
  | _=>exact h.elim
 | halt x w =>
  cases x <;> first | exact h.elim | exact absurd h.1 (by simp)
theorem Gu {j:Nat} {o:Oper} (h:l[j]?=some o):l.drop j=o :: l.drop (j+1):=by
 obtain ⟨hj,e⟩:=List.getElem?_eq_some_iff.1 h;rw [<- e];exact List.drop_eq_getElem_cons hj
theorem K7 {Q:Exit->Act->World->Prop} (hB:Vg l n q=true)
  (hS:q=1->∀ o,l[n]?=some o->∀ u,Yc W u->∃ v u',(execOp A.eval o).run P u=.ok (.value v) u'/\Yc u u')
  (hop:∀ j o,d<=j->j<n->l[j]?=some o->∀ w,Yc W w->∀ t,o.dst=some t->o.quietAt P A (fun u=>Yc w u) w (A.tmps.getD t undef)/\t<A.tmps.size)
  (hT:∀ u,Yc W u->wpList P l.toArray (Nrm Q) (l.drop n) A u) :
  ∀ (f:Nat) (L:Array Bool) (a:Act) (w:World) (k:Nat) (B:Act),L.size=l.length->cnt L l.length=f->Gt P l n q d A W Q L a w k B->wpAny P .any l.toArray Q f L a w
 | 0,L,a,w,k,B,hLs,hcnt,hm=>by
  have hall:=Vc hcnt;have hB':=hB;unfold Vg at hB';simp only [Bool.and_eq_true,decide_eq_true_eq] at hB';obtain ⟨⟨⟨_,⟨hnl,_⟩⟩,_⟩,_⟩:=hB';refine ⟨?_, ?_⟩
  ·rw [List.eq_nil_iff_forall_not_mem];intro j hj;obtain ⟨hju,o,ho,_⟩:=mem_ready.1 hj;have hjl:j<l.length:=by have:=(Array.getElem?_eq_some_iff.1 ho).1; simpa using this
   rw [hall j hjl] at hju;cases hju
  ·have hk:l.length<=n+k:=by
    have:=hm.tail (l.length - 1) (by omega) (by omega);rw [hall _ (by omega)] at this;have:=of_decide_eq_true this.symm;omega
   have hw:=hm.wp (by omega);rw [List.drop_eq_nil_of_le hk] at hw;have e:a=B:=by
    obtain ⟨ts,df⟩:=a;obtain ⟨Ts,Df⟩:=B;have g1:df=Df:=hm.defers;have g2:ts=Ts:=by
     apply Array.ext_getElem?;intro t;exact hm.agree t fun j o hj ho _=>hall j (by omega)
    rw [g1,g2]
   rw [e];exact hw.2
 | f+1,L,a,w,k,B,hLs,hcnt,hm=>by
  have hB0:=hB;unfold Vg at hB;simp only [Bool.and_eq_true,decide_eq_true_eq] at hB;obtain ⟨⟨⟨⟨hsel,hlow⟩,⟨hnl,hq1⟩⟩,_⟩,hall⟩:=hB;obtain ⟨i,hi,hun,hmin⟩:=VR (L:=L) (n:=l.length) (by omega);refine ⟨fun h0=>?_,fun j hj=>?_⟩
  ·exfalso;obtain ⟨o,ho⟩:∃ o,l.toArray[i]?=some o:=⟨_,Array.getElem?_eq_getElem (by simpa using hi)⟩;have:i∈Region.ready .any l.toArray L:=mem_ready.2 ⟨hun,o,ho,fun e he hb=>by
    have hlt:=VW hlow hi ho e he hb;have hin:e.on<L.size:=by omega
    have:=hmin e.on hlt;simp [hin] at this ⊢;exact this⟩
   rw [h0] at this;cases this
  ·obtain ⟨hju,o,ho,hwait⟩:=mem_ready.1 hj;have hjl:j<l.length:=by have:=(Array.getElem?_eq_some_iff.1 ho).1; simpa using this
   have ho':l[j]?=some o:=by simpa using ho
   have hJ:=List.all_eq_true.1 hall j (List.mem_range.2 hjl);simp only [ho,Bool.and_eq_true] at hJ;obtain ⟨hg0,hJ⟩:=hJ;have hg:o.guard=none:=by simpa using hg0
   have next:∀ (a':Act) (w':World) (k':Nat) (B':Act),Gt P l n q d A W Q (L.setIfInBounds j true) a' w' k' B'->wpAny P .any l.toArray Q f (L.setIfInBounds j true) a' w':=fun a' w' k' B' hm' =>
    K7 hB0 hS hop hT f _ a' w' k' B' (by simp [hLs]) (by have:=V0 hju hjl; omega) hm'
   have hset:∀ k,k≠j->(L.setIfInBounds j true).getD k true=L.getD k true:=fun k hk=>getD_set_ne true (Ne.symm hk);have hself:(L.setIfInBounds j true).getD j true=true:=by simp [show j<L.size by omega]
   have hcl:∀ i j',i<l.length->j' < l.length->YA l i j'=true->(L.setIfInBounds j true).getD i true=true->(L.setIfInBounds j true).getD j' true=true:=fun i j' hi hj' he hl=>by
    by_cases e2:j'=j
    ·rw [e2]; simp [show j<L.size by omega]
    ·rw [hset j' e2];by_cases e1:i=j
     ·subst e1;unfold YA at he;simp only [ho] at he;obtain ⟨e,he1,hb⟩:=Array.any_eq_true'.1 he;simp only [Bool.and_eq_true,beq_iff_eq] at hb;have:=hwait e he1 hb.2;rw [hb.1] at this;exact XK (by omega) this
     ·rw [hset i e1] at hl;exact hm.closed i j' hi hj' he hl
   have hmore:∀ k,L.getD k true=true->(L.setIfInBounds j true).getD k true=true:=fun k hk=>by
    by_cases e:k=j
    ·rw [e]; exact hself
    ·rw [hset k e]; exact hk
   -- what an operation waits for is done
   have hdone:∀ i,i<l.length->(o.after.any fun e=>e.on == i && Region.binds .any e)=true->L.getD i true=true:=fun i hi h=>by
    obtain ⟨e,he,hb⟩:=Array.any_eq_true'.1 h;simp only [Bool.and_eq_true,beq_iff_eq] at hb;have:=hwait e he hb.2;rw [hb.1] at this;exact XK (by omega) this
   have hprod:∀ s,((List.range n).all fun i=>match l.toArray[i]? with | some p=>(p.dst != some s) || o.after.any fun e=>e.on == i && Region.binds .any e | none=>false)=true->∀ i p,i<n->l[i]?=some p->p.dst=some s->L.getD i true=true:=fun s h i p hi hp hps=>by
    have h6:=List.all_eq_true.1 h i (List.mem_range.2 hi);have hp':l.toArray[i]?=some p:=by simpa using hp
    simp only [hp',Bool.or_eq_true] at h6;rcases h6 with h6 | h6
    ·rw [hps] at h6; simp at h6
    ·exact hdone i (by omega) h6
   unfold wpOp;simp only [ho];rw [if_pos (by unfold Region.wanted; rw [hg])];refine .inl ?_;by_cases hjn:j<n
   ·rw [if_pos hjn] at hJ;simp only [Bool.and_eq_true] at hJ;obtain ⟨⟨⟨h1,h2⟩,h3⟩,h4⟩:=hJ;obtain ⟨t,ht⟩:∃ t,o.dst=some t:=Option.isSome_iff_exists.1 h1;have hdj:d<=j:=Nat.le_of_not_lt fun h=>by rw [hm.low j h] at hju; cases hju
    have hcong:execOp a.eval o=execOp A.eval o:=execOp_congr o (fun cs b=>Region.noSelect_spec hsel j o cs b ho) fun x hx=>by
     cases x with
     | tmp s =>
      have h5:=List.all_eq_true.1 h3 (.tmp s) (by simpa using hx);simp only [Bool.and_eq_true] at h5;refine XJ ?_;rw [hm.agree s fun i p hi hp hps=>hprod s h5.2 i p hi hp hps];refine hm.keep s fun i p hi hik hp hps=>?_;have hil:i<l.length:=(List.getElem?_eq_some_iff.1 hp).1;have h6:=List.all_eq_true.1 h5.1 i (List.mem_range.2 hil);have hp':l.toArray[i]?=some p:=by simpa using hp
      simp only [hp',show ¬ i<n by omega,decide_false,Bool.false_or] at h6;rw [hps] at h6;have h7:YA l i j=true:=by
       unfold YA;simp only [hp'];simpa using h6
      rw [hm.closed i j hil hjl h7 (by rw [hm.tail i hi hil]; simpa using hik)] at hju;cases hju
     | const v=>rfl
     | global g=>rfl
     | func f=>rfl
    have hta:=(hop j o hdj hjn ho' W (Fr.refl _ _) t ht).2;have hAt:A.tmps[t]?=some (A.tmps.getD t undef):=by simp [hta]
    have htail:∀ i p,n<=i->l[i]?=some p->p.dst≠some t:=fun i p hi hp hps=>by
     have hil:i<l.length:=(List.getElem?_eq_some_iff.1 hp).1;have h5:=List.all_eq_true.1 hall i (List.mem_range.2 hil);have hp':l.toArray[i]?=some p:=by simpa using hp
     simp only [hp',Bool.and_eq_true] at h5;have h6:=h5.2;rw [if_neg (by omega)] at h6;simp only [Bool.and_eq_true,hps] at h6;have h7:=List.all_eq_true.1 h6.1.2 j (List.mem_range.2 hjn);simp only [ho,ht] at h7;simp at h7
    have hagree:∀ s,(∀ i p,i<n->l[i]?=some p->p.dst=some s->(L.setIfInBounds j true).getD i true=true)->(a.put o.dst (A.tmps.getD t undef)).tmps[s]?=B.tmps[s]?:=fun s hs=>by
     by_cases e:t=s
     ·subst e;simp only [Act.put,ht];rw [ZN (by rw [hm.size,hm.bsize]; exact hta),hm.keep t (fun i p hi _ hp=>htail i p hi hp),hAt]
     ·simp only [Act.put,ht,Array.getElem?_setIfInBounds_ne e];refine hm.agree s fun i p hi hp hps=>?_;have hij:i≠j:=fun e2=>by
       subst e2;rw [ho'] at hp;obtain rfl:o=p:=Option.some.inj hp;exact e (Option.some.inj (ht.symm.trans hps))
      rw [<- hset i hij];exact hs i p hi hp hps
    have htl:∀ i,n<=i->i<l.length->(L.setIfInBounds j true).getD i true=decide (i<n+k):=fun i hi hil=>by
     rw [hset i (by omega)];exact hm.tail i hi hil
    by_cases hk:k=0
    ·have hst:=hm.sT (by omega);have hBA:=hm.zero hk;have hqa:=(hop j o hdj hjn ho' w hst t ht).1;have hq':o.quietAt P a (fun u=>Yc w u) w (A.tmps.getD t undef):=by
      unfold Oper.quietAt at hqa ⊢;rw [hcong];exact hqa
     refine UP hq' fun w' hw'=>next _ w' k B ⟨by simp [Act.put,ht,hm.size],by simp [Act.put,ht,hm.defers],hagree,hm.keep,hm.le,htl,fun h=>by omega,fun h=>by omega,fun _=>hBA,fun _=>hst.trans hw',fun h=>by omega,hm.bsize,hcl,fun i hi=>hmore i (hm.low i hi)⟩
    ·have hrun:(execOp A.eval o).run P w=.ok (.value (A.tmps.getD t undef)) w:=by
      cases e:XM o.op with
      | true=>exact Gs e A.eval (hop j o hdj hjn ho' W (Fr.refl _ _) t ht).1 w
      | false =>
       by_cases hkq:k<=q
       ·cases e2:UR o.op with
        | true=>exact Ex e2 A.eval (hop j o hdj hjn ho' w (hm.sT hkq) t ht).1
        | false=>rw [hm.first (by omega) j o hjn ho' e e2] at hju; cases hju
       ·rw [hm.second (by omega) j o hjn ho' e] at hju; cases hju
     unfold Oper.wp;rw [hcong,hrun,Oper.upon_value];exact next _ w k B ⟨by simp [Act.put,ht,hm.size],by simp [Act.put,ht,hm.defers],hagree,hm.keep,hm.le,htl,fun h i p hi hp h1 h2=>hmore i (hm.first h i p hi hp h1 h2),fun h i p hi hp h1=>hmore i (hm.second h i p hi hp h1),fun h=>absurd h hk,hm.sT,hm.wp,hm.bsize,hcl,fun i hi=>hmore i (hm.low i hi)⟩
   ·rw [if_neg hjn] at hJ;simp only [Bool.and_eq_true] at hJ;obtain ⟨⟨h1,h2⟩,h3⟩:=hJ;have hjk:j=n+k:=by
     have h5:=hm.tail j (by omega) hjl;rw [hju] at h5;have h6:¬ j<n+k:=by simpa using h5.symm
     by_cases e:j=n
     ·omega
     ·have e':(j == n)=false:=by simpa using e
      rw [e',Bool.false_or] at h1;have h7:=hdone (j - 1) (by omega) h1;rw [hm.tail (j - 1) (by omega) (by omega)] at h7;have:=of_decide_eq_true h7;omega
    have hcong:execOp a.eval o=execOp B.eval o:=execOp_congr o (fun cs b=>Region.noSelect_spec hsel j o cs b ho) fun x hx=>by
     cases x with
     | tmp s=>exact XJ (hm.agree s fun i p hi hp hps=>hprod s (List.all_eq_true.1 h3 (.tmp s) (by simpa using hx)) i p hi hp hps)
     | const v=>rfl
     | global g=>rfl
     | func f=>rfl
    have hw:wpList P l.toArray (Nrm Q) (o :: l.drop (n+(k+1))) B w:=by
     have e:l.drop (n+k)=o :: l.drop (n+(k+1)):=by rw [<- hjk,Gu ho',hjk]; rfl
     rw [<- e];by_cases hk:k=0
     ·have hst:=hm.sT (by omega);have hBA:=hm.zero hk;subst hk;rw [hBA];exact hT w hst
     ·exact hm.wp (by omega)
    unfold wpList at hw;rw [if_pos (by unfold Region.wanted; rw [hg])] at hw;have hw2:o.upon P B (wpList P l.toArray (Nrm Q) (l.drop (n+(k+1)))) (Nrm Q) ((execOp B.eval o).run P w):=by
     rcases hw with hw | ⟨_,a0,w0,h0,_⟩
     ·exact hw
     ·cases h0
    have hsm:∀ i j',YA l i j'=true->i<l.length/\j' < l.length:=fun i j' he=>by
     unfold YA at he;cases eo:l.toArray[i]? with
     | none=>rw [eo] at he; cases he
     | some q =>
      have hil:i<l.length:=by have:=(Array.getElem?_eq_some_iff.1 eo).1; simpa using this
      simp only [eo] at he;obtain ⟨e,he1,hb⟩:=Array.any_eq_true'.1 he;simp only [Bool.and_eq_true,beq_iff_eq] at hb;have:=VW hlow hil eo e he1 hb.2;exact ⟨hil,by omega⟩
    have hkind:∀ i p,i<n->l[i]?=some p->(XM p.op || (UR p.op && Z3 l (n+q) 6 i) || Z3 l n 6 i)=true:=fun i p hi hp=>by
     have h5:=List.all_eq_true.1 hall i (List.mem_range.2 (by omega));have hp':l.toArray[i]?=some p:=by simpa using hp
     simp only [hp',Bool.and_eq_true] at h5;have h6:=h5.2;rw [if_pos hi] at h6;simp only [Bool.and_eq_true] at h6;exact h6.2
    have hedge:∀ j',YA l j j'=true->L.getD j' true=true:=fun j' he=>by
     have hj':=(hsm j j' he).2;unfold YA at he;simp only [ho] at he;exact hdone j' hj' he
    have hreachj:∀ i,Z3 l j 6 i=true->L.getD i true=true:=fun i h7=>US (n:=j) hedge (fun i1 j1 he hl1=>hm.closed i1 j1 (hsm i1 j1 he).1 (hsm i1 j1 he).2 he hl1) 6 i h7;have hreach0:k=0->∀ i,Z3 l n 6 i=true->L.getD i true=true:=fun hk i h7=>hreachj i (by rw [hjk,hk]; exact h7);have hreachq:k=q->∀ i,Z3 l (n+q) 6 i=true->L.getD i true=true:=fun hk i h7=>hreachj i (by rw [hjk,hk]; exact h7);have step:∀ (a1 B1:Act) (w1:World),a1.tmps.size=B1.tmps.size->B1.tmps.size=A.tmps.size->a1.defers=B1.defers->(∀ s,(∀ i p,i<n->l[i]?=some p->p.dst=some s->L.getD i true=true)->a1.tmps[s]?=B1.tmps[s]?)->(∀ s,(∀ i p,n<=i->i<n+(k+1)->l[i]?=some p->p.dst≠some s)->B1.tmps[s]?=A.tmps[s]?)->wpList P l.toArray (Nrm Q) (l.drop (n+(k+1))) B1 w1->(k+1<=q->Yc W w1)->wpAny P .any l.toArray Q f (L.setIfInBounds j true) a1 w1:=fun a1 B1 w1 g1 g2 g3 g4 g5 g6 g7 =>
     next a1 w1 (k+1) B1 ⟨g1,g3,fun s hs=>g4 s fun i p hi hp hps=>by rw [<- hset i (by omega)]; exact hs i p hi hp hps,g5,by omega,fun i hi hil=>by
      by_cases e:i=j
      ·rw [e,hself]; symm; simp; omega
      ·rw [hset i e,hm.tail i hi hil];have:(i<n+k) ↔ (i<n+(k+1)):=by omega
       simp [this],
      fun _ i p hi hp hpp hpl=>by
       rw [hset i (by omega)];by_cases hk:k=0
       ·have h6:=hkind i p hi hp;rw [hpp,hpl] at h6;exact hreach0 hk i (by simpa using h6)
       ·exact hm.first (by omega) i p hi hp hpp hpl,
      fun hq2 i p hi hp hpp=>by
       rw [hset i (by omega)];by_cases hk:k=q
       ·have h6:=hkind i p hi hp;rw [hpp,Bool.false_or,Bool.or_eq_true,Bool.and_eq_true] at h6;rcases h6 with h6 | h6
        ·exact hreachq hk i h6.2
        ·by_cases hk0:k=0
         ·exact hreach0 hk0 i h6
         ·refine US (n:=n) (fun j' he=>hm.closed n j' (by omega) (hsm n j' he).2 he ?_) (fun i1 j1 he hl1=>hm.closed i1 j1 (hsm i1 j1 he).1 (hsm i1 j1 he).2 he hl1) 6 i h6;rw [hm.tail n (by omega) (by omega)];simp; omega
       ·exact hm.second (by omega) i p hi hp hpp,
      fun h=>by omega,g7,fun _=>g6,g2,hcl,fun i hi=>hmore i (hm.low i hi)⟩
    have hd:∀ t,o.dst=some t->∀ i p,i<n->l[i]?=some p->p.dst≠some t:=fun t ht i p hi hp hps=>by
     rw [ht] at h2;have h5:=List.all_eq_true.1 h2 i (List.mem_range.2 hi);have hp':l.toArray[i]?=some p:=by simpa using hp
     simp only [hp',hps] at h5;simp at h5
    have put:∀ (a1 B1:Act) (v:Value) (w1:World),a1.tmps=a.tmps->B1.tmps=B.tmps->a1.defers=B1.defers->wpList P l.toArray (Nrm Q) (l.drop (n+(k+1))) (B1.put o.dst v) w1->(k+1<=q->Yc W w1)->wpAny P .any l.toArray Q f (L.setIfInBounds j true) (a1.put o.dst v) w1:=fun a1 B1 v w1 e1 e2 e3 hw1 hs1=>by
     cases ht:o.dst with
     | none =>
      rw [ht] at hw1;exact step a1 B1 w1 (by rw [e1,e2]; exact hm.size) (by rw [e2]; exact hm.bsize) e3 (fun s hs=>by rw [e1,e2]; exact hm.agree s hs) (fun s hs=>by rw [e2]; exact hm.keep s (fun i p h1 h2 hp=>hs i p h1 (by omega) hp)) hw1 hs1
     | some t =>
      rw [ht] at hw1;refine step _ _ w1 (by simp [Act.put,e1,e2,hm.size]) (by simp [Act.put,e2,hm.bsize]) (by simp [Act.put,e3]) (fun s hs=>?_) (fun s hs=>?_) hw1 hs1
      ·by_cases e:t=s
       ·subst e;simp only [Act.put,e1,e2];by_cases hlt:t<a.tmps.size
        ·rw [ZN hlt,ZN (by rw [<- hm.size]; exact hlt)]
        ·rw [Array.getElem?_eq_none (show (a.tmps.setIfInBounds t v).size<=t by rw [Array.size_setIfInBounds]; exact Nat.le_of_not_lt hlt),Array.getElem?_eq_none (show (B.tmps.setIfInBounds t v).size<=t by rw [Array.size_setIfInBounds,<- hm.size]; exact Nat.le_of_not_lt hlt)]
       ·simp only [Act.put,Array.getElem?_setIfInBounds_ne e,e1,e2];exact hm.agree s hs
      ·have hne:t≠s:=fun e=>hs j o (by omega) (by omega) ho' (by rw [ht,e]);simp only [Act.put,Array.getElem?_setIfInBounds_ne hne,e2];exact hm.keep s (fun i p h1 h2 hp=>hs i p h1 (by omega) hp)
    unfold Oper.wp;rw [hcong];by_cases hk:k=0/\q=1
    ·obtain ⟨hk,hq⟩:=hk;have hst:=hm.sT (by omega);have hBA:=hm.zero hk;obtain ⟨v,u',hrun,hsu⟩:=hS hq o (by rw [<- ho']; congr 1; omega) w hst;rw [hBA,hrun,Oper.upon_value] at hw2;rw [hBA,hrun,Oper.upon_value];exact put a A v u' rfl (by rw [hBA]) (by rw [hm.defers,hBA]) hw2 (fun _=>hst.trans hsu)
    ·exact J2 (fun v w1 hw1=>put a B v w1 rfl rfl hm.defers hw1 (fun h=>absurd ⟨by omega,by omega⟩ hk)) (fun d w1 hw1=>put { a with defers:=d :: a.defers } { B with defers:=d :: B.defers } undef w1 rfl rfl (by simp [hm.defers]) hw1 (fun h=>absurd ⟨by omega,by omega⟩ hk)) hw2
theorem J3 {id:Nat} {Q:Exit->Act->World->Prop} {a:Act} {w:World} (n q:Nat) (hm:P.follows .mixedOrders=true) (hB:Vg l n q=true) (hdB:XL (l.take n) a.tmps.size=true)
  (h:∃ A,(∀ u,Yc w u->wpQuiet P l.toArray (fun w'=>∃ z:Aft u,w'=z.u) (fun a'=>a'=A) (l.take n) a)/\(q=1->∀ o,l[n]?=some o->∀ u,Yc w u->∃ v u',(execOp A.eval o).run P u=.ok (.value v) u'/\Yc u u')/\∀ u,Yc w u->wpList P l.toArray (Nrm Q) (l.drop n) A u) :
  (Code.region id l.toArray true).wp P Q a w:=by
 obtain ⟨A,hwalk,hS,hT⟩:=h;have hB0:=hB;unfold Vg at hB;simp only [Bool.and_eq_true,decide_eq_true_eq] at hB;obtain ⟨⟨⟨⟨hsel,hlow⟩,⟨hnl,_⟩⟩,hgood⟩,hall⟩:=hB;have hin:∀ o∈l.take n,o∈l.toArray:=fun o ho=>by simpa using List.mem_of_mem_take ho
 have hsel':∀ o∈l.toArray,∀ cs b,o.op ≠ .select cs b:=fun o ho cs b=>by
  obtain ⟨i,hi,e⟩:=Array.mem_iff_getElem.1 ho;exact Region.noSelect_spec hsel i o cs b (by rw [Array.getElem?_eq_getElem hi,e])
 have hmem:∀ j o,j<n->l[j]?=some o->o∈l.take n:=fun j o hj ho=>List.mem_iff_getElem?.2 ⟨j,by rw [List.getElem?_take_of_lt hj]; exact ho⟩;obtain ⟨⟨e1,e2,e3⟩,_⟩:=Xx hsel' (l.take n) a hin hgood hdB (hwalk w (Fr.refl _ _));refine wp_region_any hm ?_;have hst0:Yc w { w with drawn:=w.drawn+1 }:=(Fr.refl _ w).drew;have key:=K7 (P:=P) (W:=w) (A:=A) (Q:=Q) (d:=0) hB0 hS (fun j o _ hj ho u hu t ht=>(Xx hsel' (l.take n) a hin hgood hdB (hwalk u hu)).2 o (hmem j o hj ho) t ht) hT l.length (Array.replicate l.length false) a { w with drawn:=w.drawn+1 } 0 A (by simp) (VS (Nat.le_refl _))
  ⟨e1.symm,e2.symm,fun t ht=>(e3 t fun o ho e=>?_).symm,fun _ _=>rfl,by omega,fun i hi hil=>by simp [hil]; omega,fun h=>by omega,fun h=>by omega,fun _=>rfl,fun _=>hst0,fun h=>by omega,rfl,fun i j hi _ _ hl=>by simp [hi] at hl,fun _ h=>absurd h (Nat.not_lt_zero _)⟩
 ·simpa using key
 ·obtain ⟨j,hj,e4⟩:=List.mem_iff_getElem.1 ho;have hjn:j<n:=by simp at hj; omega
  have:=ht j o hjn (by rw [<- List.getElem?_take_of_lt hjn,List.getElem?_eq_getElem hj,e4]) e;simp [show j<l.length by omega] at this
theorem K8 {id:Nat} {Q:Exit->Act->World->Prop} {a:Act} {w:World} (n:Nat) (hm:P.follows .mixedOrders=true) (hB:Vg l n 0=true) (hdB:XL (l.take n) a.tmps.size=true)
  (h:∃ A,(∀ u,Yc w u->wpQuiet P l.toArray (fun w'=>∃ z:Aft u,w'=z.u) (fun a'=>a'=A) (l.take n) a)/\∀ u,Yc w u->wpList P l.toArray (Nrm Q) (l.drop n) A u) :
  (Code.region id l.toArray true).wp P Q a w:=by
 obtain ⟨A,h1,h2⟩:=h;exact J3 n 0 hm hB hdB ⟨A,h1,fun h=>by omega,h2⟩
end
end Go.Proofs.YthcjckgmdokmdaaGreatDoor
set_option maxRecDepth 100000
namespace Go.Proofs.YthcjckgmdokmdaaGreatDoor
open Go
def UT (l:List Oper) (n:Nat):Bool :=
  Region.noSelect l.toArray && UQ l && decide (n+1<l.length) && Xw (l.take n) &&
  (List.range l.length).all fun j=>match l.toArray[j]? with
    | some o => o.guard.isNone && (if j < n then
          o.dst.isSome && ((List.range n).all fun i=>(i == j) || (match l.toArray[i]? with | some p=>p.dst != o.dst | none=>false)) &&
          (o.op.operands.toList.all fun x=>match x with
            | .tmp t => ((List.range l.length).all fun i => decide (i < n) || (match l.toArray[i]? with | some p => p.dst != some t || p.after.any fun e => e.on == j && Region.binds .any e | none => false)) &&
                (List.range n).all fun i=>match l.toArray[i]? with | some p=>(p.dst != some t) || o.after.any fun e=>e.on == i && Region.binds .any e | none=>false
            | _=>true) && Z3 l (n+1) 6 j
        else
          (decide (j<n+2) || Z3 l j 6 (n+1)) && (j == n || decide (n+1<j) || o.after.any fun e=>e.on == n && Region.binds .any e) &&
          (match o.dst with | some t=>(List.range n).all fun i=>(match l.toArray[i]? with | some p=>p.dst != some t | none=>false) | none=>true) &&
          (o.op.operands.toList.all fun x=>match x with
            | .tmp t=>(List.range n).all fun i=>match l.toArray[i]? with | some p=>(p.dst != some t) || o.after.any fun e=>e.on == i && Region.binds .any e | none=>false
            | _=>true))
    | none=>false
section
variable {P:Program} {W:World} {l:List Oper} {n m:Nat} {A:Act}
def Gv (P:Program) (l:List Oper) (n m:Nat) (Q:Exit->Act->World->Prop) (a:Act) (u:World):Prop :=
 ∃ A',XL ((l.drop (n+2)).take m) a.tmps.size=true/\(∀ z,Yc u z->wpQuiet P l.toArray (fun w'=>∃ y:Aft z,w'=y.u) (fun a'=>a'=A') ((l.drop (n+2)).take m) a)/\∀ z,Yc u z->wpList P l.toArray (Nrm Q) (l.drop (n+2+m)) A' z
def Two (P:Program) (l:List Oper) (n m:Nat) (Q:Exit->Act->World->Prop) (a:Act) (u:World):Prop :=
 ∀ z,Yc u z->∀ o,l[n+1]?=some o->wpList P l.toArray (Nrm fun _ a' u'=>Gv P l n m Q a' u') [o] a z
structure Gw (P:Program) (l:List Oper) (n m:Nat) (A:Act) (W:World) (Q:Exit->Act->World->Prop) (L:Array Bool) (a:Act) (w:World) (k:Nat) (B:Act):Prop where
 size:a.tmps.size=B.tmps.size
 defers:a.defers=B.defers
 agree:∀ t,(∀ j o,j<n->l[j]?=some o->o.dst=some t->L.getD j true=true)->a.tmps[t]?=B.tmps[t]?
 keep:∀ t,(∀ i o,n<=i->i<n+k->l[i]?=some o->o.dst≠some t)->B.tmps[t]?=A.tmps[t]?
 le:k<=1
 tail:∀ i,n<=i->i<l.length->L.getD i true=decide (i<n+k)
 zero:k=0->B=A
 sT:Yc W w
 wp:k=1->Two P l n m Q B w
 bsize:B.tmps.size=A.tmps.size
 closed:∀ i j,i<l.length->j<l.length->YA l i j=true->L.getD i true=true->L.getD j true=true
theorem Gy:∀ {r:List Oper} (i:Nat) {r':List Oper},r.drop i=r'->Xw r=true->Xw r'=true
 | r,0,r',e,h=>by rw [<- e]; exact h
 | [],i+1,r',e,h=>by rw [<- e]; rfl
 | o :: r,i+1,r',e,h=>by
  unfold Xw at h;simp only [Bool.and_eq_true] at h;exact Gy i (by simpa using e) h.2
theorem Ey {o:Oper} {R:Act->World->Prop} {B:Act} {r:Result Next} (h:o.upon P B (wpList P l.toArray (Nrm fun _ a u=>R a u) []) (Nrm fun _ a u=>R a u) r):o.upon P B R (Nrm fun _ a u=>R a u) r:=by
 cases r with
 | ok x w =>
  cases x with
  | value v=>exact (show Nrm (fun _ a u=>R a u) .normal _ _ from h).2
  | skip=>exact (show Nrm (fun _ a u=>R a u) .normal _ _ from h).2
  | defer d=>exact (show Nrm (fun _ a u=>R a u) .normal _ _ from h).2
  | enter f args =>
   refine Calls.mono (show Calls P f args w _ from h) ?_;intro e w2 he;cases e with
   | returned v=>exact (show Nrm (fun _ a u=>R a u) .normal _ _ from he).2
   | panicked c=>exact he
   | outgrown=>exact he
  | row row args=>exact Rows.mono (show Rows P row args w _ from h) fun v w2 he=>(show Nrm (fun _ a u=>R a u) .normal _ _ from he).2
  | _=>exact h.elim
 | halt x w=>cases x <;> exact h
theorem Gz {o:Oper} {R:Act->World->Prop} {B:Act} {w:World} (hg:o.guard=none) (hw:wpList P l.toArray (Nrm fun _ a u=>R a u) [o] B w):o.upon P B R (Nrm fun _ a u=>R a u) ((execOp B.eval o).run P w):=by
 unfold wpList at hw;rw [if_pos (by unfold Region.wanted; rw [hg])] at hw;rcases hw with hw | ⟨_,a0,w0,h0,_⟩
 ·exact Ey hw
 ·cases h0
theorem G7 {Q:Exit->Act->World->Prop} (hB:UT l n=true) (hB2:Vg l (n+2+m) 0=true)
  (hS:∀ o,l[n]?=some o->∀ u,Yc W u->wpList P l.toArray (Nrm fun _ a' u'=>Yc W u'/\Two P l n m Q a' u') [o] A u)
  (hop:∀ j o,j<n->l[j]?=some o->∀ w,Yc W w->∀ t,o.dst=some t->o.quietAt P A (fun u=>Yc w u) w (A.tmps.getD t undef)/\t<A.tmps.size) :
  ∀ (f:Nat) (L:Array Bool) (a:Act) (w:World) (k:Nat) (B:Act),L.size=l.length->cnt L l.length=f->Gw P l n m A W Q L a w k B->wpAny P .any l.toArray Q f L a w
 | 0,L,a,w,k,B,hLs,hcnt,hm=>by
  exfalso;have hall:=Vc hcnt;have hB':=hB;unfold UT at hB';simp only [Bool.and_eq_true,decide_eq_true_eq] at hB';have hnl:=hB'.1.1.2;have:=hm.tail (n+1) (by omega) hnl;rw [hall _ hnl] at this;have:=of_decide_eq_true this.symm;have:=hm.le;omega
 | f+1,L,a,w,k,B,hLs,hcnt,hm=>by
  have hB0:=hB;unfold UT at hB;simp only [Bool.and_eq_true,decide_eq_true_eq] at hB;obtain ⟨⟨⟨⟨hsel,hlow⟩,hnl⟩,_⟩,hall⟩:=hB;obtain ⟨i,hi,hun,hmin⟩:=VR (L:=L) (n:=l.length) (by omega);refine ⟨fun h0=>?_,fun j hj=>?_⟩
  ·exfalso;obtain ⟨o,ho⟩:∃ o,l.toArray[i]?=some o:=⟨_,Array.getElem?_eq_getElem (by simpa using hi)⟩;have:i∈Region.ready .any l.toArray L:=mem_ready.2 ⟨hun,o,ho,fun e he hb=>by
    have hlt:=VW hlow hi ho e he hb;have hin:e.on<L.size:=by omega
    have:=hmin e.on hlt;simp [hin] at this ⊢;exact this⟩
   rw [h0] at this;cases this
  ·obtain ⟨hju,o,ho,hwait⟩:=mem_ready.1 hj;have hjl:j<l.length:=by have:=(Array.getElem?_eq_some_iff.1 ho).1; simpa using this
   have ho':l[j]?=some o:=by simpa using ho
   have hJ:=List.all_eq_true.1 hall j (List.mem_range.2 hjl);simp only [ho,Bool.and_eq_true] at hJ;obtain ⟨hg0,hJ⟩:=hJ;have hg:o.guard=none:=by simpa using hg0
   have next:∀ (a':Act) (w':World) (k':Nat) (B':Act),Gw P l n m A W Q (L.setIfInBounds j true) a' w' k' B'->wpAny P .any l.toArray Q f (L.setIfInBounds j true) a' w':=fun a' w' k' B' hm' =>
    G7 hB0 hB2 hS hop f _ a' w' k' B' (by simp [hLs]) (by have:=V0 hju hjl; omega) hm'
   have hset:∀ k,k≠j->(L.setIfInBounds j true).getD k true=L.getD k true:=fun k hk=>getD_set_ne true (Ne.symm hk);have hself:(L.setIfInBounds j true).getD j true=true:=by simp [show j<L.size by omega]
   have hcl:∀ i j',i<l.length->j' < l.length->YA l i j'=true->(L.setIfInBounds j true).getD i true=true->(L.setIfInBounds j true).getD j' true=true:=fun i j' hi hj' he hl=>by
    by_cases e2:j'=j
    ·rw [e2]; simp [show j<L.size by omega]
    ·rw [hset j' e2];by_cases e1:i=j
     ·subst e1;unfold YA at he;simp only [ho] at he;obtain ⟨e,he1,hb⟩:=Array.any_eq_true'.1 he;simp only [Bool.and_eq_true,beq_iff_eq] at hb;have:=hwait e he1 hb.2;rw [hb.1] at this;exact XK (by omega) this
     ·rw [hset i e1] at hl;exact hm.closed i j' hi hj' he hl
   have hmore:∀ k,L.getD k true=true->(L.setIfInBounds j true).getD k true=true:=fun k hk=>by
    by_cases e:k=j
    ·rw [e]; exact hself
    ·rw [hset k e]; exact hk
   -- what an operation waits for is done
   have hdone:∀ i,i<l.length->(o.after.any fun e=>e.on == i && Region.binds .any e)=true->L.getD i true=true:=fun i hi h=>by
    obtain ⟨e,he,hb⟩:=Array.any_eq_true'.1 h;simp only [Bool.and_eq_true,beq_iff_eq] at hb;have:=hwait e he hb.2;rw [hb.1] at this;exact XK (by omega) this
   have hprod:∀ s,((List.range n).all fun i=>match l.toArray[i]? with | some p=>(p.dst != some s) || o.after.any fun e=>e.on == i && Region.binds .any e | none=>false)=true->∀ i p,i<n->l[i]?=some p->p.dst=some s->L.getD i true=true:=fun s h i p hi hp hps=>by
    have h6:=List.all_eq_true.1 h i (List.mem_range.2 hi);have hp':l.toArray[i]?=some p:=by simpa using hp
    simp only [hp',Bool.or_eq_true] at h6;rcases h6 with h6 | h6
    ·rw [hps] at h6; simp at h6
    ·exact hdone i (by omega) h6
   unfold wpOp;simp only [ho];rw [if_pos (by unfold Region.wanted; rw [hg])];refine .inl ?_;by_cases hjn:j<n
   ·rw [if_pos hjn] at hJ;simp only [Bool.and_eq_true] at hJ;obtain ⟨⟨⟨h1,h2⟩,h3⟩,_⟩:=hJ;obtain ⟨t,ht⟩:∃ t,o.dst=some t:=Option.isSome_iff_exists.1 h1;have hcong:execOp a.eval o=execOp A.eval o:=execOp_congr o (fun cs b=>Region.noSelect_spec hsel j o cs b ho) fun x hx=>by
     cases x with
     | tmp s =>
      have h5:=List.all_eq_true.1 h3 (.tmp s) (by simpa using hx);simp only [Bool.and_eq_true] at h5;refine XJ ?_;rw [hm.agree s fun i p hi hp hps=>hprod s h5.2 i p hi hp hps];refine hm.keep s fun i p hi hik hp hps=>?_;have hil:i<l.length:=(List.getElem?_eq_some_iff.1 hp).1;have h6:=List.all_eq_true.1 h5.1 i (List.mem_range.2 hil);have hp':l.toArray[i]?=some p:=by simpa using hp
      simp only [hp',show ¬ i<n by omega,decide_false,Bool.false_or] at h6;rw [hps] at h6;have h7:YA l i j=true:=by
       unfold YA;simp only [hp'];simpa using h6
      rw [hm.closed i j hil hjl h7 (by rw [hm.tail i hi hil]; simpa using hik)] at hju;cases hju
     | const v=>rfl
     | global g=>rfl
     | func f=>rfl
    have hta:=(hop j o hjn ho' W (Fr.refl _ _) t ht).2;have hAt:A.tmps[t]?=some (A.tmps.getD t undef):=by simp [hta]
    have htail:∀ i p,n<=i->l[i]?=some p->p.dst≠some t:=fun i p hi hp hps=>by
     have hil:i<l.length:=(List.getElem?_eq_some_iff.1 hp).1;have h5:=List.all_eq_true.1 hall i (List.mem_range.2 hil);have hp':l.toArray[i]?=some p:=by simpa using hp
     simp only [hp',Bool.and_eq_true] at h5;have h6:=h5.2;rw [if_neg (by omega)] at h6;simp only [Bool.and_eq_true,hps] at h6;have h7:=List.all_eq_true.1 h6.1.2 j (List.mem_range.2 hjn);simp only [ho,ht] at h7;simp at h7
    have hagree:∀ s,(∀ i p,i<n->l[i]?=some p->p.dst=some s->(L.setIfInBounds j true).getD i true=true)->(a.put o.dst (A.tmps.getD t undef)).tmps[s]?=B.tmps[s]?:=fun s hs=>by
     by_cases e:t=s
     ·subst e;simp only [Act.put,ht];rw [ZN (by rw [hm.size,hm.bsize]; exact hta),hm.keep t (fun i p hi _ hp=>htail i p hi hp),hAt]
     ·simp only [Act.put,ht,Array.getElem?_setIfInBounds_ne e];refine hm.agree s fun i p hi hp hps=>?_;have hij:i≠j:=fun e2=>by
       subst e2;rw [ho'] at hp;obtain rfl:o=p:=Option.some.inj hp;exact e (Option.some.inj (ht.symm.trans hps))
      rw [<- hset i hij];exact hs i p hi hp hps
    have htl:∀ i,n<=i->i<l.length->(L.setIfInBounds j true).getD i true=decide (i<n+k):=fun i hi hil=>by
     rw [hset i (by omega)];exact hm.tail i hi hil
    have hst:=hm.sT;have hqa:=(hop j o hjn ho' w hst t ht).1;have hq':o.quietAt P a (fun u=>Yc w u) w (A.tmps.getD t undef):=by
     unfold Oper.quietAt at hqa ⊢;rw [hcong];exact hqa
    exact UP hq' fun w' hw'=>next _ w' k B ⟨by simp [Act.put,ht,hm.size],by simp [Act.put,ht,hm.defers],hagree,hm.keep,hm.le,htl,hm.zero,hst.trans hw',fun h z hz=>hm.wp h z (hw'.trans hz),hm.bsize,hcl⟩
   ·rw [if_neg hjn] at hJ;simp only [Bool.and_eq_true] at hJ;obtain ⟨⟨⟨h0,h1⟩,h2⟩,h3⟩:=hJ;have hsm:∀ i j',YA l i j'=true->i<l.length/\j' < l.length:=fun i j' he=>by
     unfold YA at he;cases eo:l.toArray[i]? with
     | none=>rw [eo] at he; cases he
     | some q =>
      have hil:i<l.length:=by have:=(Array.getElem?_eq_some_iff.1 eo).1; simpa using this
      simp only [eo] at he;obtain ⟨e,he1,hb⟩:=Array.any_eq_true'.1 he;simp only [Bool.and_eq_true,beq_iff_eq] at hb;have:=VW hlow hil eo e he1 hb.2;exact ⟨hil,by omega⟩
    have hedge:∀ j',YA l j j'=true->L.getD j' true=true:=fun j' he=>by
     have hj':=(hsm j j' he).2;unfold YA at he;simp only [ho] at he;exact hdone j' hj' he
    have hreachj:∀ i,Z3 l j 6 i=true->L.getD i true=true:=fun i h7=>US (n:=j) hedge (fun i1 j1 he hl1=>hm.closed i1 j1 (hsm i1 j1 he).1 (hsm i1 j1 he).2 he hl1) 6 i h7;have hj2:j<n+2:=by
     rw [Bool.or_eq_true] at h0;rcases h0 with h0 | h0
     ·exact of_decide_eq_true h0
     ·have h5:=hreachj _ h0;rw [hm.tail (n+1) (by omega) hnl] at h5;have:=of_decide_eq_true h5;have:=hm.le;omega
    have hjk:j=n+k:=by
     have h5:=hm.tail j (by omega) hjl;rw [hju] at h5;have h6:¬ j<n+k:=by simpa using h5.symm
     by_cases e:j=n
     ·omega
     ·have e':(j == n)=false:=by simpa using e
      have e2:decide (n+1<j)=false:=by simp; omega
      rw [e',e2,Bool.false_or,Bool.false_or] at h1;have h7:=hdone n (by omega) h1;rw [hm.tail n (by omega) (by omega)] at h7;have:=of_decide_eq_true h7;omega
    have hcong:execOp a.eval o=execOp B.eval o:=execOp_congr o (fun cs b=>Region.noSelect_spec hsel j o cs b ho) fun x hx=>by
     cases x with
     | tmp s=>exact XJ (hm.agree s fun i p hi hp hps=>hprod s (List.all_eq_true.1 h3 (.tmp s) (by simpa using hx)) i p hi hp hps)
     | const v=>rfl
     | global g=>rfl
     | func f=>rfl
    -- the two frames behind it
    have hput:∀ (a1 B1:Act) (v:Value),a1.tmps=a.tmps->B1.tmps=B.tmps->(a1.put o.dst v).tmps.size=(B1.put o.dst v).tmps.size/\∀ s,(∀ i p,i<n->l[i]?=some p->p.dst=some s->L.getD i true=true)->(a1.put o.dst v).tmps[s]?=(B1.put o.dst v).tmps[s]?:=fun a1 B1 v e1 e2=>by
     cases ht:o.dst with
     | none=>exact ⟨by simp [Act.put,e1,e2,hm.size],fun s hs=>by simp only [Act.put,e1,e2]; exact hm.agree s hs⟩
     | some t =>
      refine ⟨by simp [Act.put,e1,e2,hm.size],fun s hs=>?_⟩;by_cases e:t=s
      ·subst e;simp only [Act.put,e1,e2];by_cases hlt:t<a.tmps.size
       ·rw [ZN hlt,ZN (by rw [<- hm.size]; exact hlt)]
       ·rw [Array.getElem?_eq_none (show (a.tmps.setIfInBounds t v).size<=t by rw [Array.size_setIfInBounds]; exact Nat.le_of_not_lt hlt),Array.getElem?_eq_none (show (B.tmps.setIfInBounds t v).size<=t by rw [Array.size_setIfInBounds,<- hm.size]; exact Nat.le_of_not_lt hlt)]
      ·simp only [Act.put,Array.getElem?_setIfInBounds_ne e,e1,e2];exact hm.agree s hs
    unfold Oper.wp;rw [hcong];by_cases hk:k=0
    ·have hBA:=hm.zero hk;have hw:=Gz hg (hS o (by rw [<- ho']; congr 1; omega) w hm.sT);rw [<- hBA] at hw;have fin:∀ (a1 B1:Act) (v:Value) (w1:World),a1.tmps=a.tmps->B1.tmps=B.tmps->(a1.put o.dst v).defers=(B1.put o.dst v).defers->(Yc W w1/\Two P l n m Q (B1.put o.dst v) w1)->wpAny P .any l.toArray Q f (L.setIfInBounds j true) (a1.put o.dst v) w1:=fun a1 B1 v w1 e1 e2 e3 hr=>by
      obtain ⟨g1,g2⟩:=hput a1 B1 v e1 e2;refine next _ w1 1 (B1.put o.dst v) ⟨g1,e3,fun s hs=>g2 s fun i p hi hp hps=>by rw [<- hset i (by omega)]; exact hs i p hi hp hps,fun s hs=>?_,Nat.le_refl _,fun i hi hil=>?_,fun h=>by omega,hr.1,fun _=>hr.2, ?_,hcl⟩
      ·have hnj:=hs j o (by omega) (by omega) ho';cases ht:o.dst with
       | none=>simp only [Act.put,e2,hBA]
       | some t =>
        have:t≠s:=fun e=>hnj (by rw [ht,e]);simp only [Act.put,Array.getElem?_setIfInBounds_ne this,e2,hBA]
      ·by_cases e:i=j
       ·rw [e,hself]; symm; simp; omega
       ·rw [hset i e,hm.tail i hi hil];have:(i<n+k) ↔ (i<n+1):=by omega
        simp [this]
      ·cases ht:o.dst with
       | none=>simp [Act.put,e2,hm.bsize]
       | some t=>simp [Act.put,e2,hm.bsize]
     exact J2 (fun v w1 hr=>fin a B v w1 rfl rfl (by cases ht:o.dst <;> simp [Act.put,hm.defers]) hr) (fun dd w1 hr=>fin { a with defers:=dd :: a.defers } { B with defers:=dd :: B.defers } undef w1 rfl rfl (by cases ht:o.dst <;> simp [Act.put,hm.defers]) hr) hw
    ·have hk1:k=1:=by have:=hm.le; omega
     have hjn1:j=n+1:=by omega
     have hw:=Gz hg (hm.wp hk1 w (Fr.refl _ _) o (by rw [<- ho',hjn1]));have hlowL:∀ i,i<n+2->(L.setIfInBounds j true).getD i true=true:=fun i hi=>by
      by_cases e:i=j
      ·rw [e]; exact hself
      ·rw [hset i e];by_cases hin:i<n
       ·have h5:=List.all_eq_true.1 hall i (List.mem_range.2 (by omega));obtain ⟨p,hp⟩:∃ p,l.toArray[i]?=some p:=⟨_,Array.getElem?_eq_getElem (by simp; omega)⟩;simp only [hp,Bool.and_eq_true] at h5;have h6:=h5.2;rw [if_pos hin] at h6;simp only [Bool.and_eq_true] at h6;exact hreachj i (by rw [hjn1]; exact h6.2)
       ·rw [hm.tail i (by omega) (by omega)];simp; omega
     have fin:∀ (a1 B1:Act) (v:Value) (w1:World),a1.tmps=a.tmps->B1.tmps=B.tmps->(a1.put o.dst v).defers=(B1.put o.dst v).defers->Gv P l n m Q (B1.put o.dst v) w1->wpAny P .any l.toArray Q f (L.setIfInBounds j true) (a1.put o.dst v) w1:=fun a1 B1 v w1 e1 e2 e3 ⟨A',hd',hq',hT'⟩=>by
      obtain ⟨g1,g2⟩:=hput a1 B1 v e1 e2;have hsel':∀ o∈l.toArray,∀ cs b,o.op ≠ .select cs b:=fun o ho cs b=>by
       obtain ⟨i,hi,e⟩:=Array.mem_iff_getElem.1 ho;exact Region.noSelect_spec hsel i o cs b (by rw [Array.getElem?_eq_getElem hi,e])
      have hin:∀ o∈(l.drop (n+2)).take m,o∈l.toArray:=fun o ho=>by simpa using List.mem_of_mem_drop (List.mem_of_mem_take ho)
      have hB3:=hB2;unfold Vg at hB3;simp only [Bool.and_eq_true,decide_eq_true_eq] at hB3;obtain ⟨⟨⟨_,⟨hnl2,_⟩⟩,hgood⟩,hall2⟩:=hB3;have hgood2:Xw ((l.drop (n+2)).take m)=true:=Gy (n+2) (by rw [List.drop_take,show n+2+m - (n+2)=m by omega]) hgood;obtain ⟨⟨s1,s2,s3⟩,_⟩:=Xx hsel' _ _ hin hgood2 hd' (hq' w1 (Fr.refl _ _));have hat:∀ i p,n+2<=i->i<n+2+m->l[i]?=some p->p∈(l.drop (n+2)).take m:=fun i p h1 h2 hp=>List.mem_iff_getElem?.2 ⟨i - (n+2),by rw [List.getElem?_take_of_lt (by omega),List.getElem?_drop,show n+2+(i - (n+2))=i by omega]; exact hp⟩;have hfresh:∀ i,n+2<=i->i<l.length->(L.setIfInBounds j true).getD i true=false:=fun i h1 h2=>by
       rw [hset i (by omega),hm.tail i (by omega) h2];simp; omega
      refine K7 (d:=n+2) (W:=w1) (A:=A') hB2 (fun h=>by omega) (fun i p h1 h2 hp z hz t ht=>(Xx hsel' _ _ hin hgood2 hd' (hq' z hz)).2 p (hat i p h1 h2 hp) t ht) hT' f _ _ w1 0 A' (by simp [hLs]) (by have:=V0 hju hjl; omega)
       ⟨by rw [s1]; exact g1,by rw [s2]; exact e3,fun t ht=>?_,fun _ _=>rfl,by omega,fun i hi hil=>?_,fun h=>by omega,fun h=>by omega,fun _=>rfl,fun _=>Fr.refl _ _,fun h=>by omega,rfl,hcl,hlowL⟩
      ·rw [s3 t fun p hp e=>?_]
       ·exact g2 t fun i p hi hp hps=>by
         have:=ht i p (by omega) hp hps;rwa [hset i (by omega)] at this
       ·obtain ⟨i,hi,e4⟩:=List.mem_iff_getElem.1 hp;simp at hi;have hp':l[n+2+i]?=some p:=by
         rw [List.getElem_take,List.getElem_drop] at e4;rw [List.getElem?_eq_getElem (by omega),e4]
        have:=ht (n+2+i) p (by omega) hp' e;rw [hfresh _ (by omega) (by omega)] at this;cases this
      ·rw [hfresh i (by omega) hil];symm; simp; omega
     exact J2 (fun v w1 hr=>fin a B v w1 rfl rfl (by cases ht:o.dst <;> simp [Act.put,hm.defers]) hr) (fun dd w1 hr=>fin { a with defers:=dd :: a.defers } { B with defers:=dd :: B.defers } undef w1 rfl rfl (by cases ht:o.dst <;> simp [Act.put,hm.defers]) hr) hw
theorem Ez {id:Nat} {Q:Exit->Act->World->Prop} {a:Act} {w:World} (n m:Nat) (hm:P.follows .mixedOrders=true) (hB:UT l n=true) (hB2:Vg l (n+2+m) 0=true) (hdB:XL (l.take n) a.tmps.size=true)
  (h:∃ A,(∀ u,Yc w u->wpQuiet P l.toArray (fun w'=>∃ z:Aft u,w'=z.u) (fun a'=>a'=A) (l.take n) a)/\∀ o,l[n]?=some o->∀ u,Yc w u->wpList P l.toArray (Nrm fun _ a' u'=>Yc w u'/\Two P l n m Q a' u') [o] A u) :
  (Code.region id l.toArray true).wp P Q a w:=by
 obtain ⟨A,hwalk,hS⟩:=h;have hB0:=hB;unfold UT at hB;simp only [Bool.and_eq_true,decide_eq_true_eq] at hB;obtain ⟨⟨⟨⟨hsel,hlow⟩,hnl⟩,hgood⟩,hall⟩:=hB;have hin:∀ o∈l.take n,o∈l.toArray:=fun o ho=>by simpa using List.mem_of_mem_take ho
 have hsel':∀ o∈l.toArray,∀ cs b,o.op ≠ .select cs b:=fun o ho cs b=>by
  obtain ⟨i,hi,e⟩:=Array.mem_iff_getElem.1 ho;exact Region.noSelect_spec hsel i o cs b (by rw [Array.getElem?_eq_getElem hi,e])
 have hmem:∀ j o,j<n->l[j]?=some o->o∈l.take n:=fun j o hj ho=>List.mem_iff_getElem?.2 ⟨j,by rw [List.getElem?_take_of_lt hj]; exact ho⟩;obtain ⟨⟨e1,e2,e3⟩,_⟩:=Xx hsel' (l.take n) a hin hgood hdB (hwalk w (Fr.refl _ _));refine wp_region_any hm ?_;have hst0:Yc w { w with drawn:=w.drawn+1 }:=(Fr.refl _ w).drew;have key:=G7 (P:=P) (W:=w) (A:=A) (Q:=Q) hB0 hB2 hS (fun j o hj ho u hu t ht=>(Xx hsel' (l.take n) a hin hgood hdB (hwalk u hu)).2 o (hmem j o hj ho) t ht) l.length (Array.replicate l.length false) a { w with drawn:=w.drawn+1 } 0 A (by simp) (VS (Nat.le_refl _))
  ⟨e1.symm,e2.symm,fun t ht=>(e3 t fun o ho e=>?_).symm,fun _ _=>rfl,by omega,fun i hi hil=>by simp [hil]; omega,fun _=>rfl,hst0,fun h=>by omega,rfl,fun i j hi _ _ hl=>by simp [hi] at hl⟩
 ·simpa using key
 ·obtain ⟨j,hj,e4⟩:=List.mem_iff_getElem.1 ho;have hjn:j<n:=by simp at hj; omega
  have:=ht j o hjn (by rw [<- List.getElem?_take_of_lt hjn,List.getElem?_eq_getElem hj,e4]) e;simp [show j<l.length by omega] at this
end
end Go.Proofs.YthcjckgmdokmdaaGreatDoor
set_option maxRecDepth 100000
namespace Go.Proofs.YthcjckgmdokmdaaGreatDoor.Ap
open Pu Gp
/-! ### Cells -/
def dn (n:Int):Int:=n / 4096
theorem E0 (n:Int):(if n<n.tdiv 4096*4096 then n.tdiv 4096 - 1 else n.tdiv 4096)=dn n:=by
 unfold dn;rcases Int.le_total 0 n with h | h
 ·rw [Int.tdiv_eq_ediv_of_nonneg h];split <;> omega
 ·have e:n.tdiv 4096=-((-n) / 4096):=by
   rw [<- Int.tdiv_eq_ediv_of_nonneg (show 0 <= -n by omega),Int.neg_tdiv]; omega
  rw [e];split <;> omega
theorem J4 {a b:Int} (h:a<=b):dn a<=dn b:=by unfold dn; omega
theorem G8 {n:Int} (h0:-2147483647<=n) (h1:n<=2147483647):-524288<=dn n/\dn n<=524287:=by unfold dn; omega
def Ur (sol:Int->Int->Bool) (l t r b:Int):Bool:=(List.range (b - t+1).toNat).any fun j=>(List.range (r - l+1).toNat).any fun i=>sol (l+(i:Int)) (t+(j:Int))
theorem anyC_iff {sol:Int->Int->Bool} {l t r b:Int}:Ur sol l t r b=true ↔ ∃ i j,l<=i/\i<=r/\t<=j/\j<=b/\sol i j=true:=by
 unfold Ur;rw [List.any_eq_true];constructor
 ·rintro ⟨j,hj,h⟩;rw [List.any_eq_true] at h;obtain ⟨i,hi,h⟩:=h;rw [List.mem_range] at hi hj;exact ⟨l+i,t+j,by omega,by omega,by omega,by omega,h⟩
 ·rintro ⟨i,j,h1,h2,h3,h4,h⟩;refine ⟨(j - t).toNat,List.mem_range.2 (by omega), ?_⟩;rw [List.any_eq_true];refine ⟨(i - l).toNat,List.mem_range.2 (by omega), ?_⟩;rw [show l+((i - l).toNat:Int)=i by omega,show t+((j - t).toNat:Int)=j by omega];exact h
theorem E3 {sol:Int->Int->Bool} {l t r b:Int} (h:∀ i j,l<=i->i<=r->t<=j->j<=b->sol i j=false):Ur sol l t r b=false:=by
 cases k:Ur sol l t r b with
 | false=>rfl
 | true =>
  obtain ⟨i,j,h1,h2,h3,h4,h5⟩:=anyC_iff.1 k;rw [h i j h1 h2 h3 h4] at h5;cases h5
def tch (sol:Int->Int->Bool) (a b c d:Int):Bool:=Ur sol (dn a) (dn b) (dn c) (dn d)
/-! ### A way that is gone step by step -/
def go (t:Nat->Bool):Nat->Nat
 | 0=>0
 | n+1=>if go t n=n/\t (n+1)=false then n+1 else go t n
theorem Us (t:Nat->Bool):∀ n,go t n<=n
 | 0=>Nat.le_refl _
 | n+1=>by
  have:=Us t n;unfold go;split <;> omega
theorem K9 (t:Nat->Bool):∀ n j,1<=j->j<=go t n->t j=false
 | 0,j,h1,h2=>by simp [go] at h2; omega
 | n+1,j,h1,h2=>by
  unfold go at h2;split at h2
  ·rename_i h;by_cases hj:j=n+1
   ·subst hj; exact h.2
   ·exact K9 t n j h1 (by rw [h.1]; omega)
  ·exact K9 t n j h1 h2
theorem G9 (t:Nat->Bool):∀ n,go t n<n->t (go t n+1)=true
 | 0,h=>by omega
 | n+1,h=>by
  unfold go at h ⊢;split
  ·rename_i k; rw [if_pos k] at h; omega
  ·rename_i k;rw [if_neg k] at h;by_cases e:go t n=n
   ·rw [e];cases ht:t (n+1) with
    | true=>rfl
    | false=>exact absurd ⟨e,ht⟩ k
   ·exact G9 t n (by have:=Us t n; omega)
theorem Ut {t:Nat->Bool} {n k:Nat} (h1:k<=n) (h2:∀ j,1<=j->j<=k->t j=false) (h3:k<n->t (k+1)=true):go t n=k:=by
 have a:=Us t n;rcases Nat.lt_trichotomy (go t n) k with h | h | h
 ·have:=G9 t n (by omega);rw [h2 _ (by omega) (by omega)] at this;cases this
 ·exact h
 ·have:=h3 (by omega);rw [K9 t n (k+1) (by omega) (by omega)] at this;cases this
/-! ### Steps -/
def stp (n:Int):Int:=YB n (-2048) 2048
theorem J5 (n:Int):-2048<=stp n/\stp n<=2048:=by
 have h1:bnd (-2048)=-2048:=by decide
 have h2:bnd 2048=2048:=by decide
 unfold stp YB;rw [h1,h2];repeat' split
 all_goals omega
def sgn (n:Int):Int:=if 0<n then 1 else if n<0 then -1 else 0
def bdy (sol:Int->Int->Bool) (r x y:Int):Bool:=tch sol (Ys x r) (Ys y r) (Yj x r) (Yj y r)
end Go.Proofs.YthcjckgmdokmdaaGreatDoor.Ap
namespace Go.Proofs.YthcjckgmdokmdaaGreatDoor
open Go.RowKit
open Pu Gp Ap
abbrev ar (C R:Int) (s:ByteArray):Value:=.agg #[.int .i64 C,.int .i64 R,.string s]
def Ab (w:World) (b:Nat) (C R:Int) (s:ByteArray):Prop:=w.heap[b]?=some (.cells #[.int .i64 C,.int .i64 R,.string s] 24 (0,0))
theorem Ab.sT {w w':World} {b:Nat} {C R:Int} {s:ByteArray} (h:Ab w b C R s) (hs:Yc w w'):Ab w' b C R s:=hs.kept_still h
theorem Ab.cells {w:World} {b:Nat} {C R:Int} {s:ByteArray} (h:Ab w b C R s) :
  w.cell? ⟨b,0,none⟩=some (.int .i64 C)/\w.cell? ⟨b,1,none⟩=some (.int .i64 R)/\w.cell? ⟨b,2,none⟩=some (.string s)/\∀ o,w.frozen? ⟨b,o,none⟩=false:=by
 refine ⟨?_, ?_, ?_,fun o=>frozen_of_row w b o _ _ h⟩ <;> (rw [cell_of_row _ _ _ _ _ _ h]; rfl)
abbrev Yn (w:World) (C R:Int) (s:ByteArray):World:=w.alloc (.cells #[.int .i64 C,.int .i64 R,.string s] 24)
theorem Y0 (w:World) (C R:Int) (s:ByteArray):Ab (Yn w C R s) w.heap.size C R s:=heap_alloc_new w _
theorem VX (n:Int) (h0:-9223372036854775808<=n) (h1:n<=9223372036854775807) (w:World):Yb 157 #[.int .i64 n] w (.int .i64 (dn n)):=by
 have e:=E0 n;have b:-2251799813685248<=n.tdiv 4096/\n.tdiv 4096<=2251799813685247:=by
  rcases Int.le_total 0 n with h | h
  ·rw [Int.tdiv_eq_ediv_of_nonneg h]; omega
  ·have e:n.tdiv 4096=-((-n) / 4096):=by
    rw [<- Int.tdiv_eq_ediv_of_nonneg (show 0 <= -n by omega),Int.neg_tdiv]; omega
   omega
 obtain ⟨b0,b1⟩:=b;clear h0 h1;by_cases h:n<n.tdiv 4096*4096
 ·rw [if_pos h] at e;rw [<- e];clear e;go_enter Tryz.func157,Tryz.ntmps157;go_wp2
  go_ret;exact ⟨rfl,rfl⟩
 ·rw [if_neg h] at e;rw [<- e];clear e;go_enter Tryz.func157,Tryz.ntmps157;go_wp2
  go_ret;exact ⟨rfl,rfl⟩
def byt (s:ByteArray) (n:Nat):Int:=((s.data.toList.getD n 0).toNat:Int)
theorem E4 (s:ByteArray) (n:Nat) (h:n<s.size):s.data.toList[n]?=some s[n]:=by
 rw [Array.getElem?_toList,Array.getElem?_eq_getElem h]; rfl
theorem ZF (s:ByteArray) (n:Nat) (h:n<s.size):((s[n]'h).toNat:Int)=byt s n:=by
 unfold byt;rw [List.getD_eq_getElem?_getD,E4 s n h];rfl
theorem E5 (C R col row:Int) (s:ByteArray) (k:Nat) (h0:0<=row*C) (hc:0<=col) (hk:row*C+col=(k:Int)) (hs:k<s.size) (hz:s.size<=9223372036854775807) (w:World) :
  Ya 108 #[ar C R s,.int .i64 col,.int .i64 row] w (.int .u8 (byt s k)):=by
 have e:=ZF s k hs;have h1:row*C<=9223372036854775807:=by omega
 go_enter Tryz.func108,Tryz.ntmps108;go_wp2_with fail;go_ret;exact ⟨rfl,aL w _⟩
def Ym (C R:Int) (s:ByteArray) (col row:Int):Bool:=if col<0\/C<=col\/row<0\/R<=row then true else if (s.size:Int)<=row*C+col then true else byt s (row*C+col).toNat == 35
theorem Vh {C R col row:Int} {s:ByteArray} (h:col<0\/C<=col\/row<0\/R<=row):Ym C R s col row=true:=by unfold Ym; rw [if_pos h]
theorem UU {C R col row:Int} {s:ByteArray} (h:(s.size:Int)<=row*C+col):Ym C R s col row=true:=by
 unfold Ym;by_cases k:col<0\/C<=col\/row<0\/R<=row
 ·rw [if_pos k]
 ·rw [if_neg k,if_pos h]
theorem KA {C R col row:Int} {s:ByteArray} {k:Nat} (h:¬ (col<0\/C<=col\/row<0\/R<=row)) (hk:row*C+col=(k:Int)) (hs:k<s.size):Ym C R s col row=(byt s k == 35):=by
 unfold Ym;rw [if_neg h,if_neg (by omega),hk];rfl
theorem E6 (C R col row:Int) (s:ByteArray) (h1:col<0) (w:World):Ya 53 #[ar C R s,.int .i64 col,.int .i64 row] w (.bool true):=by
 go_enter Tryz.func53,Tryz.ntmps53;go_wp2_with fail;go_ret;exact ⟨rfl,aL w _⟩
theorem E7 (C R col row:Int) (s:ByteArray) (h1:0<=col) (h2:C<=col) (w:World):Ya 53 #[ar C R s,.int .i64 col,.int .i64 row] w (.bool true):=by
 go_enter Tryz.func53,Tryz.ntmps53;go_wp2_with fail;go_ret;exact ⟨rfl,aL w _⟩
theorem E8 (C R col row:Int) (s:ByteArray) (h1:0<=col) (h2:col<C) (h3:row<0) (w:World):Ya 53 #[ar C R s,.int .i64 col,.int .i64 row] w (.bool true):=by
 go_enter Tryz.func53,Tryz.ntmps53;go_wp2_with fail;go_ret;exact ⟨rfl,aL w _⟩
theorem E9 (C R col row:Int) (s:ByteArray) (h1:0<=col) (h2:col<C) (h3:0<=row) (h4:R<=row) (w:World):Ya 53 #[ar C R s,.int .i64 col,.int .i64 row] w (.bool true):=by
 go_enter Tryz.func53,Tryz.ntmps53;go_wp2_with fail;go_ret;exact ⟨rfl,aL w _⟩
theorem EA (C R col row:Int) (s:ByteArray) (h1:0<=col) (h2:col<C) (h3:0<=row) (h4:row<R) (h5:(s.size:Int)<C) (h6:0<row) (w:World):Ya 53 #[ar C R s,.int .i64 col,.int .i64 row] w (.bool true):=by
 go_enter Tryz.func53,Tryz.ntmps53;go_wp2_with fail;go_ret;exact ⟨rfl,aL w _⟩
theorem EB (C R col row:Int) (s:ByteArray) (h1:0<=col) (h2:col<C) (h3:0<=row) (h4:row<R) (h5:¬ ((s.size:Int)<C/\0<row)) (hz:s.size<=281474976710656) (h6:(s.size:Int) / C<row) (w:World):Ya 53 #[ar C R s,.int .i64 col,.int .i64 row] w (.bool true):=by
 have e:((s.size:Nat):Int).tdiv C=(s.size:Int) / C:=Int.tdiv_eq_ediv_of_nonneg (by omega);have q0:0<=(s.size:Int) / C:=Int.ediv_nonneg (by omega) (by omega);have q1:(s.size:Int) / C<=(s.size:Int):=Int.ediv_le_self _ (by omega);have hp:(decide ((s.size:Int)<C)=false)\/(decide ((s.size:Int)<C)=true/\decide (0<row)=false):=by
  by_cases k:(s.size:Int)<C
  ·exact .inr ⟨by simpa using k,by simp; omega⟩
  ·exact .inl (by simpa using k)
 clear h5;rcases hp with hp | ⟨hp,hp2⟩;all_goals
  go_enter Tryz.func53,Tryz.ntmps53;go_wp2_with fail;go_ret;exact ⟨rfl,aL w _⟩
theorem EC (C R col row:Int) (s:ByteArray) (h1:0<=col) (h2:col<C) (h3:0<=row) (h4:row<R) (h5:¬ ((s.size:Int)<C/\0<row)) (hz:s.size<=281474976710656) (h6:row<=(s.size:Int) / C) (h7:(s.size:Int)<=row*C+col) (c0:C<=9223372036854775807) (w:World):Ya 53 #[ar C R s,.int .i64 col,.int .i64 row] w (.bool true):=by
 have e:((s.size:Nat):Int).tdiv C=(s.size:Int) / C:=Int.tdiv_eq_ediv_of_nonneg (by omega);have q0:0<=(s.size:Int) / C:=Int.ediv_nonneg (by omega) (by omega);have q1:(s.size:Int) / C<=(s.size:Int):=Int.ediv_le_self _ (by omega);have hp:(decide ((s.size:Int)<C)=false)\/(decide ((s.size:Int)<C)=true/\decide (0<row)=false):=by
  by_cases k:(s.size:Int)<C
  ·exact .inr ⟨by simpa using k,by simp; omega⟩
  ·exact .inl (by simpa using k)
 have m0:0<=row*C:=Int.mul_nonneg h3 (by omega);have m1:row*C<=(s.size:Int):=Int.le_trans (Int.mul_le_mul_of_nonneg_right h6 (by omega)) (Int.ediv_mul_le _ (by omega));have m2:row*C+col<=9223372036854775807:=by
  by_cases k:(s.size:Int)<C
  ·have:row=0:=by omega
   subst this;omega
  ·omega
 clear h5;rcases hp with hp | ⟨hp,hp2⟩;all_goals
  go_enter Tryz.func53,Tryz.ntmps53;go_wp2_with fail;go_ret;exact ⟨rfl,aL w _⟩
theorem ED (C R col row:Int) (s:ByteArray) (h1:0<=col) (h2:col<C) (h3:0<=row) (h4:row<R) (h5:¬ ((s.size:Int)<C/\0<row)) (hz:s.size<=281474976710656) (h6:row<=(s.size:Int) / C) (k:Nat) (hk:row*C+col=(k:Int)) (hs:k<s.size) (w:World):Ya 53 #[ar C R s,.int .i64 col,.int .i64 row] w (.bool (byt s k == 35)):=by
 have e:((s.size:Nat):Int).tdiv C=(s.size:Int) / C:=Int.tdiv_eq_ediv_of_nonneg (by omega);have q0:0<=(s.size:Int) / C:=Int.ediv_nonneg (by omega) (by omega);have q1:(s.size:Int) / C<=(s.size:Int):=Int.ediv_le_self _ (by omega);have m0:0<=row*C:=Int.mul_nonneg h3 (by omega);have m1:row*C<=(s.size:Int):=by omega
 have hks:(k:Int)<(s.size:Int):=by omega
 have hp:(decide ((s.size:Int)<C)=false)\/(decide ((s.size:Int)<C)=true/\decide (0<row)=false):=by
  by_cases k:(s.size:Int)<C
  ·exact .inr ⟨by simpa using k,by simp; omega⟩
  ·exact .inl (by simpa using k)
 have HC:=hid (fun u=>E5 C R col row s k m0 h1 hk hs (by omega) u);clear h5;rcases hp with hp | ⟨hp,hp2⟩;all_goals
  go_enter Tryz.func53,Tryz.ntmps53;go_wp2_with fail;refine (HC.o _).mono ?_;rintro e w1 ⟨rfl,h⟩;go_wp2_with fail;go_ret;exact ⟨rfl,(aL w _).trans h⟩
theorem EE (C R col row:Int) (s:ByteArray) (hz:s.size<=281474976710656) (hC:C<=9223372036854775807) (w:World):Ya 53 #[ar C R s,.int .i64 col,.int .i64 row] w (.bool (Ym C R s col row)):=by
 by_cases h1:col<0
 ·rw [Vh (by omega)]; exact E6 C R col row s h1 w
 by_cases h2:C<=col
 ·rw [Vh (by omega)]; exact E7 C R col row s (by omega) h2 w
 by_cases h3:row<0
 ·rw [Vh (by omega)]; exact E8 C R col row s (by omega) (by omega) h3 w
 by_cases h4:R<=row
 ·rw [Vh (by omega)]; exact E9 C R col row s (by omega) (by omega) (by omega) h4 w
 have n1:0<=row*C:=Int.mul_nonneg (by omega) (by omega);by_cases h5:(s.size:Int)<C/\0<row
 ·have:C*1<=C*row:=Int.mul_le_mul_of_nonneg_left (by omega) (by omega);rw [Int.mul_comm C row] at this;rw [UU (by omega)];exact EA C R col row s (by omega) (by omega) (by omega) (by omega) h5.1 h5.2 w
 by_cases h6:(s.size:Int) / C<row
 ·have:(s.size:Int)<row*C:=by
   have:=Int.lt_mul_of_ediv_lt (show 0<C by omega) h6;exact this
  rw [UU (by omega)];exact EB C R col row s (by omega) (by omega) (by omega) (by omega) h5 hz h6 w
 by_cases h7:(s.size:Int)<=row*C+col
 ·rw [UU h7];exact EC C R col row s (by omega) (by omega) (by omega) (by omega) h5 hz (by omega) h7 hC w
 ·obtain ⟨k,hk⟩:∃ k:Nat,row*C+col=(k:Int):=⟨(row*C+col).toNat,by omega⟩;rw [KA (k:=k) (by omega) hk (by omega)];exact ED C R col row s (by omega) (by omega) (by omega) (by omega) h5 hz (by omega) k hk (by omega) w
def KB (C R:Int) (s:ByteArray) (a b c d:Int):Bool:=okb a b c d && tch (Ym C R s) a b c d
theorem ZX {a b:Bool} (h:a=b):Ending.returned (.bool a)=.returned (.bool b):=by rw [h]
theorem VY (C R col row:Int) (s:ByteArray) (hz:s.size<=281474976710656) (hC:C<=9223372036854775807) {t:Bool} (h:Ym C R s col row=t) (w:World):Ya 53 #[ar C R s,.int .i64 col,.int .i64 row] w (.bool t):=by
 have:=EE C R col row s hz hC w;rw [h] at this;exact this
theorem GA (a b c d:Int) (h:okb a b c d=true) (w:World):Ya 158 #[bx a b c d] w (.int .i64 0):=by
 have:=J0 a b c d w;unfold chk at this;rw [h] at this;exact this
theorem EG (a b c d:Int) (h:okb a b c d=false) (w:World):Ya 158 #[bx a b c d] w (.int .i64 50):=by
 have:=J0 a b c d w;unfold chk at this;rw [h] at this;exact this
theorem EH (C R a b c d:Int) (s:ByteArray) (h:okb a b c d=false) (w:World):Ya 180 #[ar C R s,bx a b c d] w (.bool false):=by
 go_enter Tryz.func180,Tryz.ntmps180;go_wp2_with fail;refine (EG a b c d h _).mono ?_;rintro e w1 ⟨rfl,h1⟩;go_wp2_with fail;go_ret;exact ⟨rfl,((aL w _).trans (aL _ _)).trans h1⟩
theorem EI (C R a b c d:Int) (s:ByteArray) (h:okb a b c d=true) (ho:dn a<0\/dn b<0\/C<=dn c\/R<=dn d) (w:World):Ya 180 #[ar C R s,bx a b c d] w (.bool true):=by
 have k:=UO h;unfold okB at k;obtain ⟨k0,k1,k2,k3,k4,k5,k6,k7,k8,k9⟩:=k;have p:=(Y0 w C R s).sT (aL (Yn w C R s) (.cells #[.int .i64 a,.int .i64 b,.int .i64 c,.int .i64 d] 194));have q:=Y4 (Yn w C R s) a b c d;simp only [Yf] at q;have HS0:=hid ((aL w (.cells #[.int .i64 C,.int .i64 R,.string s] 24)).trans (aL (Yn w C R s) (.cells #[.int .i64 a,.int .i64 b,.int .i64 c,.int .i64 d] 194)));have H:=hid h;have ho':(decide (dn a<0)=true)\/(decide (dn a<0)=false/\decide (dn b<0)=true)\/(decide (dn a<0)=false/\decide (dn b<0)=false/\decide (C<=dn c)=true)\/(decide (dn a<0)=false/\decide (dn b<0)=false/\decide (C<=dn c)=false/\decide (R<=dn d)=true):=by
  by_cases x1:dn a<0
  ·exact .inl (by simpa using x1)
  by_cases x2:dn b<0
  ·exact .inr (.inl ⟨by simpa using x1,by simpa using x2⟩)
  by_cases x3:C<=dn c
  ·exact .inr (.inr (.inl ⟨by simpa using x1,by simpa using x2,by simpa using x3⟩))
  ·exact .inr (.inr (.inr ⟨by simpa using x1,by simpa using x2,by simpa using x3,by simp; omega⟩))
 clear h ho;go_enter Tryz.func180,Tryz.ntmps180;go_wp2_with fail;refine (GA a b c d H.o _).mono ?_;rintro e w1 ⟨rfl,h1⟩;obtain ⟨c0,c1,c2,cf⟩:=(p.sT h1).cells;obtain ⟨d0,d1,d2,d3,df⟩:=(q.sT h1).cells;have HS1:=hid (HS0.o.trans h1);clear p q HS0 h1;rcases ho' with x1 | ⟨x1,x2⟩ | ⟨x1,x2,x3⟩ | ⟨x1,x2,x3,x4⟩;all_goals
  go_wp2_with (go_at_call 157; refine (VX _ (by omega) (by omega) _).mono ?_; rintro e w' ⟨he,hw⟩; rw [he,hw]; clear he hw w');go_ret;exact ⟨rfl,HS1.o⟩
theorem EJ (C R a b c d : Int) (s : ByteArray) (hz : s.size <= 281474976710656) (hC : C <= 9223372036854775807) (h : okb a b c d = true) (x1 : 0 <= dn a) (x2 : 0 <= dn b) (x3 : dn c < C) (x4 : dn d < R) (w : World) :
    Ya 180 #[ar C R s,bx a b c d] w (.bool (tch (Ym C R s) a b c d)):=by
  have k:=UO h;unfold okB at k;obtain ⟨k0,k1,k2,k3,k4,k5,k6,k7,k8,k9⟩:=k;have p:=(Y0 w C R s).sT (aL (Yn w C R s) (.cells #[.int .i64 a,.int .i64 b,.int .i64 c,.int .i64 d] 194));have q:=Y4 (Yn w C R s) a b c d;simp only [Yf] at q;have HS0:=hid ((aL w (.cells #[.int .i64 C,.int .i64 R,.string s] 24)).trans (aL (Yn w C R s) (.cells #[.int .i64 a,.int .i64 b,.int .i64 c,.int .i64 d] 194)));have H:=hid h;have lr:=J4 k8;have tb:=J4 k9;have bc:=(G8 k4 k5).2;have bd:=(G8 k6 k7).2;obtain ⟨T,eT⟩:∃ T,T=tch (Ym C R s) a b c d:=⟨_,rfl⟩;have HT:=hid (show T=Ur (Ym C R s) (dn a) (dn b) (dn c) (dn d) from eT);rw [<- eT];clear h eT;go_enter Tryz.func180,Tryz.ntmps180;go_wp2_with fail;refine (GA a b c d H.o _).mono ?_;rintro e w1 ⟨rfl,h1⟩;have p1:=p.sT h1;obtain ⟨c0,c1,c2,cf⟩:=p1.cells;obtain ⟨d0,d1,d2,d3,df⟩:=(q.sT h1).cells;have HS1:=hid (HS0.o.trans h1);clear p q HS0 h1 H;go_wp2_with (go_at_call 157; refine (VX _ (by omega) (by omega) _).mono ?_; rintro e w' ⟨he,hw⟩; rw [he,hw]; clear he hw w');clear k0 k1 k2 k3 k4 k5 k6 k7 k8 k9 d0 d1 d2 d3 df c0 c1 c2 cf;obtain ⟨l,el⟩:∃ l,dn a=l:=⟨_,rfl⟩;obtain ⟨t,et⟩:∃ t,dn b=t:=⟨_,rfl⟩;obtain ⟨r,er⟩:∃ r,dn c=r:=⟨_,rfl⟩;obtain ⟨u,eu⟩:∃ u,dn d=u:=⟨_,rfl⟩;rw [el] at x1 lr HT ⊢;rw [et] at x2 tb HT ⊢;rw [er] at x3 lr bc HT ⊢;rw [eu] at x4 tb bd HT ⊢;clear el et er eu;go_loopw [10] (fun vj wr=>∃ j:Int,t<=j/\j<=u+1/\vj=.int .i64 j/\(∀ i' j',l<=i'->i' <= r->t<=j'->j' < j->Ym C R s i' j'=false)/\Yc w1 wr) (fun vj _=>(u+1 - intOf vj).toNat);case atStart=>exact ⟨t,by omega,by omega,rfl,fun i' j' _ _ h1 h2=>by omega,Fr.refl _ _⟩
  case round =>
    obtain ⟨j,hj1,hj2,rfl,hfree,hs⟩:=hrel;have HF:=hid hfree;have HS:=hid hs;have p2:=p1.sT hs;clear hfree hs;by_cases hlt:j<=u
    · obtain ⟨c0,c1,c2,cf⟩:=p2.cells
      go_wp2_with fail;go_loopw [11] (fun vi wt=>∃ i:Int,l<=i/\i<=r+1/\vi=.int .i64 i/\(∀ i',l<=i'->i' < i->Ym C R s i' j=false)/\Yc wr wt) (fun vi _=>(r+1 - intOf vi).toNat);case atStart=>exact ⟨l,by omega,by omega,rfl,fun i' h1 h2=>by omega,Fr.refl _ _⟩
      case round =>
        obtain ⟨i,hi1,hi2,rfl,hfr,hs2⟩:=hrel;have HF2:=hid hfr;have HS2:=hid hs2;obtain ⟨g0,g1,g2,gf⟩:=(p2.sT hs2).cells;clear hfr hs2 c0 c1 c2 cf;by_cases hil:i<=r
        · go_wp2_with fail
          cases hsol:Ym C R s i j with
          | true =>
            refine (VY C R i j s hz hC hsol _).mono ?_;rintro e w3 ⟨rfl,h3⟩;have HE:=hid (show true=T by rw [HT.o]; exact (anyC_iff.2 ⟨i,j,hi1,hil,hj1,hlt,hsol⟩).symm);have HS3:=hid (((HS1.o.trans HS.o).trans HS2.o).trans h3);clear hsol h3 g0 g1 g2 gf;go_wp2_with fail;go_ret;exact ⟨ZX HE.o,HS3.o⟩
          | false =>
            refine (VY C R i j s hz hC hsol _).mono ?_;rintro e w3 ⟨rfl,h3⟩;have HS3:=hid (HS2.o.trans h3);have HN:=hid hsol;clear hsol h3 g0 g1 g2 gf;go_wp2_with fail;go_roundw;case rel => exact ⟨i + 1, by omega, by omega, by go_num, fun i' h1 h2 => by
                by_cases e:i'=i
                · subst e; exact HN.o
                · exact HF2.o i' h1 (by omega),HS3.o⟩
            case measure=>simp [intOf]; omega
        · have hi:i=r+1:=by omega
          clear g0 g1 g2 gf;go_wp2_with fail;go_roundw;case rel => exact ⟨j + 1, by omega, by omega, by go_num, fun i' j' h1 h2 h3 h4 => by
              by_cases e:j'=j
              · subst e; exact HF2.o i' h1 (by omega)
              · exact HF.o i' j' h1 h2 h3 (by omega),HS.o.trans HS2.o⟩
          case measure=>simp [intOf]; omega
    · have HE:=hid (show false=T by rw [HT.o]; exact (E3 fun i' j' h1 h2 h3 h4=>HF.o i' j' h1 h2 h3 (by omega)).symm)
      clear p2;go_wp2_with fail;go_ret;exact ⟨ZX HE.o,HS1.o.trans HS.o⟩
theorem EP (C R a b c d:Int) (s:ByteArray) (hz:s.size<=281474976710656) (hC:C<=9223372036854775807) (w:World) :
  Ya 180 #[ar C R s,bx a b c d] w (.bool (KB C R s a b c d)):=by
 unfold KB;cases h:okb a b c d with
 | false=>exact EH C R a b c d s h w
 | true =>
  rw [Bool.true_and];have k:=UO h;unfold okB at k;have lr:=J4 (show a<=c by omega);have tb:=J4 (show b<=d by omega);by_cases ho:dn a<0\/dn b<0\/C<=dn c\/R<=dn d
  ·have:tch (Ym C R s) a b c d=true:=by
    unfold tch;rcases ho with o | o | o | o
    ·exact anyC_iff.2 ⟨dn a,dn b,Int.le_refl _,lr,Int.le_refl _,tb,Vh (.inl o)⟩
    ·exact anyC_iff.2 ⟨dn a,dn b,Int.le_refl _,lr,Int.le_refl _,tb,Vh (.inr (.inr (.inl o)))⟩
    ·exact anyC_iff.2 ⟨dn c,dn b,lr,Int.le_refl _,Int.le_refl _,tb,Vh (.inr (.inl o))⟩
    ·exact anyC_iff.2 ⟨dn a,dn d,Int.le_refl _,lr,tb,Int.le_refl _,Vh (.inr (.inr (.inr o)))⟩
   rw [this];exact EI C R a b c d s h ho w
  ·exact EJ C R a b c d s hz hC h (by omega) (by omega) (by omega) (by omega) w
theorem EQ (C R col row:Int) (s:ByteArray) (h:col<0\/C<=col\/row<0\/R<=row) (w:World):Ya 101 #[ar C R s,.int .i64 col,.int .i64 row] w (.bool true):=by
 have ho':(decide (col<0)=true)\/(decide (col<0)=false/\decide (C<=col)=true)\/(decide (col<0)=false/\decide (C<=col)=false/\decide (row<0)=true)\/(decide (col<0)=false/\decide (C<=col)=false/\decide (row<0)=false/\decide (R<=row)=true):=by
  by_cases x1:col<0
  ·exact .inl (by simpa using x1)
  by_cases x2:C<=col
  ·exact .inr (.inl ⟨by simpa using x1,by simpa using x2⟩)
  by_cases x3:row<0
  ·exact .inr (.inr (.inl ⟨by simpa using x1,by simpa using x2,by simpa using x3⟩))
  ·exact .inr (.inr (.inr ⟨by simpa using x1,by simpa using x2,by simpa using x3,by simp; omega⟩))
 clear h;rcases ho' with x1 | ⟨x1,x2⟩ | ⟨x1,x2,x3⟩ | ⟨x1,x2,x3,x4⟩;all_goals
  go_enter Tryz.func101,Tryz.ntmps101;go_wp2_with fail;go_ret;exact ⟨rfl,aL w _⟩
theorem ER (C R col row:Int) (s:ByteArray) (h1:0<=col) (h2:col<C) (h3:0<=row) (h4:row<R) (h5:(s.size:Int)<=col) (w:World):Ya 101 #[ar C R s,.int .i64 col,.int .i64 row] w (.bool true):=by
 go_enter Tryz.func101,Tryz.ntmps101;go_wp2_with fail;go_ret;exact ⟨rfl,aL w _⟩
theorem ET (C R col row:Int) (s:ByteArray) (h1:0<=col) (h2:col<C) (h3:0<=row) (h4:row<R) (h5:col<(s.size:Int)) (hz:s.size<=281474976710656) (h6:((s.size:Int) - 1 - col) / C<row) (w:World):Ya 101 #[ar C R s,.int .i64 col,.int .i64 row] w (.bool true):=by
 have e:((s.size:Int) - 1 - col).tdiv C=((s.size:Int) - 1 - col) / C:=Int.tdiv_eq_ediv_of_nonneg (by omega);have q0:0<=((s.size:Int) - 1 - col) / C:=Int.ediv_nonneg (by omega) (by omega);have q1:((s.size:Int) - 1 - col) / C<=(s.size:Int) - 1 - col:=Int.ediv_le_self _ (by omega);go_enter Tryz.func101,Tryz.ntmps101;go_wp2_with fail;go_ret;exact ⟨rfl,aL w _⟩
theorem EU (C R col row:Int) (s:ByteArray) (h1:0<=col) (h2:col<C) (h3:0<=row) (h4:row<R) (h5:col<(s.size:Int)) (hz:s.size<=281474976710656) (h6:row<=((s.size:Int) - 1 - col) / C) (k:Nat) (hk:row*C+col=(k:Int)) (hs:k<s.size) (w:World):Ya 101 #[ar C R s,.int .i64 col,.int .i64 row] w (.bool (byt s k == 35)):=by
 have e:((s.size:Int) - 1 - col).tdiv C=((s.size:Int) - 1 - col) / C:=Int.tdiv_eq_ediv_of_nonneg (by omega);have q0:0<=((s.size:Int) - 1 - col) / C:=Int.ediv_nonneg (by omega) (by omega);have q1:((s.size:Int) - 1 - col) / C<=(s.size:Int) - 1 - col:=Int.ediv_le_self _ (by omega);have m0:0<=row*C:=Int.mul_nonneg h3 (by omega);have m1:row*C<=(s.size:Int):=by omega
 have hks:(k:Int)<(s.size:Int):=by omega
 have eb:=ZF s k hs;go_enter Tryz.func101,Tryz.ntmps101;go_wp2_with fail;go_ret;exact ⟨rfl,aL w _⟩
theorem EV (C R col row:Int) (s:ByteArray) (hz:s.size<=281474976710656) (w:World):Ya 101 #[ar C R s,.int .i64 col,.int .i64 row] w (.bool (Ym C R s col row)):=by
 by_cases h:col<0\/C<=col\/row<0\/R<=row
 ·rw [Vh h]; exact EQ C R col row s h w
 have n1:0<=row*C:=Int.mul_nonneg (by omega) (by omega);by_cases h5:(s.size:Int)<=col
 ·rw [UU (by omega)];exact ER C R col row s (by omega) (by omega) (by omega) (by omega) h5 w
 by_cases h6:((s.size:Int) - 1 - col) / C<row
 ·have:(s.size:Int) - 1 - col<row*C:=Int.lt_mul_of_ediv_lt (show 0<C by omega) h6;rw [UU (by omega)];exact ET C R col row s (by omega) (by omega) (by omega) (by omega) (by omega) hz h6 w
 ·have m1:row*C<=(s.size:Int) - 1 - col:=Int.le_trans (Int.mul_le_mul_of_nonneg_right (show row<=((s.size:Int) - 1 - col) / C by omega) (by omega)) (Int.ediv_mul_le _ (by omega));obtain ⟨k,hk⟩:∃ k:Nat,row*C+col=(k:Int):=⟨(row*C+col).toNat,by omega⟩;rw [KA (k:=k) h hk (by omega)];exact EU C R col row s (by omega) (by omega) (by omega) (by omega) (by omega) hz (by omega) k hk (by omega) w
theorem Vi (C R col row:Int) (s:ByteArray) (hz:s.size<=281474976710656) {t:Bool} (h:Ym C R s col row=t) (w:World):Ya 101 #[ar C R s,.int .i64 col,.int .i64 row] w (.bool t):=by
 have:=EV C R col row s hz w;rw [h] at this;exact this
end Go.Proofs.YthcjckgmdokmdaaGreatDoor
set_option maxRecDepth 100000
namespace Go.Proofs.YthcjckgmdokmdaaGreatDoor
open Go.RowKit
open Pu Gp Ap
theorem EW (x y r:Int) (h0:0<=r) (h1:r<=4096):okb (Ys x r) (Ys y r) (Yj x r) (Yj y r)=true:=by
 refine Jy ?_;have er:=bnd_id (n:=r) (by omega) (by omega);unfold okB Ys Yj;exact ⟨YO _,YP _,YO _,YP _,YO _,YP _,YO _,YP _,QU (by omega),QU (by omega)⟩
theorem EZ (x y r:Int) (h0:0<=r) (h1:r<=4096) (w:World):Ya 125 #[pt x y,.int .i64 r] w (bx (Ys x r) (Ys y r) (Yj x r) (Yj y r)):=by
 have h:=K4 x y r w;have e:YB r 0 2147483647=r:=by
  unfold YB;rw [bnd_id (n:=r) (by omega) (by omega),show bnd 0=0 by decide,show bnd 2147483647=2147483647 by decide];repeat' split
  all_goals omega
 rw [e] at h;exact h
theorem GB {w:World} {b g:Nat} {C R:Int} {s:ByteArray} (h:Ab w b C R s) (hb:b≠g) (x y z u:Int):Ab (setB w g x y z u) b C R s:=by
 unfold Ab;rw [heap_setCell_other _ _ _ _ hb,heap_setCell_other _ _ _ _ hb,heap_setCell_other _ _ _ _ hb,heap_setCell_other _ _ _ _ hb];exact h
theorem J6 {w:World} {b g:Nat} {p q:Int} (h:Pb w b p q) (hb:b≠g) (x y z u:Int):Pb (setB w g x y z u) b p q:=by
 unfold Pb;rw [heap_setCell_other _ _ _ _ hb,heap_setCell_other _ _ _ _ hb,heap_setCell_other _ _ _ _ hb,heap_setCell_other _ _ _ _ hb];exact h
theorem KD {w:World} {b g:Nat} {p q p' q':Int} (h:Bb w b p q p' q') (hb:b≠g) (x y z u:Int):Bb (setB w g x y z u) b p q p' q':=by
 unfold Bb;rw [heap_setCell_other _ _ _ _ hb,heap_setCell_other _ _ _ _ hb,heap_setCell_other _ _ _ _ hb,heap_setCell_other _ _ _ _ hb];exact h
theorem GC {x y z u x' y' z' u':Int} {t:Bool} (h:((x == x' && y == y') && (z == z' && u == u'))=t) (w:World):(binOp .eql 194 (bx x y z u) (bx x' y' z' u')).run Tryz.prog w=.ok (.bool t) w:=by
 rw [El,h]
theorem Na (C R x y r:Int) (s:ByteArray) (hz:s.size<=281474976710656) (hC:C<=9223372036854775807) (h0:0<=r) (h1:r<=4096) {t:Bool} (h:bdy (Ym C R s) r x y=t) (w:World) :
  Ya 180 #[ar C R s,bx (Ys x r) (Ys y r) (Yj x r) (Yj y r)] w (.bool t):=by
 have k:=EP C R (Ys x r) (Ys y r) (Yj x r) (Yj y r) s hz hC w;unfold KB at k;rw [EW x y r h0 h1,Bool.true_and] at k;unfold bdy at h;rw [h] at k;exact k
def cl1 (x r:Int):Int:=dn (Ys x r)
def cl2 (x r:Int):Int:=dn (Yj x r)
theorem Nb {sol:Int->Int->Bool} {r x y x' y':Int} (h1:cl1 x r=cl1 x' r) (h2:cl1 y r=cl1 y' r) (h3:cl2 x r=cl2 x' r) (h4:cl2 y r=cl2 y' r):bdy sol r x y=bdy sol r x' y':=by
 unfold bdy tch;unfold cl1 cl2 at *
 rw [h1,h2,h3,h4]
def atS (x s:Int) (j:Nat):Int:=Yj x (s*(j:Int))
def Xy (f:Nat->Int) (k:Nat):Int:=if k<=1 then 0 else f (k - 1)
set_option maxRecDepth 100000 in
theorem GD (C R x y a b r : Int) (s : ByteArray) (n : Nat) (hz : s.size <= 281474976710656) (hC : C <= 9223372036854775807) (r0 : 0 <= r) (r1 : r <= 4096) (a0 : -1 <= a) (a1 : a <= 1) (b0 : -1 <= b) (b1 : b <= 1) (hn : n <= 2048) (w : World) :
    Ya 155 #[ar C R s,pt x y,pt a b,.int .i64 (n:Int),.int .i64 r] w (.int .i64 (go (fun j=>bdy (Ym C R s) r (atS x a j) (atS y b j)) n:Nat)):=by
  obtain ⟨t,et⟩:∃ t:Nat->Bool,t=fun j=>bdy (Ym C R s) r (atS x a j) (atS y b j):=⟨_,rfl⟩;have HT:=hid (show ∀ j,t j=bdy (Ym C R s) r (atS x a j) (atS y b j) from fun j=>by rw [et]);rw [<- et];clear et;have p:=((Y0 w C R s).sT (aL (Yn w C R s) (.cells #[.int .i64 x,.int .i64 y] 54))).sT (aL (Yh (Yn w C R s) x y) (.cells #[.int .i64 a,.int .i64 b] 54)) |>.sT (aL (Yh (Yh (Yn w C R s) x y) a b) (.cells #[.int .i64 0,.int .i64 0,.int .i64 0,.int .i64 0] 194));have q:=((Yp (Yn w C R s) x y).sT (aL (Yh (Yn w C R s) x y) (.cells #[.int .i64 a,.int .i64 b] 54))).sT (aL (Yh (Yh (Yn w C R s) x y) a b) (.cells #[.int .i64 0,.int .i64 0,.int .i64 0,.int .i64 0] 194));have v:=(Yp (Yh (Yn w C R s) x y) a b).sT (aL (Yh (Yh (Yn w C R s) x y) a b) (.cells #[.int .i64 0,.int .i64 0,.int .i64 0,.int .i64 0] 194));have l:=Y4 (Yh (Yh (Yn w C R s) x y) a b) 0 0 0 0;simp only [Yf] at q v l;have HS0:=hid ((((aL w (.cells #[.int .i64 C,.int .i64 R,.string s] 24)).trans (aL (Yn w C R s) (.cells #[.int .i64 x,.int .i64 y] 54))).trans (aL (Yh (Yn w C R s) x y) (.cells #[.int .i64 a,.int .i64 b] 54))).trans (aL (Yh (Yh (Yn w C R s) x y) a b) (.cells #[.int .i64 0,.int .i64 0,.int .i64 0,.int .i64 0] 194)));obtain ⟨W,eW⟩:∃ W,W=Yl (Yh (Yh (Yn w C R s) x y) a b) 0 0 0 0:=⟨_,rfl⟩;simp only [Yh,Yl,Yn] at p q v l HS0 eW;rw [<- eW] at p q v l HS0;have HW:=hid eW;clear eW;go_enter Tryz.func155,Tryz.ntmps155;go_wp2_with fail;rw [<- HW.o];clear HW;go_loopw [12] (fun vk wr => ∃ k : Nat, 1 <= k /\ k <= n + 1 /\ vk = .int .i64 (k : Int) /\ (∀ j, 1 <= j -> j < k -> t j = false) /\ Ab wr w.heap.size C R s /\ Pb wr (w.heap.size + 1) x y /\ Pb wr (w.heap.size + 1 + 1) a b /\
      Bb wr (w.heap.size+1+1+1) (Xy (fun j=>cl1 (atS x a j) r) k) (Xy (fun j=>cl1 (atS y b j) r) k) (Xy (fun j=>cl2 (atS x a j) r) k) (Xy (fun j=>cl2 (atS y b j) r) k)/\Yc w wr) (fun vk _=>n+1 - (intOf vk).toNat)
  case atStart=>exact ⟨1,by omega,by omega,rfl,fun j h1 h2=>by omega,p,q,v,l,HS0.o⟩
  case round =>
    obtain ⟨k,k1,k2,rfl,hfree,p2,q2,v2,l2,hs⟩:=hrel;have HF:=hid hfree;have HS:=hid hs;clear hfree hs p q v l HS0;by_cases hlt:k<=n
    · obtain ⟨c0,c1,cf⟩:=q2.cells
      obtain ⟨d0,d1,df⟩:=v2.cells;have ka:-2048<=a*(k:Int)/\a*(k:Int)<=2048:=by
        have:a=-1\/a=0\/a=1:=by omega
        rcases this with rfl | rfl | rfl <;> omega
      have kb:-2048<=b*(k:Int)/\b*(k:Int)<=2048:=by
        have:b=-1\/b=0\/b=1:=by omega
        rcases this with rfl | rfl | rfl <;> omega
      obtain ⟨ka0,ka1⟩:=ka;obtain ⟨kb0,kb1⟩:=kb;go_wp2_with fail;refine (VT x y _ _ _).mono ?_;rintro e w1 ⟨rfl,h1⟩;go_wp2_with fail;refine (EZ _ _ r r0 r1 _).mono ?_;rintro e w2 ⟨rfl,h2⟩;have h12:=h1.trans h2;clear h1 h2;go_wp2_with fail;obtain ⟨X1,eX1⟩:∃ X1,Ys (Yj x (a*(k:Int))) r=X1:=⟨_,rfl⟩;obtain ⟨Y1,eY1⟩:∃ Y1,Ys (Yj y (b*(k:Int))) r=Y1:=⟨_,rfl⟩;obtain ⟨X2,eX2⟩:∃ X2,Yj (Yj x (a*(k:Int))) r=X2:=⟨_,rfl⟩;obtain ⟨Y2,eY2⟩:∃ Y2,Yj (Yj y (b*(k:Int))) r=Y2:=⟨_,rfl⟩;have bx1:-2147483647<=X1/\X1<=2147483647:=by rw [<- eX1]; exact ⟨YO _,YP _⟩
      have by1:-2147483647<=Y1/\Y1<=2147483647:=by rw [<- eY1]; exact ⟨YO _,YP _⟩
      have bx2:-2147483647<=X2/\X2<=2147483647:=by rw [<- eX2]; exact ⟨YO _,YP _⟩
      have by2:-2147483647<=Y2/\Y2<=2147483647:=by rw [<- eY2]; exact ⟨YO _,YP _⟩
      have HX:=hid (show (cl1 (atS x a k) r=dn X1/\cl1 (atS y b k) r=dn Y1)/\(cl2 (atS x a k) r=dn X2/\cl2 (atS y b k) r=dn Y2) by
        rw [<- eX1,<- eY1,<- eX2,<- eY2]; exact ⟨⟨rfl,rfl⟩,⟨rfl,rfl⟩⟩)
      have HQ:Hid (∀ v:Bool,t k=v->∀ u:World,Ya 180 #[ar C R s,bx X1 Y1 X2 Y2] u (.bool v)):=hid (fun v hv u=>by
        rw [<- eX1,<- eY1,<- eX2,<- eY2];exact Na C R (atS x a k) (atS y b k) r s hz hC r0 r1 ((HT.o k).symm.trans hv) u)
      rw [eX1,eY1,eX2,eY2];clear eX1 eY1 eX2 eY2;have A3:=aL w2 (.cells #[.int .i64 X1,.int .i64 Y1,.int .i64 X2,.int .i64 Y2] 194);have p3:=(p2.sT h12).sT A3;have q3:=(q2.sT h12).sT A3;have v3:=(v2.sT h12).sT A3;have l3:=(l2.sT h12).sT A3;have b3:=Y4 w2 X1 Y1 X2 Y2;have HS3:=hid ((HS.o.trans h12).trans A3);simp only [Yl] at b3;obtain ⟨W3,eW3⟩:∃ W3,w2.alloc (.cells #[.int .i64 X1,.int .i64 Y1,.int .i64 X2,.int .i64 Y2] 194)=W3:=⟨_,rfl⟩;have NB:w.heap.size+1+1+1<w2.heap.size:=by
        have:=Yz (l2.sT h12);exact this
      rw [eW3] at p3 q3 v3 l3 b3 HS3 ⊢;clear eW3 A3 p2 q2 v2 l2 h12 HS c0 c1 cf d0 d1 df ka0 ka1 kb0 kb1;refine J1 (on:=_) 19 14 (.cells #[.int .i64 0,.int .i64 0,.int .i64 0,.int .i64 0] 194)
        [.pointer (some ⟨w2.heap.size,0,none⟩),.pointer (some ⟨w2.heap.size,0,none⟩),.int .i64 X1,.int .i64 (dn X1),.pointer (some ⟨w2.heap.size,0,none⟩),.pointer (some ⟨w2.heap.size,1,none⟩),.int .i64 Y1,.int .i64 (dn Y1),pt (dn X1) (dn Y1),.pointer (some ⟨w2.heap.size,2,none⟩),.pointer (some ⟨w2.heap.size,2,none⟩),.int .i64 X2,.int .i64 (dn X2),.pointer (some ⟨w2.heap.size,2,none⟩),.pointer (some ⟨w2.heap.size,3,none⟩),.int .i64 Y2,.int .i64 (dn Y2),pt (dn X2) (dn Y2),bx (dn X1) (dn Y1) (dn X2) (dn Y2)]
        ⟨#[ar C R s,pt x y,pt a b,.int .i64 (n:Int),.int .i64 r,.pointer (some ⟨w.heap.size,0,none⟩),.pointer (some ⟨w.heap.size+1,0,none⟩),.pointer (some ⟨w.heap.size+1+1,0,none⟩),undef,undef,u10,.pointer (some ⟨w.heap.size+1+1+1,0,none⟩),.int .i64 (k:Int),.pointer (some ⟨w2.heap.size,0,none⟩),u14,u15,.agg #[.int .i64 0,.int .i64 0,.int .i64 0,.int .i64 0],.int .i64 (k:Int),.int .i64 (n:Int),.bool true,u20,u21,pt x y,.pointer (some ⟨w.heap.size+1+1,0,none⟩),.int .i64 a,.int .i64 (k:Int),.int .i64 (a*(k:Int)),.pointer (some ⟨w.heap.size+1+1,1,none⟩),.int .i64 b,.int .i64 (k:Int),.int .i64 (b*(k:Int)),pt (a*(k:Int)) (b*(k:Int)),pt (Yj x (a*(k:Int))) (Yj y (b*(k:Int))),.int .i64 r,bx X1 Y1 X2 Y2,.pointer (some ⟨w2.heap.size,0,none⟩),.pointer (some ⟨w2.heap.size,0,none⟩),.int .i64 X1,.int .i64 (dn X1),.pointer (some ⟨w2.heap.size,0,none⟩),.pointer (some ⟨w2.heap.size,1,none⟩),.int .i64 Y1,.int .i64 (dn Y1),pt (dn X1) (dn Y1),.pointer (some ⟨w2.heap.size,2,none⟩),.pointer (some ⟨w2.heap.size,2,none⟩),.int .i64 X2,.int .i64 (dn X2),.pointer (some ⟨w2.heap.size,2,none⟩),.pointer (some ⟨w2.heap.size,3,none⟩),.int .i64 Y2,.int .i64 (dn Y2),pt (dn X2) (dn Y2),bx (dn X1) (dn Y1) (dn X2) (dn Y2),u54,u55,u56,u57,u58,u59,u60,u61,u62,u63,u64,u65,u66,u67,undef],[]⟩
        (by kernel_rfl) (by kernel_rfl) rfl rfl rfl (by kernel_rfl) (by kernel_rfl) (show 14<69 by omega) ?_ ?_ ?_
      · simp only [List.take_succ_cons,List.take_zero,VV,and_true]
        refine ⟨?_, ?_, ?_, ?_, ?_, ?_, ?_, ?_, ?_, ?_, ?_, ?_, ?_, ?_, ?_, ?_, ?_, ?_, ?_⟩;all_goals
          intro u hu;obtain ⟨g0,g1,g2,g3,gf⟩:=(b3.sT hu).cells;go_simp
        all_goals exact (VX _ (by omega) (by omega) u).mono fun _ _ ⟨he,hw⟩=>⟨he,hw ▸ Fr.refl _ _⟩
      · intro u _ y
        go_simp
      simp only [List.drop_succ_cons,List.drop_zero];intro w4 g hs4 hge hz4;have N0:w.heap.size≠g:=by have:=Yz p3; omega
      have N1:w.heap.size+1≠g:=by have:=Yz q3; omega
      have N2:w.heap.size+1+1≠g:=by have:=Yz v3; omega
      have N3:w.heap.size+1+1+1≠g:=by have:=Yz l3; omega
      have N4:w2.heap.size≠g:=by have:=Yz b3; omega
      have NG:w.heap.size<=g:=by have:=Yz p3; omega
      have c4:Bb w4 g 0 0 0 0:=hz4;have p5:=GB (p3.sT hs4) N0 (dn X1) (dn Y1) (dn X2) (dn Y2);have q5:=J6 (q3.sT hs4) N1 (dn X1) (dn Y1) (dn X2) (dn Y2);have v5:=J6 (v3.sT hs4) N2 (dn X1) (dn Y1) (dn X2) (dn Y2);have l5:=KD (l3.sT hs4) N3 (dn X1) (dn Y1) (dn X2) (dn Y2);have b5:=KD (b3.sT hs4) N4 (dn X1) (dn Y1) (dn X2) (dn Y2);have c5:=c4.set (dn X1) (dn Y1) (dn X2) (dn Y2);have HS5:=hid (V1 (HS3.o.trans hs4) g (dn X1) (dn Y1) (dn X2) (dn Y2) (.inr NG));obtain ⟨e0,e1,e2,e3,ef⟩:=c4.cells;clear p3 q3 v3 l3 b3 HS3 hs4 hge hz4 c4 N0 N1 N2 N4 NG;obtain ⟨L1,eL1⟩:∃ L1,Xy (fun j=>cl1 (atS x a j) r) k=L1:=⟨_,rfl⟩;obtain ⟨L2,eL2⟩:∃ L2,Xy (fun j=>cl1 (atS y b j) r) k=L2:=⟨_,rfl⟩;obtain ⟨L3,eL3⟩:∃ L3,Xy (fun j=>cl2 (atS x a j) r) k=L3:=⟨_,rfl⟩;obtain ⟨L4,eL4⟩:∃ L4,Xy (fun j=>cl2 (atS y b j) r) k=L4:=⟨_,rfl⟩;rw [eL1,eL2,eL3,eL4] at l5;have HL:=hid (And.intro (And.intro eL1 eL2) (And.intro eL3 eL4));clear eL1 eL2 eL3 eL4;have G:=Em;simp only [Act.put,List.setIfInBounds_toArray,List.set_cons_succ,List.set_cons_zero];have hD:(decide ((1:Int)<(k:Int))=true/\((dn X1 == L1 && dn Y1 == L2) && (dn X2 == L3 && dn Y2 == L4))=true)\/(decide ((1:Int)<(k:Int))=true/\((dn X1 == L1 && dn Y1 == L2) && (dn X2 == L3 && dn Y2 == L4))=false)\/decide ((1:Int)<(k:Int))=false:=by
        cases decide ((1:Int)<(k:Int)) <;> cases ((dn X1 == L1 && dn Y1 == L2) && (dn X2 == L3 && dn Y2 == L4)) <;> simp
      rcases hD with ⟨hk1,hb⟩ | hD
      · have E:=GC hb
        have hk1':1<k:=by have:=of_decide_eq_true hk1; omega
        have HB:Hid ((dn X1=L1/\dn Y1=L2)/\(dn X2=L3/\dn Y2=L4)):=hid (by simpa using hb);have HN:=hid (show t k=false by
          have h0:=HF.o (k - 1) (by omega) (by omega);rw [HT.o] at h0 ⊢;rw [<- h0];have hl:=HL.o;unfold Xy at hl;simp only [show ¬ k<=1 by omega,if_false] at hl;exact Nb (HX.o.1.1.trans (HB.o.1.1.trans hl.1.1.symm)) (HX.o.1.2.trans (HB.o.1.2.trans hl.1.2.symm)) (HX.o.2.1.trans (HB.o.2.1.trans hl.2.1.symm)) (HX.o.2.2.trans (HB.o.2.2.trans hl.2.2.symm)))
        obtain ⟨f0,f1,f2,f3,ff⟩:=l5.cells;obtain ⟨i0,i1,i2,i3,jf⟩:=c5.cells;clear hb;go_wp2_with fail;go_roundw;case rel => exact ⟨k + 1, by omega, by omega, by go_num, fun j h1 h2 => by
            by_cases e:j=k
            · subst e; exact HN.o
            · exact HF.o j h1 (by omega),p5,q5,v5,by
              unfold Xy;simp only [show ¬ k+1<=1 by omega,if_false,Nat.add_sub_cancel];rw [HX.o.1.1.trans HB.o.1.1,HX.o.1.2.trans HB.o.1.2,HX.o.2.1.trans HB.o.2.1,HX.o.2.2.trans HB.o.2.2];exact l5,HS5.o⟩
        case measure=>simp [intOf]; omega
      · have p6:=GB p5 (show w.heap.size≠w.heap.size+1+1+1 by omega) (dn X1) (dn Y1) (dn X2) (dn Y2)
        have q6:=J6 q5 (show w.heap.size+1≠w.heap.size+1+1+1 by omega) (dn X1) (dn Y1) (dn X2) (dn Y2);have v6:=J6 v5 (show w.heap.size+1+1≠w.heap.size+1+1+1 by omega) (dn X1) (dn Y1) (dn X2) (dn Y2);have b6:=KD b5 (show w2.heap.size≠w.heap.size+1+1+1 by omega) (dn X1) (dn Y1) (dn X2) (dn Y2);have l6:=l5.set (dn X1) (dn Y1) (dn X2) (dn Y2);have HS6:=hid (V1 HS5.o (w.heap.size+1+1+1) (dn X1) (dn Y1) (dn X2) (dn Y2) (.inr (by omega)));obtain ⟨f0,f1,f2,f3,ff⟩:=l5.cells;obtain ⟨i0,i1,i2,i3,jf⟩:=c5.cells;obtain ⟨o0,o1,o2,of⟩:=p6.cells;obtain ⟨n0,n1,n2,n3,nf⟩:=b6.cells;clear p5 q5 v5 l5 b5 c5 HS5 HL;rcases hD with ⟨hk1,hb⟩ | hk1;all_goals
          try have E:=GC hb
          try clear hb
          go_wp2_with fail;cases hv:t k with
          | true =>
            refine (HQ.o true hv _).mono ?_;rintro e w7 ⟨rfl,h7⟩;have HG:=hid (show ((k:Int) - 1)=(go t n:Nat) by
              have:=Ut (t:=t) (n:=n) (k:=k - 1) (by omega) (fun j h1 h2=>HF.o j h1 (by omega)) (fun _=>by rw [show k - 1+1=k by omega]; exact hv);rw [this]; omega)
            have HS7:=hid (Yc.trans HS6.o h7);clear hv h7 p6 q6 v6 b6 l6 HS6 f0 f1 f2 f3 ff i0 i1 i2 i3 jf o0 o1 o2 of n0 n1 n2 n3 nf e0 e1 e2 e3 ef;go_wp2_with fail;go_ret;exact ⟨Zb HG.o,HS7.o⟩
          | false =>
            refine (HQ.o false hv _).mono ?_;rintro e w7 ⟨rfl,h7⟩;have HV:=hid hv;have p7:=p6.sT h7;have q7:=q6.sT h7;have v7:=v6.sT h7;have l7:=l6.sT h7;have HS7:=hid (Yc.trans HS6.o h7);clear hv h7 p6 q6 v6 b6 l6 HS6 f0 f1 f2 f3 ff i0 i1 i2 i3 jf o0 o1 o2 of n0 n1 n2 n3 nf e0 e1 e2 e3 ef;go_wp2_with fail;go_roundw;case rel => exact ⟨k + 1, by omega, by omega, by go_num, fun j h1 h2 => by
                by_cases e:j=k
                · subst e; exact HV.o
                · exact HF.o j h1 (by omega),p7,q7,v7,by
                  unfold Xy;simp only [show ¬ k+1<=1 by omega,if_false,Nat.add_sub_cancel,HX.o.1.1,HX.o.1.2,HX.o.2.1,HX.o.2.2];exact l7,HS7.o⟩
            case measure=>simp [intOf]; omega
    · have HG := hid (show ((n : Nat) : Int) = (go t n : Nat) by
        rw [Ut (t:=t) (n:=n) (k:=n) (by omega) (fun j h1 h2=>HF.o j h1 (by omega)) (fun h=>by omega)])
      clear p2 q2 v2 l2;go_wp2_with fail;go_ret;exact ⟨Zb HG.o,HS.o⟩
theorem GE (n:Int) (w:World):Yb 154 #[.int .i64 n] w (.int .i64 (sgn n)):=by
 unfold sgn;by_cases h1:0<n
 ·rw [if_pos h1];go_enter Tryz.func154,Tryz.ntmps154;go_wp2
  go_ret;exact ⟨rfl,rfl⟩
 ·by_cases h2:n<0
  ·rw [if_neg h1,if_pos h2];go_enter Tryz.func154,Tryz.ntmps154;go_wp2
   go_ret;exact ⟨rfl,rfl⟩
  ·rw [if_neg h1,if_neg h2];go_enter Tryz.func154,Tryz.ntmps154;go_wp2
   go_ret;exact ⟨rfl,rfl⟩
theorem GF (n:Int):-1<=sgn n/\sgn n<=1:=by
 unfold sgn;repeat' split
 all_goals omega
theorem Uu (n:Int) (h0:-2048<=n) (h1:n<=2048) (w:World):Yb 153 #[.int .i64 n] w (.int .i64 (n.natAbs:Nat)):=by
 have eb:=bnd_id (n:=n) (by omega) (by omega);by_cases h:n<0
 ·rw [show ((n.natAbs:Nat):Int)=-n by omega];go_enter Tryz.func153,Tryz.ntmps153;go_wp2_with (go_at_call 109; refine (XI _ _).mono ?_; rintro e w' ⟨he,hw⟩; rw [he,hw,eb]; clear he hw w');go_ret;exact ⟨rfl,rfl⟩
 ·rw [show ((n.natAbs:Nat):Int)=n by omega];go_enter Tryz.func153,Tryz.ntmps153;go_wp2_with (go_at_call 109; refine (XI _ _).mono ?_; rintro e w' ⟨he,hw⟩; rw [he,hw,eb]; clear he hw w');go_ret;exact ⟨rfl,rfl⟩
theorem GG (x y:Int) (w:World):Ya 152 #[pt x y] w (pt (stp x) (stp y)):=by
 obtain ⟨W,eW⟩:∃ W,W=(Yh (Yh w x y) 0 0):=⟨_,rfl⟩;have p0:Pb W (w.heap.size) x y:=by rw [eW]; have h:=Yp w x y; exact (h.sT (aL _ _))
 have c00:=kC p0.cells.1;have c01:=kC p0.cells.2.1;clear p0;have r:Pb W (w.heap.size+1) 0 0:=by rw [eW]; have h:=Yp (Yh w x y) 0 0; simp only [Yf] at h; exact h
 have HF:=hid (show Yc w W by rw [eW]; exact ((aL w _).trans (aL _ _)));have HW:=hid eW;have hne:=Aft.here W;clear eW;have HB:=hid (show w.heap.size<=w.heap.size+1 by omega);go_enter Tryz.func152,Tryz.ntmps152;go_wp2_with fail;have e:=HW.o;simp only [Yh] at e;rw [<- e];clear e HW;refine YC 6 (by kernel_rfl) (by kernel_rfl) ?_;simp only [List.take_succ_cons,List.take_zero,List.drop_succ_cons,List.drop_zero];repeat (go_big_quiet_step ((go_at_call 115; exact Calls.cl_same (VQ _ _ _ _))))
 refine wpQuiet_nil ?_;intro w1 hs;clear hne c00 c01;have q:=r.sT hs;obtain ⟨d0,d1,df⟩:=q.cells;go_wp2_with fail
 (try simp only [Exit.inBlock,Exit.then])
 exact bodyPost_ret ((q.set _ _).res rfl _ rfl) rfl ⟨rfl,YJ (HF.o.trans hs) _ _ _ (.inr HB.o)⟩
theorem UV (w:World) (b:Nat) (x y:Int):(Z0 w b x y).heap.size=w.heap.size:=by simp [Z0,World.setCell]
theorem Vj {w:World} {b g:Nat} {C R:Int} {s:ByteArray} (h:Ab w b C R s) (hb:b≠g) (x y:Int):Ab (Z0 w g x y) b C R s:=by
 unfold Ab;rw [heap_setCell_other _ _ _ _ hb,heap_setCell_other _ _ _ _ hb];exact h
theorem YL {w:World} {b g:Nat} {p q:Int} (h:Pb w b p q) (hb:b≠g) (x y:Int):Pb (Z0 w g x y) b p q:=by
 unfold Pb;rw [heap_setCell_other _ _ _ _ hb,heap_setCell_other _ _ _ _ hb];exact h
theorem Pb.rest {fn:Func} {p q:Tmp} {w:World} {g:Nat} {x y:Int} (hb:Pb w g x y) (h:fn.results=#[.cell p 54,.tmp q]) (tmps:Array Value) (t:Value) (hp:tmps.getD p undef=.pointer (some ⟨g,0,none⟩)) (hq:tmps.getD q undef=t) :
  (results fn tmps).run Tryz.prog w=.ok (.tuple #[pt x y,t]) w:=by
 rw [results_cell_tmp h,hp,hq];simp [asAddr,Result.andThen,Gc w g x y hb.cells.1 hb.cells.2.1]
def kX (sol:Int->Int->Bool) (r X Y p:Int):Nat:=go (fun j=>bdy sol r (atS X (sgn p) j) (atS Y 0 j)) p.natAbs
def kY (sol:Int->Int->Bool) (r X Y q:Int):Nat:=go (fun j=>bdy sol r (atS X 0 j) (atS Y (sgn q) j)) q.natAbs
def V3 (k n l m:Nat):Int:=(if k<n then 1 else 0)+(if l<m then 2 else 0)
theorem Nc (sol:Int->Int->Bool) (r X Y p:Int):kX sol r X Y p<=p.natAbs:=Us _ _
theorem Nd (sol:Int->Int->Bool) (r X Y q:Int):kY sol r X Y q<=q.natAbs:=Us _ _
theorem GH {s:Int} {k:Nat} (h0:-1<=s) (h1:s<=1) (hk:k<=2048):-2048<=s*(k:Int)/\s*(k:Int)<=2048:=by
 have:s=-1\/s=0\/s=1:=by omega
 rcases this with rfl | rfl | rfl <;> omega
theorem Nf (n:Int):0<=YB n 0 4096/\YB n 0 4096<=4096:=by
 have h1:bnd 0=0:=by decide
 have h2:bnd 4096=4096:=by decide
 unfold YB;rw [h1,h2];repeat' split
 all_goals omega
theorem Ng (C R x y p q n:Int) (s:ByteArray) (hz:s.size<=281474976710656) (hC:C<=9223372036854775807) (X Y P Q r X1 Y1 X2 Y2:Int) (k l:Nat)
  (eX:bnd x=X) (eY:bnd y=Y) (eP:stp p=P) (eQ:stp q=Q) (er:YB n 0 4096=r) (ek:kX (Ym C R s) r X Y P=k) (eX1:Yj X (sgn P*(k:Int))=X1) (eY1:Yj Y 0=Y1)
  (el:kY (Ym C R s) r X1 Y1 Q=l) (eX2:Yj X1 0=X2) (eY2:Yj Y1 (sgn Q*(l:Int))=Y2) (w:World) :
  Ya 116 #[ar C R s,pt x y,pt p q,.int .i64 n] w (.tuple #[pt X2 Y2,.int .i64 (V3 k P.natAbs l Q.natAbs)]):=by
 have A0:=aL w (.cells #[.int .i64 C,.int .i64 R,.string s] 24);have A1:=aL (Yn w C R s) (.cells #[.int .i64 x,.int .i64 y] 54);have A2:=aL (Yh (Yn w C R s) x y) (.cells #[.int .i64 p,.int .i64 q] 54);have A3:=aL (Yh (Yh (Yn w C R s) x y) p q) (.cells #[.int .i64 0,.int .i64 0] 54);have a0:=(((Y0 w C R s).sT A1).sT A2).sT A3;have b0:=((Yp (Yn w C R s) x y).sT A2).sT A3;have c0:=(Yp (Yh (Yn w C R s) x y) p q).sT A3;have d0:=Yp (Yh (Yh (Yn w C R s) x y) p q) 0 0;simp only [Yf] at b0 c0 d0;have HS0:=hid (((A0.trans A1).trans A2).trans A3);clear A0 A1 A2 A3;have n1:w.heap.size≠w.heap.size+1:=by omega
 have n2:w.heap.size≠w.heap.size+1+1:=by omega
 have n3:w.heap.size+1≠w.heap.size+1+1:=by omega
 have n4:w.heap.size+1+1≠w.heap.size+1:=by omega
 have n5:w.heap.size+1+1+1≠w.heap.size+1:=by omega
 have n6:w.heap.size+1+1+1≠w.heap.size+1+1:=by omega
 have HN:=hid (And.intro n1 (And.intro n2 (And.intro n3 (And.intro n4 (And.intro n5 n6)))));have HB:=hid (show w.heap.size<=w.heap.size+1/\w.heap.size<=w.heap.size+1+1/\w.heap.size<=w.heap.size+1+1+1 by omega);have pb:=J5 p;have qb:=J5 q;rw [eP] at pb;rw [eQ] at qb;obtain ⟨p0,p1⟩:=pb;obtain ⟨q0,q1⟩:=qb;have rb:=Nf n;rw [er] at rb;obtain ⟨r0,r1⟩:=rb;have sP:=GF P;have sQ:=GF Q;have kl:k<=P.natAbs:=by rw [<- ek]; exact Nc ..
 have ll:l<=Q.natAbs:=by rw [<- el]; exact Nd ..
 have mP:=GH sP.1 sP.2 (show k<=2048 by omega);have mQ:=GH sQ.1 sQ.2 (show l<=2048 by omega);have HE:=hid (And.intro (And.intro eX eY) (And.intro (And.intro eP eQ) (And.intro er (And.intro (And.intro eX1 eY1) (And.intro eX2 eY2)))));have HK:Hid (∀ u:World,Ya 155 #[ar C R s,pt X Y,pt (sgn P) 0,.int .i64 (P.natAbs:Nat),.int .i64 r] u (.int .i64 (k:Int))):=hid (fun u=>by
  have h:=GD C R X Y (sgn P) 0 r s P.natAbs hz hC r0 r1 sP.1 sP.2 (by omega) (by omega) (by omega) u;rw [show go (fun j=>bdy (Ym C R s) r (atS X (sgn P) j) (atS Y 0 j)) P.natAbs=k from ek] at h;exact h)
 have HL:Hid (∀ u:World,Ya 155 #[ar C R s,pt X1 Y1,pt 0 (sgn Q),.int .i64 (Q.natAbs:Nat),.int .i64 r] u (.int .i64 (l:Int))):=hid (fun u=>by
  have h:=GD C R X1 Y1 0 (sgn Q) r s Q.natAbs hz hC r0 r1 (by omega) (by omega) sQ.1 sQ.2 (by omega) u;rw [show go (fun j=>bdy (Ym C R s) r (atS X1 0 j) (atS Y1 (sgn Q) j)) Q.natAbs=l from el] at h;exact h)
 clear n1 n2 n3 n4 n5 n6 eX eY eP eQ er ek eX1 eY1 el eX2 eY2;obtain ⟨mP0,mP1⟩:=mP;obtain ⟨mQ0,mQ1⟩:=mQ;go_enter Tryz.func116,Tryz.ntmps116;go_wp2_with fail;refine (ZE x y _).mono ?_;rintro e w1 ⟨rfl,h1⟩;rw [HE.o.1.1,HE.o.1.2];obtain ⟨f0,f1,ff⟩:=(b0.sT h1).cells;have a1:=Vj (a0.sT h1) HN.o.1 X Y;have b1:=(b0.sT h1).set X Y;have c1:=YL (c0.sT h1) HN.o.2.2.2.1 X Y;have d1:=YL (d0.sT h1) HN.o.2.2.2.2.1 X Y;have HS1:=hid (YJ (HS0.o.trans h1) (w.heap.size+1) X Y (.inr HB.o.1));clear a0 b0 c0 d0 HS0 h1;obtain ⟨g0,g1,gf⟩:=c1.cells;go_wp2_with fail;refine (GG p q _).mono ?_;rintro e w2 ⟨rfl,h2⟩;rw [HE.o.2.1.1,HE.o.2.1.2];clear f0 f1 ff g0 g1 gf;obtain ⟨f0,f1,ff⟩:=(c1.sT h2).cells;have a2:=Vj (a1.sT h2) HN.o.2.1 P Q;have b2:=YL (b1.sT h2) HN.o.2.2.1 P Q;have c2:=(c1.sT h2).set P Q;have d2:=YL (d1.sT h2) HN.o.2.2.2.2.2 P Q;have HS2:=hid (YJ (Yc.trans HS1.o h2) (w.heap.size+1+1) P Q (.inr HB.o.2.1));clear a1 b1 c1 d1 HS1 h2;have A3:=aL (Z0 w2 (w.heap.size+1+1) P Q) (.cells #[.int .i64 (sgn P),.int .i64 0] 54);have a3:=a2.sT A3;have b3:=b2.sT A3;have c3:=c2.sT A3;have d3:=d2.sT A3;have v3:=Yp (Z0 w2 (w.heap.size+1+1) P Q) (sgn P) 0;rw [UV] at v3;have HS3:=hid (Yc.trans HS2.o A3);obtain ⟨g0,g1,gf⟩:=c2.cells;obtain ⟨i0,i1,i2,jf⟩:=a3.cells;obtain ⟨m0,m1,mf⟩:=b3.cells;obtain ⟨o0,o1,of⟩:=v3.cells;clear a2 b2 c2 d2 HS2 A3;go_wp2_with (first | (go_at_call 115; refine (VQ _ _ _ _).mono ?_; rintro e w' ⟨he,hw⟩; rw [he,hw,HE.o.2.2.1]; clear he hw w') | (go_at_call 153; refine (Uu _ p0 p1 _).mono ?_; rintro e w' ⟨he,hw⟩; rw [he,hw]; clear he hw w') | (go_at_call 154; refine (GE _ _).mono ?_; rintro e w' ⟨he,hw⟩; rw [he,hw]; clear he hw w'));refine (HK.o _).mono ?_;rintro e w4 ⟨rfl,h4⟩;have a4:=a3.sT h4;have b4:=b3.sT h4;have c4:=c3.sT h4;have d4:=d3.sT h4;have v4:=v3.sT h4;have HS4:=hid (HS3.o.trans h4);clear a3 b3 c3 d3 v3 HS3 h4 f0 f1 ff g0 g1 gf i0 i1 i2 jf m0 m1 mf o0 o1 of;obtain ⟨f0,f1,ff⟩:=b4.cells;obtain ⟨g0,g1,gf⟩:=v4.cells;go_wp2_with fail;refine (VT X Y _ _ _).mono ?_;rintro e w5 ⟨rfl,h5⟩;rw [HE.o.2.2.2.1.1,HE.o.2.2.2.1.2];clear f0 f1 ff g0 g1 gf;obtain ⟨f0,f1,ff⟩:=(b4.sT h5).cells;have a5:=Vj (a4.sT h5) HN.o.1 X1 Y1;have b5:=(b4.sT h5).set X1 Y1;have c5:=YL (c4.sT h5) HN.o.2.2.2.1 X1 Y1;have d5:=YL (d4.sT h5) HN.o.2.2.2.2.1 X1 Y1;have HS5:=hid (YJ (HS4.o.trans h5) (w.heap.size+1) X1 Y1 (.inr HB.o.1));clear a4 b4 c4 d4 v4 HS4 h5;have A6:=aL (Z0 w5 (w.heap.size+1) X1 Y1) (.cells #[.int .i64 0,.int .i64 (sgn Q)] 54);have a6:=a5.sT A6;have b6:=b5.sT A6;have d6:=d5.sT A6;have v6:=Yp (Z0 w5 (w.heap.size+1) X1 Y1) 0 (sgn Q);rw [UV] at v6;have HS6:=hid (Yc.trans HS5.o A6);obtain ⟨g0,g1,gf⟩:=c5.cells;obtain ⟨i0,i1,i2,jf⟩:=a6.cells;obtain ⟨m0,m1,mf⟩:=b6.cells;obtain ⟨o0,o1,of⟩:=v6.cells;clear a5 b5 c5 d5 HS5 A6;go_wp2_with (first | (go_at_call 153; refine (Uu _ q0 q1 _).mono ?_; rintro e w' ⟨he,hw⟩; rw [he,hw]; clear he hw w') | (go_at_call 154; refine (GE _ _).mono ?_; rintro e w' ⟨he,hw⟩; rw [he,hw]; clear he hw w'));refine (HL.o _).mono ?_;rintro e w7 ⟨rfl,h7⟩;have b7:=b6.sT h7;have d7:=d6.sT h7;have v7:=v6.sT h7;have HS7:=hid (HS6.o.trans h7);clear a6 b6 d6 v6 HS6 h7 f0 f1 ff g0 g1 gf i0 i1 i2 jf m0 m1 mf o0 o1 of;obtain ⟨f0,f1,ff⟩:=b7.cells;obtain ⟨g0,g1,gf⟩:=v7.cells;go_wp2_with fail;refine (VT X1 Y1 _ _ _).mono ?_;rintro e w8 ⟨rfl,h8⟩;rw [HE.o.2.2.2.2.1,HE.o.2.2.2.2.2];clear f0 f1 ff g0 g1 gf;obtain ⟨f0,f1,ff⟩:=(b7.sT h8).cells;have b8:=(b7.sT h8).set X2 Y2;have d8:=YL (d7.sT h8) HN.o.2.2.2.2.1 X2 Y2;have HS8:=hid (YJ (HS7.o.trans h8) (w.heap.size+1) X2 Y2 (.inr HB.o.1));clear b7 d7 v7 HS7 h8;obtain ⟨g0,g1,gf⟩:=b8.cells;obtain ⟨i0,i1,jf⟩:=d8.cells;have hk:(k<P.natAbs/\(if k<P.natAbs then (1:Int) else 0)=1)\/(¬ k<P.natAbs/\(if k<P.natAbs then (1:Int) else 0)=0):=by
  by_cases h:k<P.natAbs
  ·exact .inl ⟨h,if_pos h⟩
  ·exact .inr ⟨h,if_neg h⟩
 have hl:(l<Q.natAbs/\(if l<Q.natAbs then (2:Int) else 0)=2)\/(¬ l<Q.natAbs/\(if l<Q.natAbs then (2:Int) else 0)=0):=by
  by_cases h:l<Q.natAbs
  ·exact .inl ⟨h,if_pos h⟩
  ·exact .inr ⟨h,if_neg h⟩
 rcases hk with ⟨hk,sk⟩ | ⟨hk,sk⟩ <;> rcases hl with ⟨hl,sl⟩ | ⟨hl,sl⟩
 all_goals
  have HD:=hid (And.intro sk sl);clear sk sl kl ll;go_wp2_with fail
  (try simp only [Exit.inBlock,Exit.then])
  exact bodyPost_ret ((d8.set _ _).rest rfl _ _ rfl rfl) rfl ⟨by unfold V3; rw [HD.o.1,HD.o.2]; rfl,YJ HS8.o _ _ _ (.inr HB.o.2.2)⟩
def rp (X p:Int) (n j:Nat):Int:=if j=0 then X else Yj X ((p*(j:Int)).tdiv (n:Int))
def J7 (p q:Int):Nat:=(max p.natAbs q.natAbs+63) / 64
def Xz (sol:Int->Int->Bool) (X Y p q:Int) (n j:Nat):Bool:=sol (dn (rp X p n j)) (dn (rp Y q n j))
theorem J8 {v:Int} {n:Nat} (h0:-67584<=v) (h1:v<=67584):-67584<=v.tdiv (n:Int)/\v.tdiv (n:Int)<=67584:=by
 rcases Int.le_total 0 v with h | h
 ·rw [Int.tdiv_eq_ediv_of_nonneg h];have a:0<=v / (n:Int):=Int.ediv_nonneg h (by omega);have b:v / (n:Int)<=v:=Int.ediv_le_self _ h;omega
 ·have e:v.tdiv (n:Int)=-((-v) / (n:Int)):=by
   rw [<- Int.tdiv_eq_ediv_of_nonneg (show 0 <= -v by omega),Int.neg_tdiv]; omega
  have a:0<=(-v) / (n:Int):=Int.ediv_nonneg (by omega) (by omega);have b:(-v) / (n:Int) <= -v:=Int.ediv_le_self _ (by omega);omega
theorem V4 {v:Int} (h0:-67584<=v) (h1:v<=67584):IntKind.i64.wrap v=v:=by rw [IntKind.wrap_i64]; omega
theorem J9 {p:Int} {k:Nat} (h0:-2048<=p) (h1:p<=2048) (hk:k<=33):-67584<=p*(k:Int)/\p*(k:Int)<=67584:=by
 have:(p*(k:Int)).natAbs<=2048*33:=by rw [Int.natAbs_mul]; exact Nat.mul_le_mul (by omega) (by omega)
 omega
set_option maxRecDepth 100000 in
theorem Nh (C R x y p q : Int) (s : ByteArray) (hz : s.size <= 281474976710656) (hC : C <= 9223372036854775807) (X Y P Q : Int) (n k : Nat)
    (eX:bnd x=X) (eY:bnd y=Y) (eP:stp p=P) (eQ:stp q=Q) (en:J7 P Q=n) (ek:go (Xz (Ym C R s) X Y P Q n) n=k) (w:World) :
    Ya 120 #[ar C R s,pt x y,pt p q] w (.tuple #[pt (rp X P n k) (rp Y Q n k),.bool (decide (k<n))]):=by
  have A0:=aL w (.cells #[.int .i64 C,.int .i64 R,.string s] 24);have A1:=aL (Yn w C R s) (.cells #[.int .i64 x,.int .i64 y] 54);have A2:=aL (Yh (Yn w C R s) x y) (.cells #[.int .i64 p,.int .i64 q] 54);have A3:=aL (Yh (Yh (Yn w C R s) x y) p q) (.cells #[.int .i64 0,.int .i64 0] 54);have a0:=(((Y0 w C R s).sT A1).sT A2).sT A3;have b0:=((Yp (Yn w C R s) x y).sT A2).sT A3;have c0:=(Yp (Yh (Yn w C R s) x y) p q).sT A3;have d0:=Yp (Yh (Yh (Yn w C R s) x y) p q) 0 0;simp only [Yf] at b0 c0 d0;have HS0:=hid (((A0.trans A1).trans A2).trans A3);clear A0 A1 A2 A3;have HN:=hid (show w.heap.size≠w.heap.size+1/\w.heap.size≠w.heap.size+1+1/\w.heap.size+1≠w.heap.size+1+1/\w.heap.size+1+1≠w.heap.size+1/\w.heap.size+1+1+1≠w.heap.size+1/\w.heap.size+1+1+1≠w.heap.size+1+1 by omega);have HB:=hid (show w.heap.size<=w.heap.size+1/\w.heap.size<=w.heap.size+1+1/\w.heap.size<=w.heap.size+1+1+1 by omega);have pb:=J5 p;have qb:=J5 q;rw [eP] at pb;rw [eQ] at qb;obtain ⟨p0,p1⟩:=pb;obtain ⟨q0,q1⟩:=qb;have n1:n<=32:=by rw [<- en]; unfold J7; omega
  have HX:=hid (show (-2147483647<=X/\X<=2147483647)/\(-2147483647<=Y/\Y<=2147483647) by rw [<- eX,<- eY]; exact ⟨⟨YO _,YP _⟩,⟨YO _,YP _⟩⟩);have HE:=hid (And.intro (And.intro eX eY) (And.intro (And.intro eP eQ) (And.intro en ek)));clear eX eY eP eQ ek;go_enter Tryz.func120,Tryz.ntmps120;go_wp2_with fail;refine (ZE x y _).mono ?_;rintro e w1 ⟨rfl,h1⟩;rw [HE.o.1.1,HE.o.1.2];obtain ⟨f0,f1,ff⟩:=(b0.sT h1).cells;have a1:=Vj (a0.sT h1) HN.o.1 X Y;have b1:=(b0.sT h1).set X Y;have c1:=YL (c0.sT h1) HN.o.2.2.2.1 X Y;have d1:=YL (d0.sT h1) HN.o.2.2.2.2.1 X Y;have HS1:=hid (YJ (HS0.o.trans h1) (w.heap.size+1) X Y (.inr HB.o.1));clear a0 b0 c0 d0 HS0 h1;obtain ⟨g0,g1,gf⟩:=c1.cells;go_wp2_with fail;refine (GG p q _).mono ?_;rintro e w2 ⟨rfl,h2⟩;rw [HE.o.2.1.1,HE.o.2.1.2];clear f0 f1 ff g0 g1 gf;obtain ⟨f0,f1,ff⟩:=(c1.sT h2).cells;have a2:=Vj (a1.sT h2) HN.o.2.1 P Q;have b2:=YL (b1.sT h2) HN.o.2.2.1 P Q;have c2:=(c1.sT h2).set P Q;have d2:=YL (d1.sT h2) HN.o.2.2.2.2.2 P Q;have HS2:=hid (YJ (Yc.trans HS1.o h2) (w.heap.size+1+1) P Q (.inr HB.o.2.1));clear a1 b1 c1 d1 HS1 h2;have A3:=aL (Z0 w2 (w.heap.size+1+1) P Q) (.cells #[.int .i64 X,.int .i64 Y] 54);have a3:=a2.sT A3;have b3:=b2.sT A3;have c3:=c2.sT A3;have d3:=d2.sT A3;have v3:=Yp (Z0 w2 (w.heap.size+1+1) P Q) X Y;rw [UV] at v3;have HS3:=hid (Yc.trans HS2.o A3);have NL:=hid (show w.heap.size+1+1+1<w2.heap.size by have:=Yz d2; rw [UV] at this; exact this);obtain ⟨g0,g1,gf⟩:=c2.cells;obtain ⟨m0,m1,mf⟩:=b2.cells;clear a2 b2 c2 d2 HS2 A3;have hm:(P.natAbs<Q.natAbs/\(((Q.natAbs:Nat):Int)+63) / 64=(n:Int))\/(¬ P.natAbs<Q.natAbs/\(((P.natAbs:Nat):Int)+63) / 64=(n:Int)):=by
    unfold J7 at en;by_cases h:P.natAbs<Q.natAbs
    · exact .inl ⟨h,by omega⟩
    · exact .inr ⟨h,by omega⟩
  clear en;rcases hm with ⟨hm,hd⟩ | ⟨hm,hd⟩
  · go_wp2_with (first | (go_at_call 153; (first | with_reducible refine (Uu P p0 p1 _).mono ?_ | with_reducible refine (Uu Q q0 q1 _).mono ?_); rintro e w' ⟨he,hw⟩; rw [he,hw]; clear he hw w'))
    rw [hd];clear hd hm f0 f1 ff g0 g1 gf m0 m1 mf;go_loopw [12] (fun vj wr => ∃ j : Nat, 1 <= j /\ j <= n + 1 /\ vj = .int .i64 (j : Int) /\ (∀ i, 1 <= i -> i < j -> Xz (Ym C R s) X Y P Q n i = false) /\ Ab wr w.heap.size C R s /\ Pb wr (w.heap.size + 1) X Y /\ Pb wr (w.heap.size + 1 + 1) P Q /\ Pb wr (w.heap.size + 1 + 1 + 1) 0 0 /\
        Pb wr w2.heap.size (rp X P n (j - 1)) (rp Y Q n (j - 1))/\Yc w wr) (fun vj _=>n+1 - (intOf vj).toNat)
    case atStart=>exact ⟨1,by omega,by omega,rfl,fun i h1 h2=>by omega,a3,b3,c3,d3,v3,HS3.o⟩
    case round =>
      obtain ⟨j,j1,j2,rfl,hfree,a4,b4,c4,d4,v4,hs⟩:=hrel;have HF:=hid hfree;have HS4:=hid hs;clear hfree hs a3 b3 c3 d3 v3 HS3;by_cases hlt:j<=n
      · obtain ⟨t0,t1⟩:=J9 p0 p1 (show j<=33 by omega)
        obtain ⟨t2,t3⟩:=J9 q0 q1 (show j<=33 by omega);obtain ⟨t4,t5⟩:=J8 (n:=n) t0 t1;obtain ⟨t6,t7⟩:=J8 (n:=n) t2 t3;have W1:=V4 t4 t5;have W2:=V4 t6 t7;have W3:=V4 t0 t1;have W4:=V4 t2 t3;have nz:¬ n=0:=by omega
        obtain ⟨NX,eNX⟩:∃ NX,Yj X ((P*(j:Int)).tdiv (n:Int))=NX:=⟨_,rfl⟩;obtain ⟨NY,eNY⟩:∃ NY,Yj Y ((Q*(j:Int)).tdiv (n:Int))=NY:=⟨_,rfl⟩;have bX:-2147483647<=NX/\NX<=2147483647:=by rw [<- eNX]; exact ⟨YO _,YP _⟩
        have bY:-2147483647<=NY/\NY<=2147483647:=by rw [<- eNY]; exact ⟨YO _,YP _⟩
        have HP:=hid (show rp X P n j=NX/\rp Y Q n j=NY by
          unfold rp; rw [if_neg (by omega),if_neg (by omega)]; exact ⟨eNX,eNY⟩)
        have HA:Hid (∀ u:World,Ya 114 #[pt X Y,pt ((P*(j:Int)).tdiv (n:Int)) ((Q*(j:Int)).tdiv (n:Int))] u (pt NX NY)):=hid (fun u=>by
          have h:=VT X Y ((P*(j:Int)).tdiv (n:Int)) ((Q*(j:Int)).tdiv (n:Int)) u;rw [eNX,eNY] at h;exact h)
        clear eNX eNY;go_wp2_with fail;refine J1 (on:=_) 15 13 (.cells #[.int .i64 0,.int .i64 0] 54)
          [pt X Y,.pointer (some ⟨w.heap.size+1+1,0,none⟩),.int .i64 P,.int .i64 (j:Int),.int .i64 (P*(j:Int)),.int .i64 (n:Int),.int .i64 ((P*(j:Int)).tdiv (n:Int)),.pointer (some ⟨w.heap.size+1+1,1,none⟩),.int .i64 Q,.int .i64 (j:Int),.int .i64 (Q*(j:Int)),.int .i64 (n:Int),.int .i64 ((Q*(j:Int)).tdiv (n:Int)),pt ((P*(j:Int)).tdiv (n:Int)) ((Q*(j:Int)).tdiv (n:Int)),pt NX NY]
          ⟨#[ar C R s,pt x y,pt p q,.pointer (some ⟨w.heap.size,0,none⟩),.pointer (some ⟨w.heap.size+1,0,none⟩),.pointer (some ⟨w.heap.size+1+1,0,none⟩),.pointer (some ⟨w.heap.size+1+1+1,0,none⟩),u7,.int .i64 ((Q.natAbs:Nat):Int),.int .i64 ((Q.natAbs:Nat):Int),.int .i64 (n:Int),.pointer (some ⟨w2.heap.size,0,none⟩),.int .i64 (j:Int),u13,u14,.agg #[.int .i64 x,.int .i64 y],pt X Y,.agg #[.int .i64 p,.int .i64 q],pt P Q,.pointer (some ⟨w.heap.size+1+1,0,none⟩),.int .i64 P,.int .i64 ((P.natAbs:Nat):Int),.pointer (some ⟨w.heap.size+1+1,1,none⟩),.int .i64 Q,.int .i64 ((Q.natAbs:Nat):Int),.int .i64 ((Q.natAbs:Nat):Int),.int .i64 ((P.natAbs:Nat):Int),.bool true,.int .i64 ((Q.natAbs:Nat):Int),.int .i64 ((Q.natAbs:Nat):Int),.int .i64 (((Q.natAbs:Nat):Int)+63),.int .i64 (n:Int),.agg #[.int .i64 X,.int .i64 Y],.int .i64 (j:Int),.int .i64 (n:Int),.bool true,u36,u37,pt X Y,.pointer (some ⟨w.heap.size+1+1,0,none⟩),.int .i64 P,.int .i64 (j:Int),.int .i64 (P*(j:Int)),.int .i64 (n:Int),.int .i64 ((P*(j:Int)).tdiv (n:Int)),.pointer (some ⟨w.heap.size+1+1,1,none⟩),.int .i64 Q,.int .i64 (j:Int),.int .i64 (Q*(j:Int)),.int .i64 (n:Int),.int .i64 ((Q*(j:Int)).tdiv (n:Int)),pt ((P*(j:Int)).tdiv (n:Int)) ((Q*(j:Int)).tdiv (n:Int)),pt NX NY,u53,u54,u55,u56,u57,u58,u59,u60,u61,u62,u63,undef],[]⟩
          (by kernel_rfl) (by kernel_rfl) rfl rfl rfl (by kernel_rfl) (by kernel_rfl) (show 13<65 by omega) ?_ ?_ ?_
        · simp only [List.take_succ_cons,List.take_zero,VV,and_true]
          refine ⟨?_, ?_, ?_, ?_, ?_, ?_, ?_, ?_, ?_, ?_, ?_, ?_, ?_, ?_, ?_⟩;all_goals
            intro u hu;obtain ⟨g0,g1,gf⟩:=(b4.sT hu).cells;obtain ⟨i0,i1,jf⟩:=(c4.sT hu).cells;go_simp
          all_goals exact HA.o u
        · intro u _ z
          go_simp
        simp only [List.drop_succ_cons,List.drop_zero];intro w5 g hs5 hge hz5;have N0:w.heap.size≠g:=by have:=Yz a4; omega
        have N1:w.heap.size+1≠g:=by have:=Yz b4; omega
        have N2:w.heap.size+1+1≠g:=by have:=Yz c4; omega
        have N3:w.heap.size+1+1+1≠g:=by have:=Yz d4; omega
        have N4:w2.heap.size≠g:=by have:=Yz v4; omega
        have NG:w.heap.size<=g:=by have:=Yz a4; omega
        have x5:Pb w5 g 0 0:=hz5;obtain ⟨e0,e1,ef⟩:=x5.cells;have a5:=Vj (a4.sT hs5) N0 NX NY;have b5:=YL (b4.sT hs5) N1 NX NY;have c5:=YL (c4.sT hs5) N2 NX NY;have d5:=YL (d4.sT hs5) N3 NX NY;have v5:=YL (v4.sT hs5) N4 NX NY;have y5:=x5.set NX NY;have HS5:=hid (YJ (HS4.o.trans hs5) g NX NY (.inr NG));clear a4 b4 c4 d4 v4 HS4 hs5 hge hz5 x5 N0 N1 N2 N3 N4 NG W1 W2 W3 W4 t0 t1 t2 t3 t4 t5 t6 t7 HA;simp only [Act.put,List.setIfInBounds_toArray,List.set_cons_succ,List.set_cons_zero];go_wp2_with fail;obtain ⟨W5,eW5⟩:∃ W5,Z0 w5 g NX NY=W5:=⟨_,rfl⟩;rw [show (w5.setCell ⟨g,0,none⟩ (.int .i64 NX)).setCell ⟨g,1,none⟩ (.int .i64 NY)=W5 from eW5];rw [eW5] at a5 b5 c5 d5 v5 y5 HS5;clear eW5 e0 e1 ef;have i0:=kC a5.cells.1;have i1:=kC a5.cells.2.1;have i2:=kC a5.cells.2.2.1;have o0:=kC y5.cells.1;have o1:=kC y5.cells.2.1;have hne:=Aft.here W5;obtain ⟨bX0,bX1⟩:=bX;obtain ⟨bY0,bY1⟩:=bY;cases hsol:Ym C R s (dn NX) (dn NY) with
        | true =>
          have HC:Hid (∀ u:World,Ya 53 #[ar C R s,.int .i64 (dn NX),.int .i64 (dn NY)] u (.bool true)):=hid (fun u=>VY C R (dn NX) (dn NY) s hz hC hsol u);have HK:=hid (show j - 1=k by
            rw [<- HE.o.2.2.2];refine (Ut (by omega) (fun i h1 h2=>HF.o i h1 (by omega)) (fun _=>?_)).symm;rw [show j - 1+1=j by omega];unfold Xz;rw [HP.o.1,HP.o.2];exact hsol)
          clear hsol;refine Yo (by kernel_rfl) (by kernel_rfl) ?_;repeat (go_big_quiet_step ((first | (go_at_call 157; refine Calls.cl_same (VX _ ?_ ?_ _) <;> omega) | (go_at_call 53; exact Calls.cl (HC.o _)))))
          refine wpQuiet_nil ?_;intro w6 h6;have v6:=v5.sT h6;have d6:=d5.sT h6;have HS6:=hid (Yc.trans HS5.o h6);clear a5 b5 c5 d5 v5 y5 HS5 h6 i0 i1 i2 o0 o1 hne HC;obtain ⟨i0,i1,jf⟩:=v6.cells;obtain ⟨o0,o1,of⟩:=d6.cells;go_wp2_with fail
          (try simp only [Exit.inBlock,Exit.then])
          exact bodyPost_ret ((d6.set _ _).rest rfl _ _ rfl rfl) rfl ⟨by rw [HK.o,decide_eq_true (show k<n by have:=HK.o; omega)]; rfl,YJ HS6.o _ _ _ (.inr HB.o.2.2)⟩
        | false =>
          have HC:Hid (∀ u:World,Ya 53 #[ar C R s,.int .i64 (dn NX),.int .i64 (dn NY)] u (.bool false)):=hid (fun u=>VY C R (dn NX) (dn NY) s hz hC hsol u);have HV:=hid (show Xz (Ym C R s) X Y P Q n j=false by
            unfold Xz;rw [HP.o.1,HP.o.2];exact hsol)
          clear hsol;refine Yo (by kernel_rfl) (by kernel_rfl) ?_;repeat (go_big_quiet_step ((first | (go_at_call 157; refine Calls.cl_same (VX _ ?_ ?_ _) <;> omega) | (go_at_call 53; exact Calls.cl (HC.o _)))))
          refine wpQuiet_nil ?_;intro w6 h6;have l1:w.heap.size≠w2.heap.size:=by have:=NL.o; omega
          have l2:w.heap.size+1≠w2.heap.size:=by have:=NL.o; omega
          have l3:w.heap.size+1+1≠w2.heap.size:=by have:=NL.o; omega
          have l4:w.heap.size+1+1+1≠w2.heap.size:=by have:=NL.o; omega
          have a6:=Vj (a5.sT h6) l1 NX NY;have b6:=YL (b5.sT h6) l2 NX NY;have c6:=YL (c5.sT h6) l3 NX NY;have d6:=YL (d5.sT h6) l4 NX NY;have v6:=(v5.sT h6).set NX NY;have HS6:=hid (YJ (Yc.trans HS5.o h6) w2.heap.size NX NY (.inr (by have:=NL.o; omega)));obtain ⟨q2,q3,qf⟩:=(v5.sT h6).cells;obtain ⟨s2,s3,sf⟩:=(y5.sT h6).cells;clear a5 b5 c5 d5 v5 y5 HS5 h6 i0 i1 i2 o0 o1 hne HC l1 l2 l3 l4;go_wp2_with fail;go_roundw;case rel => exact ⟨j + 1, by omega, by omega, by go_num, fun i h1 h2 => by
              by_cases e:i=j
              · subst e; exact HV.o
              · exact HF.o i h1 (by omega),a6,b6,c6,d6,by
                rw [Nat.add_sub_cancel,HP.o.1,HP.o.2]; exact v6,HS6.o⟩
          case measure=>simp [intOf]; omega
      · have HK := hid (show j - 1 = k by
          rw [<- HE.o.2.2.2];exact (Ut (by omega) (fun i h1 h2=>HF.o i h1 (by omega)) (fun h=>by omega)).symm)
        obtain ⟨i0,i1,jf⟩:=v4.cells;obtain ⟨o0,o1,of⟩:=d4.cells;go_wp2_with fail
        (try simp only [Exit.inBlock,Exit.then])
        exact bodyPost_ret ((d4.set _ _).rest rfl _ _ rfl rfl) rfl ⟨by rw [HK.o,decide_eq_false (show ¬ k<n by have:=HK.o; omega)]; rfl,YJ HS4.o _ _ _ (.inr HB.o.2.2)⟩
  · go_wp2_with (first | (go_at_call 153; (first | with_reducible refine (Uu P p0 p1 _).mono ?_ | with_reducible refine (Uu Q q0 q1 _).mono ?_); rintro e w' ⟨he,hw⟩; rw [he,hw]; clear he hw w'))
    rw [hd];clear hd hm f0 f1 ff g0 g1 gf m0 m1 mf;go_loopw [12] (fun vj wr => ∃ j : Nat, 1 <= j /\ j <= n + 1 /\ vj = .int .i64 (j : Int) /\ (∀ i, 1 <= i -> i < j -> Xz (Ym C R s) X Y P Q n i = false) /\ Ab wr w.heap.size C R s /\ Pb wr (w.heap.size + 1) X Y /\ Pb wr (w.heap.size + 1 + 1) P Q /\ Pb wr (w.heap.size + 1 + 1 + 1) 0 0 /\
        Pb wr w2.heap.size (rp X P n (j - 1)) (rp Y Q n (j - 1))/\Yc w wr) (fun vj _=>n+1 - (intOf vj).toNat)
    case atStart=>exact ⟨1,by omega,by omega,rfl,fun i h1 h2=>by omega,a3,b3,c3,d3,v3,HS3.o⟩
    case round =>
      obtain ⟨j,j1,j2,rfl,hfree,a4,b4,c4,d4,v4,hs⟩:=hrel;have HF:=hid hfree;have HS4:=hid hs;clear hfree hs a3 b3 c3 d3 v3 HS3;by_cases hlt:j<=n
      · obtain ⟨t0,t1⟩:=J9 p0 p1 (show j<=33 by omega)
        obtain ⟨t2,t3⟩:=J9 q0 q1 (show j<=33 by omega);obtain ⟨t4,t5⟩:=J8 (n:=n) t0 t1;obtain ⟨t6,t7⟩:=J8 (n:=n) t2 t3;have W1:=V4 t4 t5;have W2:=V4 t6 t7;have W3:=V4 t0 t1;have W4:=V4 t2 t3;have nz:¬ n=0:=by omega
        obtain ⟨NX,eNX⟩:∃ NX,Yj X ((P*(j:Int)).tdiv (n:Int))=NX:=⟨_,rfl⟩;obtain ⟨NY,eNY⟩:∃ NY,Yj Y ((Q*(j:Int)).tdiv (n:Int))=NY:=⟨_,rfl⟩;have bX:-2147483647<=NX/\NX<=2147483647:=by rw [<- eNX]; exact ⟨YO _,YP _⟩
        have bY:-2147483647<=NY/\NY<=2147483647:=by rw [<- eNY]; exact ⟨YO _,YP _⟩
        have HP:=hid (show rp X P n j=NX/\rp Y Q n j=NY by
          unfold rp; rw [if_neg (by omega),if_neg (by omega)]; exact ⟨eNX,eNY⟩)
        have HA:Hid (∀ u:World,Ya 114 #[pt X Y,pt ((P*(j:Int)).tdiv (n:Int)) ((Q*(j:Int)).tdiv (n:Int))] u (pt NX NY)):=hid (fun u=>by
          have h:=VT X Y ((P*(j:Int)).tdiv (n:Int)) ((Q*(j:Int)).tdiv (n:Int)) u;rw [eNX,eNY] at h;exact h)
        clear eNX eNY;go_wp2_with fail;refine J1 (on:=_) 15 13 (.cells #[.int .i64 0,.int .i64 0] 54)
          [pt X Y,.pointer (some ⟨w.heap.size+1+1,0,none⟩),.int .i64 P,.int .i64 (j:Int),.int .i64 (P*(j:Int)),.int .i64 (n:Int),.int .i64 ((P*(j:Int)).tdiv (n:Int)),.pointer (some ⟨w.heap.size+1+1,1,none⟩),.int .i64 Q,.int .i64 (j:Int),.int .i64 (Q*(j:Int)),.int .i64 (n:Int),.int .i64 ((Q*(j:Int)).tdiv (n:Int)),pt ((P*(j:Int)).tdiv (n:Int)) ((Q*(j:Int)).tdiv (n:Int)),pt NX NY]
          ⟨#[ar C R s,pt x y,pt p q,.pointer (some ⟨w.heap.size,0,none⟩),.pointer (some ⟨w.heap.size+1,0,none⟩),.pointer (some ⟨w.heap.size+1+1,0,none⟩),.pointer (some ⟨w.heap.size+1+1+1,0,none⟩),u7,.int .i64 ((P.natAbs:Nat):Int),.int .i64 ((Q.natAbs:Nat):Int),.int .i64 (n:Int),.pointer (some ⟨w2.heap.size,0,none⟩),.int .i64 (j:Int),u13,u14,.agg #[.int .i64 x,.int .i64 y],pt X Y,.agg #[.int .i64 p,.int .i64 q],pt P Q,.pointer (some ⟨w.heap.size+1+1,0,none⟩),.int .i64 P,.int .i64 ((P.natAbs:Nat):Int),.pointer (some ⟨w.heap.size+1+1,1,none⟩),.int .i64 Q,.int .i64 ((Q.natAbs:Nat):Int),.int .i64 ((Q.natAbs:Nat):Int),.int .i64 ((P.natAbs:Nat):Int),.bool false,undef,.int .i64 ((P.natAbs:Nat):Int),.int .i64 (((P.natAbs:Nat):Int)+63),.int .i64 (n:Int),.agg #[.int .i64 X,.int .i64 Y],.int .i64 (j:Int),.int .i64 (n:Int),.bool true,u36,u37,pt X Y,.pointer (some ⟨w.heap.size+1+1,0,none⟩),.int .i64 P,.int .i64 (j:Int),.int .i64 (P*(j:Int)),.int .i64 (n:Int),.int .i64 ((P*(j:Int)).tdiv (n:Int)),.pointer (some ⟨w.heap.size+1+1,1,none⟩),.int .i64 Q,.int .i64 (j:Int),.int .i64 (Q*(j:Int)),.int .i64 (n:Int),.int .i64 ((Q*(j:Int)).tdiv (n:Int)),pt ((P*(j:Int)).tdiv (n:Int)) ((Q*(j:Int)).tdiv (n:Int)),pt NX NY,u53,u54,u55,u56,u57,u58,u59,u60,u61,u62,u63,undef],[]⟩
          (by kernel_rfl) (by kernel_rfl) rfl rfl rfl (by kernel_rfl) (by kernel_rfl) (show 13<65 by omega) ?_ ?_ ?_
        · simp only [List.take_succ_cons,List.take_zero,VV,and_true]
          refine ⟨?_, ?_, ?_, ?_, ?_, ?_, ?_, ?_, ?_, ?_, ?_, ?_, ?_, ?_, ?_⟩;all_goals
            intro u hu;obtain ⟨g0,g1,gf⟩:=(b4.sT hu).cells;obtain ⟨i0,i1,jf⟩:=(c4.sT hu).cells;go_simp
          all_goals exact HA.o u
        · intro u _ z
          go_simp
        simp only [List.drop_succ_cons,List.drop_zero];intro w5 g hs5 hge hz5;have N0:w.heap.size≠g:=by have:=Yz a4; omega
        have N1:w.heap.size+1≠g:=by have:=Yz b4; omega
        have N2:w.heap.size+1+1≠g:=by have:=Yz c4; omega
        have N3:w.heap.size+1+1+1≠g:=by have:=Yz d4; omega
        have N4:w2.heap.size≠g:=by have:=Yz v4; omega
        have NG:w.heap.size<=g:=by have:=Yz a4; omega
        have x5:Pb w5 g 0 0:=hz5;obtain ⟨e0,e1,ef⟩:=x5.cells;have a5:=Vj (a4.sT hs5) N0 NX NY;have b5:=YL (b4.sT hs5) N1 NX NY;have c5:=YL (c4.sT hs5) N2 NX NY;have d5:=YL (d4.sT hs5) N3 NX NY;have v5:=YL (v4.sT hs5) N4 NX NY;have y5:=x5.set NX NY;have HS5:=hid (YJ (HS4.o.trans hs5) g NX NY (.inr NG));clear a4 b4 c4 d4 v4 HS4 hs5 hge hz5 x5 N0 N1 N2 N3 N4 NG W1 W2 W3 W4 t0 t1 t2 t3 t4 t5 t6 t7 HA;simp only [Act.put,List.setIfInBounds_toArray,List.set_cons_succ,List.set_cons_zero];go_wp2_with fail;obtain ⟨W5,eW5⟩:∃ W5,Z0 w5 g NX NY=W5:=⟨_,rfl⟩;rw [show (w5.setCell ⟨g,0,none⟩ (.int .i64 NX)).setCell ⟨g,1,none⟩ (.int .i64 NY)=W5 from eW5];rw [eW5] at a5 b5 c5 d5 v5 y5 HS5;clear eW5 e0 e1 ef;have i0:=kC a5.cells.1;have i1:=kC a5.cells.2.1;have i2:=kC a5.cells.2.2.1;have o0:=kC y5.cells.1;have o1:=kC y5.cells.2.1;have hne:=Aft.here W5;obtain ⟨bX0,bX1⟩:=bX;obtain ⟨bY0,bY1⟩:=bY;cases hsol:Ym C R s (dn NX) (dn NY) with
        | true =>
          have HC:Hid (∀ u:World,Ya 53 #[ar C R s,.int .i64 (dn NX),.int .i64 (dn NY)] u (.bool true)):=hid (fun u=>VY C R (dn NX) (dn NY) s hz hC hsol u);have HK:=hid (show j - 1=k by
            rw [<- HE.o.2.2.2];refine (Ut (by omega) (fun i h1 h2=>HF.o i h1 (by omega)) (fun _=>?_)).symm;rw [show j - 1+1=j by omega];unfold Xz;rw [HP.o.1,HP.o.2];exact hsol)
          clear hsol;refine Yo (by kernel_rfl) (by kernel_rfl) ?_;repeat (go_big_quiet_step ((first | (go_at_call 157; refine Calls.cl_same (VX _ ?_ ?_ _) <;> omega) | (go_at_call 53; exact Calls.cl (HC.o _)))))
          refine wpQuiet_nil ?_;intro w6 h6;have v6:=v5.sT h6;have d6:=d5.sT h6;have HS6:=hid (Yc.trans HS5.o h6);clear a5 b5 c5 d5 v5 y5 HS5 h6 i0 i1 i2 o0 o1 hne HC;obtain ⟨i0,i1,jf⟩:=v6.cells;obtain ⟨o0,o1,of⟩:=d6.cells;go_wp2_with fail
          (try simp only [Exit.inBlock,Exit.then])
          exact bodyPost_ret ((d6.set _ _).rest rfl _ _ rfl rfl) rfl ⟨by rw [HK.o,decide_eq_true (show k<n by have:=HK.o; omega)]; rfl,YJ HS6.o _ _ _ (.inr HB.o.2.2)⟩
        | false =>
          have HC:Hid (∀ u:World,Ya 53 #[ar C R s,.int .i64 (dn NX),.int .i64 (dn NY)] u (.bool false)):=hid (fun u=>VY C R (dn NX) (dn NY) s hz hC hsol u);have HV:=hid (show Xz (Ym C R s) X Y P Q n j=false by
            unfold Xz;rw [HP.o.1,HP.o.2];exact hsol)
          clear hsol;refine Yo (by kernel_rfl) (by kernel_rfl) ?_;repeat (go_big_quiet_step ((first | (go_at_call 157; refine Calls.cl_same (VX _ ?_ ?_ _) <;> omega) | (go_at_call 53; exact Calls.cl (HC.o _)))))
          refine wpQuiet_nil ?_;intro w6 h6;have l1:w.heap.size≠w2.heap.size:=by have:=NL.o; omega
          have l2:w.heap.size+1≠w2.heap.size:=by have:=NL.o; omega
          have l3:w.heap.size+1+1≠w2.heap.size:=by have:=NL.o; omega
          have l4:w.heap.size+1+1+1≠w2.heap.size:=by have:=NL.o; omega
          have a6:=Vj (a5.sT h6) l1 NX NY;have b6:=YL (b5.sT h6) l2 NX NY;have c6:=YL (c5.sT h6) l3 NX NY;have d6:=YL (d5.sT h6) l4 NX NY;have v6:=(v5.sT h6).set NX NY;have HS6:=hid (YJ (Yc.trans HS5.o h6) w2.heap.size NX NY (.inr (by have:=NL.o; omega)));obtain ⟨q2,q3,qf⟩:=(v5.sT h6).cells;obtain ⟨s2,s3,sf⟩:=(y5.sT h6).cells;clear a5 b5 c5 d5 v5 y5 HS5 h6 i0 i1 i2 o0 o1 hne HC l1 l2 l3 l4;go_wp2_with fail;go_roundw;case rel => exact ⟨j + 1, by omega, by omega, by go_num, fun i h1 h2 => by
              by_cases e:i=j
              · subst e; exact HV.o
              · exact HF.o i h1 (by omega),a6,b6,c6,d6,by
                rw [Nat.add_sub_cancel,HP.o.1,HP.o.2]; exact v6,HS6.o⟩
          case measure=>simp [intOf]; omega
      · have HK := hid (show j - 1 = k by
          rw [<- HE.o.2.2.2];exact (Ut (by omega) (fun i h1 h2=>HF.o i h1 (by omega)) (fun h=>by omega)).symm)
        obtain ⟨i0,i1,jf⟩:=v4.cells;obtain ⟨o0,o1,of⟩:=d4.cells;go_wp2_with fail
        (try simp only [Exit.inBlock,Exit.then])
        exact bodyPost_ret ((d4.set _ _).rest rfl _ _ rfl rfl) rfl ⟨by rw [HK.o,decide_eq_false (show ¬ k<n by have:=HK.o; omega)]; rfl,YJ HS4.o _ _ _ (.inr HB.o.2.2)⟩
end Go.Proofs.YthcjckgmdokmdaaGreatDoor
namespace Go.Proofs.YthcjckgmdokmdaaGreatDoor
open Pu Gp Ap
/-! ### Within the bounds -/
def KE (x:Int):Prop:=-2147483647<=x/\x<=2147483647
theorem Ni (x y:Int):KE (Yj x y):=⟨YO _,YP _⟩
/-! ### Where a body comes -/
section
variable {sol:Int->Int->Bool} {r X Y P Q:Int}
end
/-! ### Rays -/
/-! ### Two slides, one behind the other, to the right -/
section
variable {sol:Int->Int->Bool} {r X Y:Int}
end
end Go.Proofs.YthcjckgmdokmdaaGreatDoor
set_option maxRecDepth 100000
namespace Go.Proofs.YthcjckgmdokmdaaGreatDoor
open Go
section
variable {P:Program} {W:World} {l:List Oper} {n r:Nat} {xs:List Nat} {A:Act}
end
end Go.Proofs.YthcjckgmdokmdaaGreatDoor
set_option maxRecDepth 100000
namespace Go.Proofs.YthcjckgmdokmdaaGreatDoor
open Go.RowKit
open Pu Gp Ap
end Go.Proofs.YthcjckgmdokmdaaGreatDoor
namespace Go.Proofs.YthcjckgmdokmdaaGreatDoor
open Pu Gp Ap
end Go.Proofs.YthcjckgmdokmdaaGreatDoor
namespace Go.Proofs.YthcjckgmdokmdaaGreatDoor
open Go.RowKit
open Pu Gp Ap
end Go.Proofs.YthcjckgmdokmdaaGreatDoor
set_option maxRecDepth 100000
namespace Go.Proofs.YthcjckgmdokmdaaGreatDoor
open Go.RowKit
open Pu Gp Ap
def Vk (s:ByteArray) (c:Int):Nat->Nat->Int
 | 0,_=>-1
 | f+1,i=>if byt s i=c then (i:Int) else Vk s c f (i+1)
def fnd (s:ByteArray) (c:Int) (i:Nat):Int:=Vk s c (s.size - i) i
theorem Nj {s:ByteArray} {c:Int} {i:Nat} (h:s.size<=i):fnd s c i=-1:=by
 unfold fnd;rw [show s.size - i=0 by omega];rfl
theorem Nk {s:ByteArray} {c:Int} {i:Nat} (h:i<s.size) (hc:byt s i=c):fnd s c i=(i:Int):=by
 unfold fnd;rw [show s.size - i=(s.size - (i+1))+1 by omega,Vk,if_pos hc]
theorem Nl {s:ByteArray} {c:Int} {i:Nat} (h:i<s.size) (hc:¬ byt s i=c):fnd s c i=fnd s c (i+1):=by
 unfold fnd;rw [show s.size - i=(s.size - (i+1))+1 by omega,Vk,if_neg hc]
theorem GI (s:ByteArray) (c:Int):∀ (f i:Nat),i+f=s.size->(Vk s c f i=-1/\∀ j,i<=j->j<s.size->byt s j≠c) \/ ∃ k:Nat,Vk s c f i=(k:Int)/\i<=k/\k<s.size/\byt s k=c/\∀ j,i<=j->j<k->byt s j≠c
 | 0,i,h=>.inl ⟨rfl,fun j h1 h2=>by omega⟩
 | f+1,i,h=>by
  rw [Vk];by_cases hc:byt s i=c
  ·rw [if_pos hc];exact .inr ⟨i,rfl,Nat.le_refl _,by omega,hc,fun j h1 h2=>by omega⟩
  ·rw [if_neg hc];rcases GI s c f (i+1) (by omega) with ⟨e,h1⟩ | ⟨k,e,h1,h2,h3,h4⟩
   ·refine .inl ⟨e,fun j j1 j2=>?_⟩;by_cases ej:j=i
    ·subst ej; exact hc
    ·exact h1 j (by omega) j2
   ·refine .inr ⟨k,e,by omega,h2,h3,fun j j1 j2=>?_⟩;by_cases ej:j=i
    ·subst ej; exact hc
    ·exact h4 j (by omega) j2
theorem Uv (s:ByteArray) (c:Int) (i:Nat) (h:i<=s.size):(fnd s c i=-1/\∀ j,i<=j->j<s.size->byt s j≠c) \/ ∃ k:Nat,fnd s c i=(k:Int)/\i<=k/\k<s.size/\byt s k=c/\∀ j,i<=j->j<k->byt s j≠c :=
 GI s c (s.size - i) i (by omega)
theorem JA (s:ByteArray) (c:Int) (i:Nat) (hz:s.size<=281474976710656) (hi:i<=s.size) (w:World) :
  Yb 57 #[.string s,.int .u8 c,.int .i64 (i:Int)] w (.int .i64 (fnd s c i)):=by
 obtain ⟨T,eT⟩:∃ T,T=fnd s c i:=⟨_,rfl⟩;have HT:=hid eT;rw [<- eT];clear eT;go_enter Tryz.func57,Tryz.ntmps57;go_wp2
 go_loop [7] (fun v=>∃ j:Nat,j<=s.size/\v=.int .i64 (j:Int)/\T=fnd s c j) (fun v=>s.size - (intOf v).toNat);case atStart=>exact ⟨i,hi,rfl,HT.o⟩
 case round =>
  obtain ⟨j,hj,rfl,hf⟩:=hrel;by_cases hlt:j<s.size
  ·have e:=ZF s j hlt;obtain ⟨b,eb⟩:∃ b,byt s j=b:=⟨_,rfl⟩;rw [eb] at e;by_cases hc:b=c
   ·have HF:=hid (show (j:Int)=T by rw [hf,Nk hlt (eb.trans hc)]);clear hf eb;subst hc;go_wp2
    go_ret;exact ⟨Zb HF.o,rfl⟩
   ·have HF:=hid (show T=fnd s c (j+1) by rw [hf,Nl hlt (by rw [eb]; exact hc)]);have hc':(b == c)=false:=by simpa using hc
    clear hf eb;go_wp2
    go_round
    case rel=>exact ⟨j+1,by omega,by go_num,HF.o⟩
    case measure=>simp [intOf]; omega
  ·have HF:=hid (show (-1:Int)=T by rw [hf,Nj (by omega)]);clear hf;go_wp2
   go_ret;exact ⟨Zb HF.o,rfl⟩
def okC (c:Int):Bool:=c == 35 || c == 46 || c == 42 || (decide (49<=c) && decide (c<=54))
def ZO (s:ByteArray):Nat->Bool
 | 0=>true
 | n+1=>ZO s n && okC (byt s n)
theorem GJ {s:ByteArray}:∀ {n m:Nat},n<=m->ZO s n=false->ZO s m=false
  | n, 0, h, k => by obtain rfl : n = 0 := by omega
                     exact k
  | n,m+1,h,k=>by
    by_cases e:n=m+1
    · subst e; exact k
    · rw [ZO,GJ (n:=n) (m:=m) (by omega) k]; rfl
theorem sgns_iff {s:ByteArray}:∀ {n:Nat},ZO s n=true ↔ ∀ i,i<n->okC (byt s i)=true
 | 0=>⟨fun _ i h=>by omega,fun _=>rfl⟩
 | n+1=>by
  rw [ZO,Bool.and_eq_true,sgns_iff];constructor
  ·rintro ⟨h1,h2⟩ i hi;by_cases e:i=n
   ·subst e; exact h2
   ·exact h1 i (by omega)
  ·intro h;exact ⟨fun i hi=>h i (by omega),h n (by omega)⟩
theorem Nm (b:Int):(okC b=true/\(b=35\/b=46\/b=42\/((b != 35)=true/\(b != 46)=true/\(b != 42)=true/\decide (b<49)=false/\decide (54<b)=false))) \/
  (okC b=false/\(b != 35)=true/\(b != 46)=true/\(b != 42)=true/\(decide (b<49)=true\/(decide (b<49)=false/\decide (54<b)=true))):=by
 unfold okC;by_cases h1:b=35
 ·subst h1; exact .inl ⟨by decide,.inl rfl⟩
 by_cases h2:b=46
 ·subst h2; exact .inl ⟨by decide,.inr (.inl rfl)⟩
 by_cases h3:b=42
 ·subst h3; exact .inl ⟨by decide,.inr (.inr (.inl rfl))⟩
 have n1:(b != 35)=true:=by simpa using h1
 have n2:(b != 46)=true:=by simpa using h2
 have n3:(b != 42)=true:=by simpa using h3
 by_cases h4:b<49
 ·exact .inr ⟨by simp [h1,h2,h3]; omega,n1,n2,n3,.inl (by simpa using h4)⟩
 by_cases h5:54<b
 ·exact .inr ⟨by simp [h1,h2,h3]; omega,n1,n2,n3,.inr ⟨by simpa using h4,by simpa using h5⟩⟩
 ·exact .inl ⟨by simp; omega,.inr (.inr (.inr ⟨n1,n2,n3,by simpa using h4,by simpa using h5⟩))⟩
end Go.Proofs.YthcjckgmdokmdaaGreatDoor
set_option maxRecDepth 100000
namespace Go.Proofs.YthcjckgmdokmdaaGreatDoor
open Go.RowKit
open Pu Gp Ap
def ZG (s:ByteArray):Nat->Nat->Nat
 | 0,n=>n
 | f+1,n=>if 0<=fnd s (49+(n:Int)) 0 then ZG s f (n+1) else n
def mny (s:ByteArray):Nat:=ZG s 6 0
theorem KF (C R:Int) (s:ByteArray) (hz:s.size<=281474976710656) (w:World):Ya 56 #[ar C R s] w (.int .i64 (mny s:Nat)):=by
 obtain ⟨T,eT⟩:∃ T,T=mny s:=⟨_,rfl⟩;have HT:=hid (show T=ZG s 6 0 from eT);rw [<- eT];clear eT;have p:=Y0 w C R s;obtain ⟨c0,c1,c2,cf⟩:=p.cells;simp only [Yn] at c0 c1 c2 cf;go_enter Tryz.func56,Tryz.ntmps56;go_wp2_with fail;go_loop [3] (fun v=>∃ n:Nat,n<=6/\v=.int .i64 (n:Int)/\T=ZG s (6 - n) n) (fun v=>6 - (intOf v).toNat);case atStart=>exact ⟨0,by omega,rfl,HT.o⟩
 case round =>
  obtain ⟨n,hn,rfl,hf⟩:=hrel;by_cases hlt:n<6
  ·rw [show 6 - n=(6 - (n+1))+1 by omega,ZG] at hf;have hd:=Uv s (49+(n:Int)) 0 (by omega);obtain ⟨F,eF⟩:∃ F,fnd s (49+(n:Int)) 0=F:=⟨_,rfl⟩;have HC:Hid (∀ u:World,Yb 57 #[.string s,.int .u8 (49+(n:Int)),.int .i64 0] u (.int .i64 F)):=hid (fun u=>by
    have h:=JA s (49+(n:Int)) 0 hz (by omega) u;rw [eF] at h;exact h)
   rw [eF] at hf;have wr8:IntKind.u8.wrap (49+(n:Int))=49+(n:Int):=by rw [IntKind.wrap_u8]; omega
   clear hd eF;by_cases hF:0<=F
   ·rw [if_pos hF] at hf;have HF:=hid hf;clear hf;go_wp2_with (go_at_call 57; refine (HC.o _).mono ?_; rintro e w' ⟨he,hw⟩; rw [he,hw]; clear he hw w');go_round
    case rel=>exact ⟨n+1,by omega,by go_num,HF.o⟩
    case measure=>simp [intOf]; omega
   ·rw [if_neg hF] at hf;have HF:=hid (show ((n:Nat):Int)=(T:Nat) by rw [hf]);have hF':decide (0<=F)=false:=decide_eq_false hF;clear hf;go_wp2_with (go_at_call 57; refine (HC.o _).mono ?_; rintro e w' ⟨he,hw⟩; rw [he,hw]; clear he hw w');go_ret;exact ⟨Zb HF.o,aL w _⟩
  ·obtain rfl:n=6:=by omega
   have HF:=hid (show ((6:Nat):Int)=(T:Nat) by rw [hf]; rfl);clear hf;go_wp2_with fail;go_ret;exact ⟨Zb HF.o,aL w _⟩
end Go.Proofs.YthcjckgmdokmdaaGreatDoor
set_option maxRecDepth 100000
namespace Go.Proofs.YthcjckgmdokmdaaGreatDoor
open Go.RowKit
open Pu Gp Ap
def Vl (C R:Int) (i:Nat):Bool:=decide ((i:Int) % C=0) || decide ((i:Int) / C=0) || decide ((i:Int) % C=C - 1) || decide ((i:Int) / C=R - 1)
def Xl (C R:Int) (s:ByteArray) (i:Nat):Bool:=byt s i == 35 || (!Vl C R i && okC (byt s i))
def Zu (C R:Int) (s:ByteArray):Nat->Bool
 | 0=>true
 | n+1=>Zu C R s n && Xl C R s n
def Zl (s:ByteArray):Nat->Nat
 | 0=>0
 | n+1=>Zl s n+if byt s n=42 then 1 else 0
def ZY (C R:Int) (s:ByteArray):Bool:=decide (3<=C/\C<=32/\3<=R/\R<=24/\(s.size:Int)=C*R)
def YM (C R:Int) (s:ByteArray):Bool:=ZY C R s && (Zu C R s s.size && decide (Zl s s.size<=16))
theorem KG {C R:Int} {s:ByteArray}:∀ {n m:Nat},n<=m->Zu C R s n=false->Zu C R s m=false
  | n, 0, h, k => by obtain rfl : n = 0 := by omega
                     exact k
  | n,m+1,h,k=>by
    by_cases e:n=m+1
    · subst e; exact k
    · rw [Zu,KG (n:=n) (m:=m) (by omega) k]; rfl
theorem KH (s:ByteArray):∀ n,Zl s n<=n
 | 0=>Nat.le_refl _
 | n+1=>by
  have:=KH s n;rw [Zl];split <;> omega
theorem Nq (C R:Int) (s:ByteArray) (h:ZY C R s=false) (w:World):Ya 106 #[ar C R s] w (.bool false):=by
  unfold ZY at h;have h':=of_decide_eq_false h;have hw : (decide (C < 3) = true) \/ (decide (C < 3) = false /\ decide (32 < C) = true) \/ (decide (C < 3) = false /\ decide (32 < C) = false /\ decide (R < 3) = true) \/ (decide (C < 3) = false /\ decide (32 < C) = false /\ decide (R < 3) = false /\ decide (24 < R) = true) \/
      (decide (C<3)=false/\decide (32<C)=false/\decide (R<3)=false/\decide (24<R)=false/\((s.size:Int) != C*R)=true):=by
    by_cases x1:C<3
    · exact .inl (by simpa using x1)
    by_cases x2:32<C
    · exact .inr (.inl ⟨by simpa using x1,by simpa using x2⟩)
    by_cases x3:R<3
    · exact .inr (.inr (.inl ⟨by simpa using x1,by simpa using x2,by simpa using x3⟩))
    by_cases x4:24<R
    · exact .inr (.inr (.inr (.inl ⟨by simpa using x1,by simpa using x2,by simpa using x3,by simpa using x4⟩)))
    · refine .inr (.inr (.inr (.inr ⟨by simpa using x1,by simpa using x2,by simpa using x3,by simpa using x4, ?_⟩)))
      have:¬ (s.size:Int)=C*R:=fun e=>h' ⟨by omega,by omega,by omega,by omega,e⟩;simpa using this
  have hm:(3<=C/\C<=32/\3<=R/\R<=24)->0<=C*R/\C*R<=768:=by
    rintro ⟨a,b,c,d⟩;have h1:0<=C*R:=Int.mul_nonneg (by omega) (by omega);have h2:C*R<=32*24:=Int.mul_le_mul b d (by omega) (by omega);omega
  clear h h';rcases hw with x1 | ⟨x1,x2⟩ | ⟨x1,x2,x3⟩ | ⟨x1,x2,x3,x4⟩ | ⟨x1,x2,x3,x4,x5⟩;case inr.inr.inr.inr =>
    obtain ⟨m0,m1⟩:=hm ⟨by simpa using x1,by simpa using x2,by simpa using x3,by simpa using x4⟩;clear hm;go_enter Tryz.func106,Tryz.ntmps106;go_wp2_with fail;go_ret;exact ⟨rfl,aL w _⟩
  all_goals
    clear hm;go_enter Tryz.func106,Tryz.ntmps106;go_wp2_with fail;go_ret;exact ⟨rfl,aL w _⟩
theorem Nr (C R q m:Int):((decide (m=0) || decide (q=0) || decide (m=C - 1) || decide (q=R - 1))=true/\((m == 0)=true\/((m == 0)=false/\(q == 0)=true)\/((m == 0)=false/\(q == 0)=false/\(m == C - 1)=true)\/((m == 0)=false/\(q == 0)=false/\(m == C - 1)=false/\(q == R - 1)=true))) \/
  ((decide (m=0) || decide (q=0) || decide (m=C - 1) || decide (q=R - 1))=false/\(m == 0)=false/\(q == 0)=false/\(m == C - 1)=false/\(q == R - 1)=false):=by
 by_cases h1:m=0
 ·exact .inl ⟨by simp [h1],.inl (by simpa using h1)⟩
 by_cases h2:q=0
 ·exact .inl ⟨by simp [h2],.inr (.inl ⟨by simpa using h1,by simpa using h2⟩)⟩
 by_cases h3:m=C - 1
 ·exact .inl ⟨by simp [h3],.inr (.inr (.inl ⟨by simpa using h1,by simpa using h2,by simpa using h3⟩))⟩
 by_cases h4:q=R - 1
 ·exact .inl ⟨by simp [h4],.inr (.inr (.inr ⟨by simpa using h1,by simpa using h2,by simpa using h3,by simpa using h4⟩))⟩
 ·exact .inr ⟨by simp [h1,h2,h3,h4],by simpa using h1,by simpa using h2,by simpa using h3,by simpa using h4⟩
set_option maxRecDepth 100000 in
theorem Ns (C R:Int) (s:ByteArray) (h:ZY C R s=true) (w:World):Ya 106 #[ar C R s] w (.bool (Zu C R s s.size && decide (Zl s s.size<=16))):=by
 unfold ZY at h;obtain ⟨h1,h2,h3,h4,h5⟩:=of_decide_eq_true h;have m0:0<=C*R:=Int.mul_nonneg (by omega) (by omega);have m1:C*R<=768:=by
  have:C*R<=32*24:=Int.mul_le_mul h2 h4 (by omega) (by omega);omega
 have hz:s.size<=768:=by omega
 have h5':((s.size:Int) != C*R)=false:=by simpa using h5
 obtain ⟨T,eT⟩:∃ T,T=(Zu C R s s.size && decide (Zl s s.size<=16)):=⟨_,rfl⟩;have HT:=hid eT;have H5:=hid h5;rw [<- eT];clear eT h h5;have p:=Y0 w C R s;obtain ⟨c0,c1,c2,cf⟩:=p.cells;simp only [Yn] at c0 c1 c2 cf;go_enter Tryz.func106,Tryz.ntmps106;go_wp2_with fail;go_loop [3,4] (fun v u=>∃ i:Nat,i<=s.size/\u=.int .i64 (i:Int)/\v=.int .i64 (Zl s i:Nat)/\Zu C R s i=true) (fun _ u=>s.size - (intOf u).toNat);case atStart=>exact ⟨0,by omega,rfl,rfl,rfl⟩
 case round =>
  obtain ⟨i,hi,rfl,rfl,hg⟩:=hrel;have sl:=KH s i;obtain ⟨S,eS⟩:∃ S,Zl s i=S:=⟨_,rfl⟩;rw [eS] at sl ⊢;have HS:=hid eS;clear eS;by_cases hlt:i<s.size
  ·have e:=ZF s i hlt;obtain ⟨b,eb⟩:∃ b,byt s i=b:=⟨_,rfl⟩;rw [eb] at e;have HB:=hid eb;clear eb;obtain ⟨m,em⟩:∃ m,(i:Int) % C=m:=⟨_,rfl⟩;obtain ⟨q,eq⟩:∃ q,(i:Int) / C=q:=⟨_,rfl⟩;have b1:0<=m/\m<C:=by rw [<- em]; exact ⟨Int.emod_nonneg _ (by omega),Int.emod_lt_of_pos _ (by omega)⟩
   have b2:0<=q/\q<=(i:Int):=by rw [<- eq]; exact ⟨Int.ediv_nonneg (by omega) (by omega),Int.ediv_le_self _ (by omega)⟩
   obtain ⟨b10,b11⟩:=b1;obtain ⟨b20,b21⟩:=b2;have et:(i:Int).tmod C=m:=by rw [Int.tmod_eq_emod_of_nonneg (by omega),em]
   have ed:(i:Int).tdiv C=q:=by rw [Int.tdiv_eq_ediv_of_nonneg (by omega),eq]
   have HE:=hid (show Vl C R i=(decide (m=0) || decide (q=0) || decide (m=C - 1) || decide (q=R - 1)) by unfold Vl; rw [em,eq]);have HG:=hid hg;clear hg;rcases Nr C R q m with ⟨hE,hw⟩ | ⟨hE,x1,x2,x3,x4⟩
   ·have HE':=hid (HE.o.trans hE);clear hE HE;by_cases h35:b=35
    ·have HN:=hid (show Zu C R s (i+1)=true/\Zl s (i+1)=S by
      rw [Zu,Zl,HG.o,Xl,HB.o,h35,HS.o]; exact ⟨rfl,rfl⟩)
     subst h35;clear HB HG HE' HS;rcases hw with x1 | ⟨x1,x2⟩ | ⟨x1,x2,x3⟩ | ⟨x1,x2,x3,x4⟩;all_goals
      go_wp2_with fail;go_round
      case rel=>exact ⟨i+1,by omega,by go_num,by rw [HN.o.2],HN.o.1⟩
      case measure=>simp [intOf]; omega
    ·have n35:(b != 35)=true:=by simpa using h35
     have HF:=hid (show false=T by
      rw [HT.o,KG (n:=i+1) (m:=s.size) (by omega) (by
       rw [Zu,HG.o,Xl,HB.o,HE'.o,show (b == 35)=false by simpa using h35]; rfl)]
      rfl)
     clear HB HG HE' HS h35;rcases hw with x1 | ⟨x1,x2⟩ | ⟨x1,x2,x3⟩ | ⟨x1,x2,x3,x4⟩;all_goals
      go_wp2_with fail;go_ret;exact ⟨ZX HF.o,aL w _⟩
   ·have HE':=hid (HE.o.trans hE);clear hE HE;rcases Nm b with ⟨hok,hw⟩ | ⟨hok,n1,n2,n3,hw⟩
    ·have HN:=hid (show Zu C R s (i+1)=true by
      rw [Zu,HG.o,Xl,HB.o,HE'.o,hok]; simp)
     have HP:=hid (show Zl s (i+1)=S+if b=42 then 1 else 0 by rw [Zl,HB.o,HS.o]);clear HB HG HE' HS hok;rcases hw with rfl | rfl | rfl | ⟨n1,n2,n3,n4,n5⟩;case inr.inr.inl =>
      go_wp2_with fail;go_round
      case rel=>exact ⟨i+1,by omega,by go_num,by rw [HP.o]; simp,HN.o⟩
      case measure=>simp [intOf]; omega
     case inr.inr.inr =>
      have n6:(b == 42)=false:=by simpa using n3
      go_wp2_with fail;go_round
      case rel=>exact ⟨i+1,by omega,by go_num,by rw [HP.o,if_neg (by simpa using n3)]; rfl,HN.o⟩
      case measure=>simp [intOf]; omega
     all_goals
      go_wp2_with fail;go_round
      case rel=>exact ⟨i+1,by omega,by go_num,by rw [HP.o]; rfl,HN.o⟩
      case measure=>simp [intOf]; omega
    ·have HF:=hid (show false=T by
      rw [HT.o,KG (n:=i+1) (m:=s.size) (by omega) (by
       rw [Zu,HG.o,Xl,HB.o,HE'.o,hok,show (b == 35)=false by simpa using n1]; rfl)]
      rfl)
     clear HB HG HE' HS hok;rcases hw with n4 | ⟨n4,n5⟩;all_goals
      go_wp2_with fail;go_ret;exact ⟨ZX HF.o,aL w _⟩
  ·have HF:=hid (show decide (S<=16)=T by
    rw [HT.o,show s.size=i by omega,hg,HS.o]; rfl)
   clear hg HS;go_wp2_with fail;go_ret;exact ⟨ZX ((show decide ((S:Int)<=16)=decide (S<=16) from decide_eq_decide.2 (by omega)).trans HF.o),aL w _⟩
theorem Nt (C R:Int) (s:ByteArray) (w:World):Ya 106 #[ar C R s] w (.bool (YM C R s)):=by
 unfold YM;cases h:ZY C R s with
 | false=>exact Nq C R s h w
 | true =>
  rw [Bool.true_and];exact Ns C R s h w
end Go.Proofs.YthcjckgmdokmdaaGreatDoor
set_option maxRecDepth 100000
namespace Go.Proofs.YthcjckgmdokmdaaGreatDoor
open Go.RowKit
open Pu Gp Ap
def rowB (I:Nat->Bool) (n:Nat):Array Value:=((List.range n).map fun i=>Value.bool (I i)).toArray
theorem JB (I:Nat->Bool) {n i:Nat} (h:i<n):(rowB I n)[i]?=some (.bool (I i)):=by simp [rowB,h]
theorem JC (I:Nat->Bool) (n:Nat):(rowB I n).size=n:=by simp [rowB]
def upd (I:Nat->Bool) (k:Nat):Nat->Bool:=fun j=>if j=k then true else I j
theorem UW (I:Nat->Bool) {n k:Nat} (_h:k<n):(rowB I n).setIfInBounds k (.bool true)=rowB (upd I k) n:=by
 apply Array.ext_getElem?;intro i;by_cases hi:i<n
 ·rw [JB _ hi];by_cases e:k=i
  ·subst e;rw [Array.getElem?_setIfInBounds_self,JC,if_pos hi];simp [upd]
  ·rw [Array.getElem?_setIfInBounds_ne e,JB _ hi];simp [upd,show ¬ i=k from fun h=>e h.symm]
 ·rw [Array.getElem?_eq_none (by rw [Array.size_setIfInBounds,JC]; omega),Array.getElem?_eq_none (by rw [JC]; omega)]
def Rb (w:World) (g n:Nat) (I:Nat->Bool):Prop:=w.heap[g]?=some (.cells (rowB I n) 4 (0,0))
theorem Rb.sT {w w':World} {g n:Nat} {I:Nat->Bool} (h:Rb w g n I) (hs:Yc w w'):Rb w' g n I:=hs.kept_still h
theorem Rb.cell {w:World} {g n i:Nat} {I:Nat->Bool} (h:Rb w g n I) (hi:i<n):w.cell? ⟨g,i,none⟩=some (.bool (I i)):=by
 rw [cell_of_row _ _ _ _ _ _ h,JB _ hi]
theorem Rb.frozen {w:World} {g n:Nat} {I:Nat->Bool} (h:Rb w g n I) (o:Nat):w.frozen? ⟨g,o,none⟩=false:=frozen_of_row w g o _ _ h
theorem Rb.set {w:World} {g n k:Nat} {I:Nat->Bool} (h:Rb w g n I) (hk:k<n):Rb (w.setCell ⟨g,k,none⟩ (.bool true)) g n (upd I k):=by
 unfold Rb;rw [heap_setCell_same w g k _ _ (.bool true) h,UW I hk]
def YQ (I:Nat->Bool):Nat->Nat
 | 0=>0
 | n+1=>YQ I n+if I n then 0 else 1
theorem VZ {I J:Nat->Bool}:∀ {n:Nat},(∀ i,i<n->I i=J i)->YQ I n=YQ J n
 | 0,_=>rfl
 | n+1,h=>by rw [YQ,YQ,VZ (n:=n) (fun i hi=>h i (by omega)),h n (by omega)]
theorem XN {I:Nat->Bool} {k:Nat} (hk:I k=false):∀ {n:Nat},k<n->YQ (upd I k) n+1=YQ I n
 | 0,h=>by omega
 | n+1,h=>by
  rw [YQ,YQ];by_cases e:k=n
  ·subst e;rw [VZ (n:=k) (J:=I) (fun i hi=>by simp [upd,show ¬ i=k by omega]),hk];simp [upd]
  ·have:=XN hk (n:=n) (by omega);simp only [upd,show ¬ n=k from fun h=>e h.symm,if_false];omega
def UX (w:World) (g:Nat):Nat->Nat
 | 0=>0
 | n+1=>UX w g n+match w.cell? ⟨g,n,none⟩ with
  | some (.bool true)=>0
  | _=>1
theorem UY {w:World} {g n:Nat} {I:Nat->Bool} (h:Rb w g n I):∀ {m:Nat},m<=n->UX w g m=YQ I m
 | 0,_=>rfl
 | m+1,hm=>by
  rw [UX,YQ,UY h (by omega),h.cell (by omega)];cases I m <;> rfl
def nbB (C:Nat) (I:Nat->Bool) (i:Nat):Bool:=I (i - 1) || (I (i+1) || (I (i - C) || I (i+C)))
def Shut (C N:Nat) (s:ByteArray) (I:Nat->Bool):Prop:=∀ i,C<=i->i+C<N->byt s i≠35->nbB C I i=true->I i=true
def Rch (C N:Nat) (s:ByteArray) (f i:Nat):Prop:=∀ I:Nat->Bool,I f=true->Shut C N s I->I i=true
theorem KI (C N:Nat) (s:ByteArray) (f:Nat):Rch C N s f f:=fun _ h _=>h
theorem Uw {C N:Nat} {s:ByteArray} {f i:Nat} {I:Nat->Bool} (hI:∀ j,I j=true->Rch C N s f j) (h1:C<=i) (h2:i+C<N) (h3:byt s i≠35) (h4:nbB C I i=true):Rch C N s f i:=by
 intro J hf hJ;refine hJ i h1 h2 h3 ?_;unfold nbB at h4 ⊢;simp only [Bool.or_eq_true] at h4 ⊢;rcases h4 with h | h | h | h
 ·exact .inl (hI _ h J hf hJ)
 ·exact .inr (.inl (hI _ h J hf hJ))
 ·exact .inr (.inr (.inl (hI _ h J hf hJ)))
 ·exact .inr (.inr (.inr (hI _ h J hf hJ)))
def IsR (C N:Nat) (s:ByteArray) (f:Nat) (I:Nat->Bool):Prop:=I f=true/\Shut C N s I/\∀ i,I i=true->Rch C N s f i
theorem Nu {C N:Nat} {s:ByteArray} {f:Nat} {I J:Nat->Bool} (h:IsR C N s f I) (k:IsR C N s f J) (i:Nat):I i=J i:=by
 cases e:I i with
 | true=>exact (h.2.2 i e J k.1 k.2.1).symm
 | false =>
  cases e2:J i with
  | false=>rfl
  | true =>
   rw [k.2.2 i e2 I h.1 h.2.1] at e;cases e
end Go.Proofs.YthcjckgmdokmdaaGreatDoor
