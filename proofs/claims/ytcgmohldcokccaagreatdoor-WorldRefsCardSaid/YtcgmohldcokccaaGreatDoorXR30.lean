import Derived.RangeFuncNested
import Derived.RangeFuncBound
import Derived.RangeFuncCalls
import Derived.RangeFuncLeaves
import Derived.Shelf.Abstract
import Derived.OwnWalkIn
import Derived.TacticsInMore
import Derived.LoopNIn
import Derived.LoopIn
import Derived.Test.YtcgmohldcokccaaGreatDoorXR01
set_option linter.unusedVariables false
set_option maxRecDepth 100000
namespace Go.Proofs.YtcgmohldcokccaaGreatDoor
open Go Go.RowKit
theorem Kq{w w':World}(h:Below w.heap.size w w'):Yc w w':=⟨h.os,h.tape,h.output,h.size,fun k hk _=>h.block k hk⟩
theorem Yc.others{w w':World}(h:Yc w w'):KeepsOthers w w':=⟨h.size,fun _ _ hk _=>h.kept_still hk⟩
theorem DW{B B':Nat}{w w':World}(h:KeepsFrom B w w')(hb:B<=B'):KeepsFrom B' w w':=⟨h.size,fun k o hk h1 h2=>h.same k o (by omega) h1 h2⟩
/-! a statement that draws, within a round -/
theorem DX{P:Program}{f:FuncId}{args:Array Value}{w:World}{R:Ending->World->Prop}(l n:Nat)(h:Calls P f args w R):CallsIn (Fence.wide.inRound l) n P f args w R:=CallsIn.inRound l (callsIn_wide.2 h)
theorem C6{P:Program}{row:String}{args:Array Value}{w:World}{R:Value->World->Prop}(l n:Nat)(h:Rows P row args w R):RowsIn (Fence.wide.inRound l) n P row args w R:=
 fun c cs _=>let ⟨v,w',r,s⟩:=h c cs;⟨v,w',r,stepsIn_wide.2 s⟩
theorem Tx{P:Program}{o:Oper}{a:Act}{w:World}{K:Act->World->Prop}{Q:Exit->Act->World->Prop}(l n:Nat)(hd:∀c,o.op ≠ .defer c)(h:o.wp P a w K Q):o.wpIn (Fence.wide.inRound l) n P a w K Q:=by
 unfold Oper.wp at h;unfold Oper.wpIn;refine⟨fun _ _=>trivial,?_⟩;rw[show(Fence.wide.inRound l).round=some l from rfl,Oper.semAt_some l _ _ hd];generalize (execOp a.eval o).run P w=r at *
 cases r with
 | ok x w' =>
  cases x<;>simp only[Oper.upon,Oper.uponIn]at h⊢<;>first
   | exact h
   | exact⟨fun h=>(by cases h),DX l _ h⟩
   | exact⟨fun h=>(by cases h),C6 l _ h⟩
   | exact False.elim h
 | halt x w'=>cases x<;>simp only[Oper.upon,Oper.uponIn]at h⊢<;>first|exact h|exact False.elim h
def DY(ops:Array Oper):Bool:=ops.all fun o=>match o.op with | .defer _=>false|_=>true
theorem C7{ops:Array Oper}(h:DY ops=true){i:Nat}{o:Oper}(ho:ops[i]?=some o):∀c,o.op ≠ .defer c:=fun c e=>by
 have:=Array.all_eq_true'.1 h o (Array.mem_of_getElem? ho);rw[e]at this;cases this
theorem QM{P:Program}{md:Region.Mode}{ops:Array Oper}{Q:Exit->Act->World->Prop}(hQ:¬LetsOut Q)(l n:Nat)(hd:DY ops=true):∀(fuel:Nat) (listed:Array Bool) (a:Act) (w:World),
    wpAny P md ops Q fuel listed a w->wpAnyIn (Fence.wide.inRound l) n P md ops Q fuel listed a w
  | 0,_,_,_,h=>h
  | fuel+1,listed,a,w,h=>⟨h.1,fun i hi=>by
      have hh:=h.2 i hi;unfold wpOp at hh;unfold wpOpIn;cases ho:ops[i]? with
      | none=>simp only[ho]at hh⊢;exact QM hQ l n hd fuel _ a w hh
      | some o =>
        simp only[ho]at hh⊢;by_cases hw:Region.wanted o (yielded ops a.tmps)=true
        · rw[if_pos hw]at hh⊢
          rcases hh with hh|hh
          · exact Oper.wpIn_mono (fun a w h=>QM hQ l n hd fuel _ a w h) (Tx l n (C7 hd ho) hh)
          · exact(hQ hh.2).elim
        · rw[if_neg hw]at hh⊢
          exact⟨fun _ _=>trivial,QM hQ l n hd fuel _ _ w hh⟩⟩
theorem C8{P:Program}{id:Nat}{Q:Exit->Act->World->Prop}{a:Act}{w:World}{L:List Oper}{l n:Nat}(hQ:¬LetsOut Q)(hd:DY L.toArray=true)(hm:P.follows .mixedOrders=true)(hB:Region.lexB .any L.toArray=true)
  (h:wpQuiet P L.toArray (fun w'=>∃z:Aft w,w'=z.u) (fun a'=>∀w',Yc w w'->Q .normal a' w') L a):(Code.region id L.toArray true).wpIn (Fence.wide.inRound l) n P Q a w:=by
 have e:(fun a'=>∀w',Yc w w'->Q .normal a' w')=fun a'=>∀w',Cl w w'->Q .normal a' w':=funext fun a'=>propext ⟨fun h w' ⟨z,e⟩=>e ▸ h z.u z.s,fun h w' hs=>h w' ⟨⟨w',hs⟩,rfl⟩⟩;rw[e]at h;simp only[Region.lexB,Bool.and_eq_true]at hB;refine wpIn_region_any hm (QM hQ l n hd _ _ _ _ (wpAny_of_quiet (C:=Cl w) (Q:=fun a'=>∀w',Cl w w'->Q .normal a' w') (fun _ w' hw' h=>h w' hw') _ _ _ _ (Cl.here w) ?_));have:=wpAnyQ_lex (C:=Cl w) (md:=.any) hB.1 L 0 (Array.replicate L.toArray.size false) a (by simp) (by simpa using hB.2) h;simpa using this
theorem DZ{P:Program}{ops:Array Oper}{Q:Exit->Act->World->Prop}(hQ:¬LetsOut Q)(l n:Nat):∀(L:List Oper) (a:Act) (w:World),(∀o∈L,∀c,o.op ≠ .defer c) ->
  wpList P ops Q L a w->wpListIn (Fence.wide.inRound l) n P ops Q L a w
 | [],_,_,_,h=>h
 | o :: L,a,w,hd,h=>by
  unfold wpList at h;unfold wpListIn;by_cases hw:Region.wanted o (yielded ops a.tmps)=true
  ·rw[if_pos hw]at h⊢;rcases h with h|h
   ·exact Oper.wpIn_mono (fun a w h=>DZ hQ l n L a w (fun o ho=>hd o (by simp[ho])) h) (Tx l n (hd o (by simp)) h)
   ·exact(hQ h.2).elim
  ·rw[if_neg hw]at h⊢;exact⟨fun _ _=>trivial,DZ hQ l n L _ w (fun o ho=>hd o (by simp[ho])) h⟩
theorem C9{n m:Nat}{P:Program}{l:Nat}{f:FuncId}{tmps:Array Value}{assign body:Code}{w:World}{R:Ending->World->Prop}(l1 l2:Nat)
  (h:RoundIn Fence.wide n P l f tmps assign body w R):RoundIn ((Fence.wide.inRound l1).inRound l2) m P l f tmps assign body w R:=⟨h.1,fun c cs _=>h.2 c cs (room_wide _)⟩
/-! an iterator whose rounds all go on, and which may range over others itself -/
def Ty{α:Type}(P:Program)(g:Nat)(lb:Array Value)(encs:α->Array Value)(Kp:World->World->Prop)(xs:List α)(N:Nat)(w:World):Prop:=
 ∀(l:Nat) (J:List α->World->Prop) (W:World),Below w.heap.size w W->OwnFrom W.heap.size J ->
  (∀pre x W1,J pre W1->pre.length<N->YieldAt Fence.wide 0 P l (encs x) W1 fun e W'=>e=.returned (.bool true)/\J (pre ++ [x]) W'/\Kp W1 W'/\KeepsFrom W.heap.size W1 W') ->
  J [] W->CallsIn Fence.wide 0 P g (#[.func (.yield l) #[] #[]] ++ lb) W fun e W'=>(∃v,e=.returned v)/\J xs W'
theorem CA{α:Type}{I:List α->World->Prop}{B d k:Nat}{o p:Obj}(hI:OwnFrom B I)(hk:d<B+2/\k<B+2):OwnFrom (B+2) (fun pre W=>I pre W/\W.heap[k]?=some o/\W.heap[d]?=some p):=
 fun s X Y row hs hg hr=>by
  obtain⟨h1,h2,h3⟩:=hs;have hne:∀j,j<B+2->some j≠row:=fun j hj e=>by have:=(hr j e.symm).1;omega
  exact⟨hI s X Y row h1 hg (fun r e=>⟨by have:=(hr r e).1;omega,(hr r e).2⟩),(hg.block k (Array.getElem?_eq_some_iff.1 h2).1 (hne k hk.2)).trans h2,(hg.block d (Array.getElem?_eq_some_iff.1 h3).1 (hne d hk.1)).trans h3⟩
theorem Tz{β:Type}{B B':Nat}{I:β->World->Prop}(h:OwnFrom B I)(hb:B<=B'):OwnFrom B' I:=fun s X Y row hs hg hr=>h s X Y row hs hg (fun r e=>⟨by have:=(hr r e).1;omega,(hr r e).2⟩)
theorem T6{β γ:Type}{B:Nat}{I:β->World->Prop}(h:OwnFrom B I)(f:γ->β):OwnFrom B (fun s W=>I (f s) W):=fun s X Y row hs hg hr=>h (f s) X Y row hs hg hr
theorem Yc.grown{w w':World}(h:Yc w w'):w.grownBy w' none:=⟨h.os,h.tape,h.output,h.size,fun k hk _=>h.block k hk (fun e=>e)⟩
theorem Wa{β:Type}{B:Nat}{I:β->World->Prop}(h:OwnFrom B I){s:β}{w w':World}(hi:I s w)(hs:Yc w w'):I s w':=h s w w' none hi hs.grown (fun r e=>by cases e)
theorem CB{β:Type}{B:Nat}{I:β->World->Prop}(h:AbidesFrom B I){s:β}{w w':World}(hi:I s w)(hs:Yc w w'):I s w':=h s w w' none hi hs.grown (fun r e=>by cases e)
theorem ZI{w w':World}{B:Nat}{t:TypeId}{v:Value}(h:Boxed w B t v)(hs:Yc w w'):Boxed w' B t v:=hs.kept_still h
theorem T7{B l:Nat}{W:World}(o:Obj)(h:l<B):KeepsFrom B W (W.putObj l o):=
 KeepsFrom.of_grownBy (grownBy_putObj' W l o) (fun j e=>by cases e;exact h)
theorem CC{α:Type}{P:Program}{g:Operand}{ps:Array Tmp}{assign body:Code}{Q:Exit->Act->World->Prop}{a:Act}{w:World}{gf:Nat}{lb:Array Value}(hg:a.eval g=.func (.func gf) #[] lb)(eg:∀args w,(callFunc gf args).run P w=.ok (.enter gf args) w)
  {encs:α->Array Value} {Kp:World->World->Prop} {xs:List α} {N:Nat} {w0:World} (hseq:Ty P gf lb encs Kp xs N w0) (hKt:∀{A B C:World},Kp A B->Kp B C->Kp A C)
  (hKb:∀(W:World) (l:Nat) (o o':Obj),w.heap.size<=l->W.heap[l]?=some o->o.isCells=false->Kp W (W.putObj l o')) (hb0:Below w0.heap.size w0 w) (hps:∀x,(encs x).size=ps.size)
  (I:List α->World->Prop) (hI:OwnFrom w.heap.size I) (h0:I [] w) (a₁:α->Act)
  (hassign:∀(l:Nat) (x:α) (W:World) (K:Act->World->Prop),K (a₁ x) W->assign.wpIn (Fence.wide.inRound l) 0 P (Exit.then K (fun _ _ _=>False)) { tmps:=(ps.zip (encs x)).foldl (fun t (p,v)=>t.setIfInBounds p v) a.tmps,defers:=[] } W)
  (hbody:∀(l:Nat) (pre:List α) (x:α) (W:World),I pre W->pre.length<N->body.wpIn (Fence.wide.inRound l) 0 P (fun e _ W'=>e=.normal/\KeepsFrom w.heap.size W W'/\Kp W W'/\I (pre ++ [x]) W') (a₁ x) W)
  (hdone:∀(D:Nat) (W:World),w.heap.size<=D->I xs W->W.heap[D]?=some (.deferred (some []))->Q .normal { a with defers:={ target:=.collected D,args:=#[] } :: a.defers } W) :
  (Code.rangeFunc g ps assign body).wpIn Fence.wide 0 P Q a w:=by
 refine wpIn_rangeFunc ?_;intro fn hfn;rw[show Fence.wide.round=none from rfl];obtain⟨rc,hrc⟩:∃rc:LoopState->Loop,rc=fun st=>{ state:=st,pending:=none,fn,tmps:=a.tmps,params:=ps,assign,body,defers:=w.heap.size }:=⟨_,rfl⟩;obtain⟨V,hV⟩:∃V,(w.alloc (.deferred (some []))).alloc (.loop (rc .ready))=V:=⟨_,rfl⟩;have hsz:V.heap.size=w.heap.size+2:=by rw[<- hV];simp
 have hL:V.heap[w.heap.size+1]?=some (.loop (rc .ready)):=by
  rw[<- hV];have:=World.alloc_heap_new (w.alloc (.deferred (some []))) (.loop (rc .ready));rwa [World.size_alloc]at this
 have hD:V.heap[w.heap.size]?=some (.deferred (some [])):=by rw[<- hV];exact(Below.heap_alloc _ _ _ (by simp)).trans (World.alloc_heap_new w _)
 have hb:Below w0.heap.size w0 V:=by rw[<- hV];exact hb0.trans ((((Below.refl _ w).alloc (Nat.le_refl _) _).alloc (by simp) _).mono hb0.size)
 have hi:I [] V:=by rw[<- hV];exact hI.alloc _ (hI.alloc _ h0)
 refine⟨w.heap.size+1,[{ target:=.collected w.heap.size,args:=#[] }],V,{ target:=.fn (.func gf) lb,args:=#[.func (.yield (w.heap.size+1)) #[] #[]] },V,gf,#[.func (.yield (w.heap.size+1)) #[] #[]] ++ lb,V,?_,?_,fun _ _=>trivial,?_,fun h=>(by cases h),?_⟩
 ·rw[<- hV,hrc];exact run_enterLoop_outer _ _ _ _ _
 ·simp only[resolve,hg];simp[go_sem]
 ·simp[invoke,go_sem,eg]
 ·refine(hseq (w.heap.size+1) (fun pre W=>I pre W/\W.heap[w.heap.size+1]?=some (.loop (rc .ready))/\W.heap[w.heap.size]?=some (.deferred (some []))) V hb (by rw[hsz];exact CA hI (by omega)) ?_ ⟨hi,hL,hD⟩).mono ?_
  ·rintro pre x W ⟨hi,hl,hd⟩ hp;have hy:=run_yield (P:=P) (args:=encs x) hl (by rw[hrc];exact hps x);rw[hrc]at hy;refine⟨fn,_,assign,body,hy,roundIn_of_wpIn hfn (hassign _ x W _ ?_)⟩;clear hy;have hlt:w.heap.size+1<W.heap.size:=(Array.getElem?_eq_some_iff.1 hl).1;refine⟨_,run_beginRound hl (by rw[hrc]),?_⟩;obtain⟨X,hX⟩:∃X,W.putObj (w.heap.size+1) (.loop { rc .ready with state:=.busy })=X:=⟨_,rfl⟩;have hlX:X.heap[w.heap.size+1]?=some (.loop { rc .ready with state:=.busy }):=by rw[<- hX];exact World.putObj_heap_same hlt
   have hdX:X.heap[w.heap.size]?=some (.deferred (some [])):=by rw[<- hX];exact(World.putObj_heap_other (by omega)).trans hd
   have hiX:I pre X:=by rw[<- hX];exact hI.putObj _ hi (by omega) hl rfl
   have hkX:Kp W X:=by rw[<- hX];exact hKb _ _ _ _ (by omega) hl rfl
   have hfX:KeepsFrom V.heap.size W X:=by rw[<- hX];exact T7 _ (by omega)
   rw[hX];refine wpIn_mono (hbody _ pre x X hiX hp) ?_;rintro e a3 Y ⟨rfl,hf3,hk3,hi3⟩;have hlY:=hf3.same _ _ (by omega) hlX rfl;have hdY:=hf3.same _ _ (Nat.le_refl _) hdX rfl;have hr:=run_endRound (P:=P) none hlY;have hltY:=(Array.getElem?_eq_some_iff.1 hlY).1;refine⟨_,_,hr,rfl,⟨hI.putObj _ hi3 (by omega) hlY rfl,?_,(World.putObj_heap_other (by omega)).trans hdY⟩,hKt (hKt hkX hk3) (hKb _ _ _ _ (by omega) hlY rfl),(hfX.trans (DW hf3 (by omega))).trans (T7 _ (by omega))⟩;rw[World.putObj_heap_same hltY,hrc];rfl
  ·rintro e W ⟨⟨v,rfl⟩,hi,hl,hd⟩;have hend:=run_endLoop (P:=P) hl (by rw[hrc];simp);rw[hrc]at hend;exact⟨none,_,hend,hdone _ _ (Nat.le_refl _) (hI.putObj _ hi (by omega) hl rfl) ((World.putObj_heap_other (by omega)).trans hd)⟩
end Go.Proofs.YtcgmohldcokccaaGreatDoor
