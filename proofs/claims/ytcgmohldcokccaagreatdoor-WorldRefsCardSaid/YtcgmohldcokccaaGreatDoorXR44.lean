import Derived.Test.YtcgmohldcokccaaGreatDoorRows
import Derived.Test.YtcgmohldcokccaaGreatDoorXR08
import Derived.Deep.Slices
import Derived.Deep.Fields
import Derived.ProofKit
import Derived.SizedLaws
set_option linter.unusedVariables false
set_option maxRecDepth 100000
namespace Go.Proofs.YtcgmohldcokccaaGreatDoor
open Go.ChangeShapes Go.WideShapes Go.ChangeAt Go.RowKit Go.Deep
theorem QR{n:Int}(h:(Lit.int .i64 n).wf=true):-9223372036854775808<=n/\n<=9223372036854775807:=by simpa[Lit.wf,IntKind.min,IntKind.max,IntKind.signed,IntKind.bits]using h
theorem laidOutG:laidOutB Tryz.prog=true:=by kernel_rfl
theorem Ybt{α:Type}{l:List α}(h:l.length=3):∃a b c,l=[a,b,c]:=by
 match l,h with
 | [a,b,c],_=>exact⟨a,b,c,rfl⟩
theorem QS{α:Type}{l:List α}(h:l.length=4):∃a b c d,l=[a,b,c,d]:=by
 match l,h with
 | [a,b,c,d],_=>exact⟨a,b,c,d,rfl⟩
theorem Ybu{α:Type}{l:List α}(h:l.length=6):∃a b c d e f,l=[a,b,c,d,e,f]:=by
 match l,h with
 | [a,b,c,d,e,f],_=>exact⟨a,b,c,d,e,f,rfl⟩
section
variable {H:Type} {enc:TypeId × Value->H} {w:World} {α:Type}
theorem Ybv(K:Kd α)(Pr:α->Prop){t e:TypeId}(hu:Tryz.prog.underlying t=some (.slice e))(hce:Tryz.prog.cellsOf e=K.k)
  (one:∀{fuel:Nat} {cs:List Value} {x:DataW H × List MemPlace},cs.length=K.k->DataW.trod enc Tryz.prog w 0 (fun _=>true) true fuel e cs=some x->∃y:α,cs=K.f y/\Pr y)
  {fuel:Nat} {cs:List Value} {x:DataW H × List MemPlace} (h:DataW.trod enc Tryz.prog w 0 (fun _=>true) true fuel t cs=some x) :
  ∃so n cap,cs=[.slice so n cap]/\n<=cap/\(n<=281474976710656->∃L,RdG K w so n L/\∀i,i<n->Pr (L.getD i K.d))/\(so=none->cap=0)/\(n=0 \/ ∃es sp,x.1=.slice es sp/\es.length=n):=by
 rcases open_slice hu h with⟨rfl,rfl⟩|⟨a,len,cap,m,n,D,Pl,rfl,_,hl,hm,hmm,rfl,hx⟩
 ·exact⟨none,0,0,rfl,Nat.le_refl _,fun _=>⟨[],RdG.nil _ _,fun i hi=>by omega⟩,fun _=>rfl,.inl rfl⟩
 ·simp only[if_true]at hmm;subst hmm;rw[hce]at hx;refine⟨some a,len,m,rfl,hl,fun h48=>?_,fun h=>(by cases h),.inr ⟨_,_,rfl,by simp⟩⟩;have key:∀i,i<len->∃y:α,(∀j,j<K.k->w.cell? ((a.add (i*K.k)).add j)=(K.f y)[j]?)/\Pr y:=fun i hi=>by
   obtain⟨cs',h1,h2⟩:=hx i (by omega);obtain⟨_,hlen,hc⟩:=World.cells?_some h1;obtain⟨y,rfl,hy⟩:=one hlen h2;exact⟨y,hc,hy⟩
  obtain⟨f,hf⟩:∃f:Nat->α,∀i,i<len->(∀j,j<K.k->w.cell? ((a.add (i*K.k)).add j)=(K.f (f i))[j]?)/\Pr (f i):=
   ⟨fun i=>if h:i<len then Classical.choose (key i h)else K.d,fun i hi=>by
    simp only[dif_pos hi];exact Classical.choose_spec (key i hi)⟩
  have hpk:∀i,i<len->((List.range len).map f).getD i K.d=f i:=fun i hi=>by simp[List.getD,hi]
  refine⟨(List.range len).map f,⟨by simp,h48,?_⟩,fun i hi=>by rw[hpk i hi];exact(hf i hi).2⟩;by_cases h0:len=0
  ·exact .inl h0
  right
  have hsp:a.spot=none:=by
   have h1:=(hf 0 (by omega)).1 0 K.pos;have h2:∃v,(K.f (f 0))[0]?=some v:=⟨_,List.getElem?_eq_getElem (by rw[K.len];exact K.pos)⟩;obtain⟨v,h2⟩:=h2;rw[h2]at h1;simpa[Addr.add]using World.cell?_spot h1
  obtain⟨B,o,s⟩:=a;simp at hsp;subst hsp;refine⟨B,o,rfl,fun i hi j u hju=>?_⟩;rw[hpk i hi]at hju;have hj:j<K.k:=by
   have:=(List.getElem?_eq_some_iff.1 hju).1;rwa [K.len]at this
  have hc:=(hf i hi).1 j hj;rw[add_plain,add_plain,hju]at hc;exact hc
end
end Go.Proofs.YtcgmohldcokccaaGreatDoor
