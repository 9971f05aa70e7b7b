import Derived.Test.YtcgmohldcokccaaGreatDoorXR08
import Derived.Sort.Grow
import Derived.Shelf.SlSortCmp.NoneTotal
set_option linter.unusedVariables false
set_option maxRecDepth 100000
namespace Go.Proofs.YtcgmohldcokccaaGreatDoor
open Go.RowKit
open Go.Sort (HoldsK flatK SWO PermIn SortedIn)
theorem Yaq{w w':World}(h:Yc w w')(hd:w.drawn<=w'.drawn):∃q os,w'=Sort.grow (w.drewN q) os:=by
 refine⟨w'.drawn-w.drawn,w'.heap.extract w.heap.size w'.heap.size,?_⟩;have hh:w'.heap=w.heap ++ w'.heap.extract w.heap.size w'.heap.size:=by
  apply Array.ext_getElem?;intro i;rw[Array.getElem?_append];by_cases hi:i<w.heap.size
  ·rw[if_pos hi];exact h.block i hi (fun e=>e)
  ·rw[if_neg hi,Array.getElem?_extract];have e:w.heap.size+(i-w.heap.size)=i:=by omega
   rw[e];split
   ·rfl
   ·rename_i hn;rw[Array.getElem?_eq_none (by simp at hn;omega)]
 obtain⟨hp,tp,dr,os',out⟩:=w';have e1:=h.os;have e2:=h.tape;have e3:=h.output;simp only at e1 e2 e3 hh hd;subst e1 e2 e3;simp only[Sort.grow,World.drewN];congr 1
 omega
section
variable {α:Type} [Inhabited α] {K:Kd α} {e:TypeId}
theorem Yar(L:List α)(d:α)(i:Nat)(hi:i<L.length):L.toArray[i]! = L.getD i d:=by
 rw[getElem!_pos L.toArray i (by simpa using hi),List.getD_eq_getElem?_getD,List.getElem?_eq_getElem hi];rfl
theorem Wf(K:Kd α)(L:List α):(flatK K.f K.k L.toArray).toList=K.row L:=by
 have hp:=K.pos;apply List.ext_getElem?;intro t;by_cases ht:t<L.length*K.k
 ·have h8:t / K.k<L.length:=(Nat.div_lt_iff_lt_mul hp).2 ht;have e:=K.row_get L (t / K.k) (t % K.k) h8 (Nat.mod_lt _ hp);rw[show t / K.k*K.k+t % K.k=t by rw[Nat.mul_comm];exact Nat.div_add_mod t K.k]at e;rw[e];have hs:t<(flatK K.f K.k L.toArray).toList.length:=by simpa using ht
  rw[List.getElem?_eq_getElem hs];have e2:=Go.Sort.get_flatK K.f K.k L.toArray t (by simpa using ht);rw[getElem!_pos _ t (by simpa using ht)]at e2;rw[Array.getElem_toList,e2,Yar L K.d _ h8];have hl:t % K.k<(K.f (L.getD (t / K.k) K.d)).length:=by rw[K.len];exact Nat.mod_lt _ hp
  rw[getElem!_pos (K.f (L.getD (t / K.k) K.d)) (t % K.k) hl];exact(List.getElem?_eq_getElem hl).symm
 ·rw[List.getElem?_eq_none (by simpa using ht),List.getElem?_eq_none (by rw[K.row_len];omega)]
theorem TM{w:World}{B g n cap:Nat}{L:List α}(h:OwG K e w B (.slice (some ⟨g,0,none⟩) n cap) L):HoldsK K.f K.k w g 0 L.toArray:=by
 intro j hj;refine⟨?_,h.frozen _⟩;have hs:j<(K.row L).length:=by rw[<- Wf];simpa using hj
 have hc:=World.ownsRow.cells h (g:=g) rfl j ((K.row L)[j]) (List.getElem?_eq_getElem hs);rw[add_plain,Nat.zero_add]at hc;rw[Nat.zero_add,hc,getElem!_pos _ j hj];have e:(flatK K.f K.k L.toArray)[j]=(K.row L)[j]:=by
  have:=congrArg (fun l=>l[j]?) (Wf K L);simp only[Array.getElem?_toList]at this;rw[Array.getElem?_eq_getElem hj,List.getElem?_eq_getElem hs]at this;exact Option.some.inj this
 rw[e];rfl
theorem Yas{w:World}{B g n cap m:Nat}{L L':List α}{os:Array Obj}(h:OwG K e w B (.slice (some ⟨g,0,none⟩) n cap) L)(hl:L.length=n)(hl':L'.length=L.length):OwG K e (sortWorldK K.f K.k w g 0 m L'.toArray os) B (.slice (some ⟨g,0,none⟩) n cap) L'/\Fr (fun k=>k=g) w (sortWorldK K.f K.k w g 0 m L'.toArray os):=by
 have hgl:g<w.heap.size:=(h.block (k:=g) rfl).2;rcases h.2 with⟨hv,_⟩|⟨g',cap',cur,hv,hb,hg,hn,hm,hs,ht⟩
 ·cases hv
 ·cases hv;have hh:(sortWorldK K.f K.k w g 0 m L'.toArray os).heap[g]?=some (.cells (Go.Sort.putCells id 0 (flatK K.f K.k L'.toArray) cur) e (0,0)):=by
   show(w.heap.modify g _ ++ os)[g]?=_;rw[Array.getElem?_append_left (by simpa using hgl),Array.getElem?_modify,if_pos rfl,hg];rfl
  refine⟨⟨by rw[K.row_len],.inr ⟨g,cap,_,by rw[hl'],hb,hh,by rw[hl'];exact hn,hm,by simpa[Go.Sort.putCells]using hs,?_⟩⟩,?_⟩
  ·rw[<- Wf K L',hl'];apply List.ext_getElem?;intro t;have hsz:(flatK K.f K.k L'.toArray).size=L'.length*K.k:=by simp
   by_cases htl:t<L.length*K.k
   ·have ht8:t<L'.length*K.k:=by rw[hl'];exact htl
    have htc:t<cur.size:=by rw[hs];exact Nat.lt_of_lt_of_le htl (Nat.mul_le_mul_right _ hn)
    rw[List.getElem?_take_of_lt htl];simp only[Array.getElem?_toList,Go.Sort.putCells,Array.getElem?_mapIdx];rw[Array.getElem?_eq_getElem htc,Array.getElem?_eq_getElem (by rw[hsz];exact ht8)];simp only[Option.map_some,Nat.zero_le,Nat.zero_add,true_and,hsz,if_pos ht8,Nat.sub_zero,id];rw[getElem!_pos _ t (by rw[hsz];exact ht8)]
   ·rw[List.getElem?_eq_none (by rw[List.length_take];omega),List.getElem?_eq_none (by rw[Array.length_toList,hsz,hl'];omega)]
  ·refine⟨rfl,rfl,rfl,?_,fun k hk hne=>?_⟩
   ·show w.heap.size<=(w.heap.modify g _ ++ os).size;simp
   ·show(w.heap.modify g _ ++ os)[k]?=_;rw[Array.getElem?_append_left (by simpa using hk),Array.getElem?_modify,if_neg (fun e=>hne e.symm)]
end
end Go.Proofs.YtcgmohldcokccaaGreatDoor
