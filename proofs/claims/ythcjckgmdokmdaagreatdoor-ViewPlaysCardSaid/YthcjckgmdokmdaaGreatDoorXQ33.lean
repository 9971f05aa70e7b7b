import Derived.Test.YthcjckgmdokmdaaGreatDoorXQ21
import Derived.Test.YthcjckgmdokmdaaGreatDoorXQ29
import Derived.Test.YthcjckgmdokmdaaGreatDoorXQ32
namespace Go.Proofs.YthcjckgmdokmdaaGreatDoor
open Go.RowKit
open Pu Gp Ap Vp Np Za Ka Ja Ea Ha Hg Hi
set_option maxRecDepth 100000
theorem L6 (C R:Int) (s:ByteArray) (w:World):∃ v,YZ C R s v:=by
 obtain ⟨e,w',fr,⟨v,_,hv,_⟩,_⟩:=Kg C R s w [];exact ⟨v,hv⟩
theorem L7 (F:Cf) (v:Int) (hv:YZ F.C F.R F.s v) (x:World):Q13 x F v (stV F.C F.s v) (spV F.C F.s v) where
 chk u _:=(Kg F.C F.R F.s u).mono fun e w' ⟨v',he,hv',hs⟩=>by
  rw [VK hv' hv] at he;exact ⟨he,hs⟩
 sts u _:=(Lb F.C F.R F.s u).mono fun e w' ⟨a,v',he,hv',ho,hs⟩=>by
  rw [VK hv' hv] at ho;exact ⟨a,he,ho,hs⟩
 sps u _:=(Lc F.C F.R F.s u).mono fun e w' ⟨a,v',he,hv',ho,hs⟩=>by
  rw [VK hv' hv] at ho;exact ⟨a,he,ho,hs⟩
theorem Bt (C:Nat) (s:ByteArray):∀ n,(spP C s n).length=Zl s n
 | 0=>rfl
 | n+1=>by
  rw [spP,List.length_append,Bt C s n,Zl];split <;> simp_all
theorem L8 {C R:Int} {s:ByteArray} {v:Int} (h:YZ C R s v):(spV C s v).length<=16:=by
 unfold spV;split
 ·rename_i e;subst e;have hf:YM C R s=true:=by
   rcases h with ⟨_,h2⟩ | ⟨h1,_⟩ | ⟨h1,_⟩
   ·cases h2
   ·exact h1
   ·exact h1
  unfold YM at hf;simp only [Bool.and_eq_true,decide_eq_true_eq] at hf;rw [Bt];exact hf.2.2
 ·simp
end Go.Proofs.YthcjckgmdokmdaaGreatDoor
