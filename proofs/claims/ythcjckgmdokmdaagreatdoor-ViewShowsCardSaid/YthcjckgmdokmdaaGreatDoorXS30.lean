/- Parts of the proof, laid end to end. -/
import Derived.Test.YthcjckgmdokmdaaGreatDoorXS24
import Derived.Test.YthcjckgmdokmdaaGreatDoorXS26
import Derived.Test.YthcjckgmdokmdaaGreatDoorXS20
import Derived.Test.YthcjckgmdokmdaaGreatDoorXS22
import Derived.Test.YthcjckgmdokmdaaGreatDoorXS12
import Derived.Test.YthcjckgmdokmdaaGreatDoorXS27
import Derived.Test.YthcjckgmdokmdaaGreatDoorXS29
namespace Go.Proofs.YthcjckgmdokmdaaGreatDoor
open Go.RowKit
open Pu Gp Ap Vp Np Za Ka Ja Ea Ha Hg Hi
set_option maxRecDepth 100000
theorem chkV_ex (C R : Int) (s : ByteArray) (w : World) : ∃ v, ChkV C R s v := by
 obtain ⟨e, w', fr, ⟨v, _, hv, _⟩, _⟩ := mapcheck_any C R s w []
 exact ⟨v, hv⟩
theorem q13_of (F : Cf) (v : Int) (hv : ChkV F.C F.R F.s v) (x : World) : Q13 x F v (stV F.C F.s v) (spV F.C F.s v) where
 chk u _ := (mapcheck_any F.C F.R F.s u).mono fun e w' ⟨v', he, hv', hs⟩ => by
  rw [chkV_one hv' hv] at he
  exact ⟨he, hs⟩
 sts u _ := (starts_any F.C F.R F.s u).mono fun e w' ⟨a, v', he, hv', ho, hs⟩ => by
  rw [chkV_one hv' hv] at ho
  exact ⟨a, he, ho, hs⟩
 sps u _ := (spots_any F.C F.R F.s u).mono fun e w' ⟨a, v', he, hv', ho, hs⟩ => by
  rw [chkV_one hv' hv] at ho
  exact ⟨a, he, ho, hs⟩
end Go.Proofs.YthcjckgmdokmdaaGreatDoor
