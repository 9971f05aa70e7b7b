/- Parts of the proof, laid end to end. -/
import Derived.Test.YtkgbmefaphhcnaaGreatDoorZU48
import Derived.Test.YtkgbmefaphhcnaaGreatDoorZU40
import Derived.Test.YtkgbmefaphhcnaaGreatDoorZU12
import Derived.Deep.Slices
import Derived.Deep.Fields
import Derived.ProofKit
import Derived.Lay
import Derived.LaidMore
import Derived.Stop.Joined
import Derived.Stop.LaidErr
import Derived.Lib.LaidTab
import Derived.Lib.LaidU8
import Derived.KernelRfl
import Derived.SizedLaws
namespace Go.Proofs.YtkgbmefaphhcnaaGreatDoor
open Go.ChangeShapes Go.WideShapes Go.ChangeAt Go.RowKit Go.Deep
open Pu Gp Ap Vp Np Za Ka Ja Ea Ha Hg Hi
set_option maxRecDepth 100000
theorem wfZ_u64 {n : Int} (h : (Lit.int .u64 n).wf = true) : 0 <= n /\ n < 18446744073709551616 := by
 have : 0 <= n /\ n <= 18446744073709551615 := by simpa [Lit.wf, IntKind.min, IntKind.max, IntKind.signed, IntKind.bits] using h
 omega
theorem cellsG_intZ : Tryz.prog.cellsOf 3 = 1 := by kernel_rfl
theorem cellsW_u64Z : Tryz.prog.cellsOf 32 = 1 := by kernel_rfl
theorem cellsW_strZ : Tryz.prog.cellsOf 9 = 1 := by kernel_rfl
theorem cellsW_arZ : Tryz.prog.cellsOf 34 = 3 := by kernel_rfl
theorem cellsW_cfZ : Tryz.prog.cellsOf 37 = 6 := by kernel_rfl
theorem cellsW_liZ : Tryz.prog.cellsOf 35 = 1 := by kernel_rfl
section
variable {H : Type} {enc : TypeId × Value -> H} {w : World}
theorem open_lagsZ {fuel : Nat} {cs : List Value} {x : DataW H × List MemPlace} (h : DataW.trod enc Tryz.prog w 0 (fun _ => true) true fuel 35 cs = some x) :
  ∃ (ao : Option Addr) (n cap : Nat) (bs : List Int), cs = [.slice ao n cap] /\ RdI w ao n cap bs := by
 rcases open_ints Tryz.underlying35 Tryz.underlying3 cellsG_intZ h with ⟨rfl, rfl⟩ | ⟨a, len, cap, zs, rfl, _, hl, hm, hz, rfl, hcell, hwz⟩
 ·exact ⟨none, 0, 0, [], rfl, RdI.empty w⟩
 ·simp only [if_true] at hz
  refine ⟨some a, len, cap, zs.take len, rfl, ⟨by simp; omega, hl, hm, ?_, fun h => (by cases h), ?_⟩⟩
  ·intro a' ha hp
   cases ha
   have := hcell 0 (by omega)
   simpa [Addr.add] using World.cell?_spot this
  ·intro a' ha j hj
   cases ha
   simp at hj
   have h1 := hcell j (by omega)
   have hsp : a.spot = none := by
    have := hcell 0 (by omega)
    simpa [Addr.add] using World.cell?_spot this
   obtain ⟨b, o, s⟩ := a
   simp at hsp
   subst hsp
   rw [add_plain] at h1
   rw [h1]
   have hjz : j < zs.length := by omega
   simp [List.getD, hjz]
end
section
variable {H : Type} {enc : TypeId × Value -> H} {w : World}
end
def facsZ : List Int := [13787848793156543929, 10723151780598845931, 1099511628211, 11400714819323198485]
theorem gFacZ : Tryz.prog.globalNamed "echelon/digest.factors" = some 0 := by kernel_rfl
theorem tabsZ {W : World} (hL : laidMet Tryz.prog [("echelon/digest.factors", Rows.laid_echelon_digest_factors)] W) : FTab W := by
 have h5 : laidMet Tryz.prog (("echelon/digest.factors", Lib.tabData .u64 facsZ) :: []) W := hL
 have t5 := Lib.tabIs_of_head (t := 107) (e := 32) (n := 4) gFacZ (by kernel_rfl) Tryz.underlying107 Tryz.underlying32 (by kernel_rfl) (by kernel_rfl) h5
 exact ⟨⟨t5.cell gFacZ 0 (by decide), t5.cell gFacZ 1 (by decide), t5.cell gFacZ 3 (by decide)⟩, t5.cell gFacZ 2 (by decide)⟩
end Go.Proofs.YtkgbmefaphhcnaaGreatDoor
