/- Parts of the proof, laid end to end. -/
import Derived.Test.YtdmlgbcgbddkoaaGreatDoorZT43
import Derived.Test.YtdmlgbcgbddkoaaGreatDoorZT00
import Derived.Deep.Slices
import Derived.Deep.Fields
import Derived.Lib.SmallJoins
namespace Go.Proofs.YtdmlgbcgbddkoaaGreatDoor
open Go.ChangeShapes Go.WideShapes Go.ChangeAt Go.RowKit Go.Deep
set_option maxRecDepth 100000
set_option linter.unusedVariables false
theorem c14_byte : Tryz.prog.cellsOf 5 = 1 := by kernel_rfl
theorem b14_byte : Tryz.prog.bytesOf 5 = 1 := by kernel_rfl
theorem wf14_u8 {n : Int} (h : (Lit.int .u8 n).wf = true) : 0 <= n /\ n <= 255 := by simpa [Lit.wf, IntKind.min, IntKind.max, IntKind.signed, IntKind.bits] using h
def Lies14 {H : Type} (d : DataW H) (ao : Option Addr) (n cap : Nat) : Prop := (d = .nil /\ ao = none /\ n = 0 /\ cap = 0) \/ ∃ es sp, d = .slice es sp /\ es.length = n /\ es.length + sp.length = cap /\ ∃ a, ao = some a
section
variable {H : Type} {enc : TypeId × Value -> H} {w : World}
theorem open_bytes14 {fuel : Nat} {cs : List Value} {x : DataW H × List MemPlace} (h : DataW.trod enc Tryz.prog w 0 (fun _ => true) true fuel 34 cs = some x) :
  ∃ ao n cap bs, cs = [.slice ao n cap] /\ Rd w ao n cap bs /\ Lies14 x.1 ao n cap := by
 rcases open_ints Tryz.underlying34 Tryz.underlying5 c14_byte h with ⟨rfl, rfl⟩ | ⟨a, len, cap, zs, rfl, _, hl, hm, hz, rfl, hcell, hwz⟩
 ·exact ⟨none, 0, 0, [], rfl, Rd.empty w, .inl ⟨rfl, rfl, rfl, rfl⟩⟩
 ·simp only [if_true] at hz
  have htl : ((zs.take len).map fun z => UInt8.ofNat z.toNat).length = len := by simp; omega
  refine ⟨some a, len, cap, (zs.take len).map fun z => UInt8.ofNat z.toNat, rfl, ⟨htl, hl, hm, ?_, fun h => (by cases h), ?_⟩, .inr ⟨_, _, rfl, ?_, ?_, a, rfl⟩⟩
  ·intro a' ha hp
   cases ha
   have := hcell 0 (by omega)
   simpa [Addr.add] using World.cell?_spot this
  ·intro a' ha j hj
   cases ha
   rw [htl] at hj
   have h1 := hcell j (by omega)
   have hsp : a.spot = none := by
    have := hcell 0 (by omega)
    simpa [Addr.add] using World.cell?_spot this
   obtain ⟨b, o, s⟩ := a
   simp at hsp
   subst hsp
   rw [add_plain] at h1
   rw [h1]
   have hjz : j < zs.length := by omega
   have hb := wf14_u8 (hwz (zs.getD j 0) (by simp [List.getD, hjz]))
   have e1 : ((zs.take len).map fun z => UInt8.ofNat z.toNat)[j]'(by rw [htl]; exact hj) = UInt8.ofNat (zs.getD j 0).toNat := by simp [List.getD, hjz]
   rw [e1, Cp.ofNat_toNat (by omega)]
   congr 2
   omega
  ·simp [lits]; omega
  ·simp [lits]; omega
end
end Go.Proofs.YtdmlgbcgbddkoaaGreatDoor
