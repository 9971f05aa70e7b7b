/- Arguments opened: bytes, cuts. -/
import Derived.Test.YtpdgbalhbfpdeaaDoorRows
import Derived.Test.YtpdgbalhbfpdeaaDoorCu
import Derived.Deep.Slices
import Derived.ProofKit
namespace Go.Proofs.YtpdgbalhbfpdeaaDoor
open Go.ChangeShapes Go.WideShapes Go.ChangeAt Go.RowKit Go.Deep

theorem wf_i64 {n : Int} (h : (Lit.int .i64 n).wf = true) : -9223372036854775808 ≤ n ∧ n ≤ 9223372036854775807 := by simpa [Lit.wf, IntKind.min, IntKind.max, IntKind.signed, IntKind.bits] using h
theorem wf_u8 {n : Int} (h : (Lit.int .u8 n).wf = true) : 0 ≤ n ∧ n ≤ 255 := by simpa [Lit.wf, IntKind.min, IntKind.max, IntKind.signed, IntKind.bits] using h
theorem cells_byte : Tryd.prog.cellsOf 5 = 1 := by kernel_rfl
theorem cells_int : Tryd.prog.cellsOf 3 = 1 := by kernel_rfl
theorem bytes_byte : Tryd.prog.bytesOf 5 = 1 := by kernel_rfl
theorem laidOut : laidOutB Tryd.prog = true := by kernel_rfl
theorem ofNat_toNat {n : Nat} (h : n < 256) : (UInt8.ofNat n).toNat = n := by
  rw [UInt8.toNat_ofNat', Nat.mod_eq_of_lt (by omega)]

/-- What bytes that came in read as: so many elements, and so many places behind them. -/
def Lies {H : Type} (d : DataW H) (ao : Option Addr) (n cap : Nat) : Prop := (d = .nil ∧ ao = none ∧ n = 0 ∧ cap = 0) ∨ ∃ es sp, d = .slice es sp ∧ es.length = n ∧ es.length + sp.length = cap ∧ ∃ a, ao = some a

section
variable {H : Type} {enc : TypeId × Value → H} {w : World}
/-- Bytes that came in. -/
theorem open_bytes {fuel : Nat} {cs : List Value} {x : DataW H × List MemPlace} (h : DataW.trod enc Tryd.prog w 0 (fun _ => true) true fuel 32 cs = some x) :
    ∃ ao n cap bs, cs = [.slice ao n cap] ∧ Rd w ao n cap bs ∧ Lies x.1 ao n cap := by
  rcases open_ints Tryd.underlying32 Tryd.underlying5 cells_byte h with ⟨rfl, rfl⟩ | ⟨a, len, cap, zs, rfl, _, hl, hm, hz, rfl, hcell, hwz⟩
  · exact ⟨none, 0, 0, [], rfl, Rd.empty w, .inl ⟨rfl, rfl, rfl, rfl⟩⟩
  · simp only [if_true] at hz
    have htl : ((zs.take len).map fun z => UInt8.ofNat z.toNat).length = len := by simp; omega
    refine ⟨some a, len, cap, (zs.take len).map fun z => UInt8.ofNat z.toNat, rfl, ⟨htl, hl, hm, ?_, fun h => (by cases h), ?_⟩, .inr ⟨_, _, rfl, ?_, ?_, a, rfl⟩⟩
    · intro a' ha hp
      cases ha
      have := hcell 0 (by omega)
      simpa [Addr.add] using World.cell?_spot this
    · intro a' ha j hj
      cases ha
      rw [htl] at hj
      have h1 := hcell j (by omega)
      have hsp : a.spot = none := by
        have := hcell 0 (by omega)
        simpa [Addr.add] using World.cell?_spot this
      obtain ⟨b, o, s⟩ := a
      simp at hsp
      subst hsp
      rw [add_plain] at h1
      rw [h1]
      have hjz : j < zs.length := by omega
      have hb := wf_u8 (hwz (zs.getD j 0) (by simp [List.getD, hjz]))
      have e1 : ((zs.take len).map fun z => UInt8.ofNat z.toNat)[j]'(by rw [htl]; exact hj) = UInt8.ofNat (zs.getD j 0).toNat := by simp [List.getD, hjz]
      rw [e1, ofNat_toNat (by omega)]
      congr 2
      omega
    · simp [lits]; omega
    · simp [lits]; omega

/-- Kinds that came in. -/
theorem open_kinds {fuel : Nat} {cs : List Value} {x : DataW H × List MemPlace} (h : DataW.trod enc Tryd.prog w 0 (fun _ => true) true fuel 45 cs = some x) :
    ∃ (ko : Option Addr) (kn kc : Nat) (K : Nat → Int), cs = [.slice ko kn kc] ∧ kn ≤ 9223372036854775807 ∧ ∀ i, i < kn → ∃ b o, ko = some ⟨b, o, none⟩ ∧ w.cell? ⟨b, o + i, none⟩ = some (.int .i64 (K i)) ∧ -9223372036854775808 ≤ K i ∧ K i ≤ 9223372036854775807 := by
  rcases open_ints Tryd.underlying45 Tryd.underlying3 cells_int h with ⟨rfl, rfl⟩ | ⟨a, len, cap, zs, rfl, _, hl, hm, hz, rfl, hcell, hwz⟩
  · exact ⟨none, 0, 0, fun _ => 0, rfl, by omega, fun i hi => by omega⟩
  · simp only [if_true] at hz
    refine ⟨some a, len, cap, fun i => zs.getD i 0, rfl, by unfold maxLen at hm; omega, fun i hi => ?_⟩
    have hsp : a.spot = none := by
      have := hcell 0 (by omega)
      simpa [Addr.add] using World.cell?_spot this
    obtain ⟨b, o, s⟩ := a
    simp at hsp
    subst hsp
    have h1 := hcell i (by omega)
    rw [add_plain] at h1
    have hiz : i < zs.length := by omega
    have hb := wf_i64 (hwz (zs.getD i 0) (by simp [List.getD, hiz]))
    exact ⟨b, o, rfl, h1, hb.1, hb.2⟩

end
end Go.Proofs.YtpdgbalhbfpdeaaDoor
