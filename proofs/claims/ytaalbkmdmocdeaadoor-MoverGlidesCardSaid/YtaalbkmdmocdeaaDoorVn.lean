/- The document's Is, Name, Operands. -/
import Derived.Test.YtaalbkmdmocdeaaDoorVt
namespace Go.Proofs.YtaalbkmdmocdeaaDoor
open Go.RowKit
open Vp

theorem ris_any (v : Int) (w : World) : Calls Tryd.prog 66 #[.int .i64 v] w fun e w' => e = .returned (.bool (isV v)) ∧ w' = w := by
  by_cases h1 : 1 ≤ v
  · by_cases h2 : v ≤ 7
    · rw [isV_iff.2 ⟨h1, h2⟩]
      go_enter Tryd.func66, Tryd.ntmps66
      go_wp2_with fail
      go_ret
      exact ⟨rfl, rfl⟩
    · have HE := hid (isV_no.2 (.inr (show 7 < v by omega)))
      have hd : decide (v ≤ 7) = false := by simp; omega
      rw [HE.out]
      go_enter Tryd.func66, Tryd.ntmps66
      go_wp2_with fail
      go_ret
      first | exact ⟨rfl, rfl⟩ | (rw [hd]; exact ⟨rfl, rfl⟩)
  · rw [isV_no.2 (.inl (show v < 1 by omega))]
    go_enter Tryd.func66, Tryd.ntmps66
    go_wp2_with fail
    go_ret
    exact ⟨rfl, rfl⟩
end Go.Proofs.YtaalbkmdmocdeaaDoor
