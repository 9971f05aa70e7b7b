/- Contracts of the plain functions of package fixed and of the document's answer to them: each returns the plain integer that the text Pu names, and changes nothing. -/
import Derived.Test.YtihcicijoeplkabDoorRows
import Derived.Test.YtihcicijoeplkabDoorPu
import Derived.WalkKit
import Derived.ProofKit
import Derived.OpenShut
import Derived.WalkLawsBesides
namespace Go.Proofs.YtihcicijoeplkabDoor
open Go.ChangeShapes Go.WideShapes Go.ChangeAt Go.RowKit
open Pu

theorem ret_int {k : IntKind} {a b : Int} (h : a = b) : Ending.returned (.int k a) = .returned (.int k b) := by rw [h]

theorem bound_any (n : Int) (w : World) : Calls Tryd.prog 7 #[.int .i64 n] w fun e w' => e = .returned (.int .i64 (bnd n)) ∧ w' = w := by
  have h3 : n < -2147483647 ∨ (-2147483647 ≤ n ∧ n ≤ 2147483647) ∨ 2147483647 < n := by omega
  rcases h3 with h | ⟨h, h'⟩ | h
  · have e : bnd n = -2147483647 := bnd_below (by omega)
    rw [e]; clear e
    go_enter Tryd.func7, Tryd.ntmps7
    go_wp2
    go_ret
    exact ⟨rfl, rfl⟩
  · have e : bnd n = n := bnd_id h h'
    rw [e]; clear e
    go_enter Tryd.func7, Tryd.ntmps7
    go_wp2
    go_ret
    exact ⟨rfl, rfl⟩
  · have e : bnd n = 2147483647 := bnd_above (by omega)
    rw [e]; clear e
    go_enter Tryd.func7, Tryd.ntmps7
    go_wp2
    go_ret
    exact ⟨rfl, rfl⟩
theorem add_any (a b : Int) (w : World) : Calls Tryd.prog 16 #[.int .i64 a, .int .i64 b] w fun e w' => e = .returned (.int .i64 (addf a b)) ∧ w' = w := by
  have a1 := bnd_lo a
  have a2 := bnd_hi a
  have b1 := bnd_lo b
  have b2 := bnd_hi b
  go_enter Tryd.func16, Tryd.ntmps16
  go_wp2_with (go_at_call 7; refine (bound_any _ _).mono ?_; rintro e w' ⟨rfl, rfl⟩)
  go_ret
  exact ⟨rfl, rfl⟩
theorem sub_any (a b : Int) (w : World) : Calls Tryd.prog 17 #[.int .i64 a, .int .i64 b] w fun e w' => e = .returned (.int .i64 (subf a b)) ∧ w' = w := by
  have a1 := bnd_lo a
  have a2 := bnd_hi a
  have b1 := bnd_lo b
  have b2 := bnd_hi b
  go_enter Tryd.func17, Tryd.ntmps17
  go_wp2_with (go_at_call 7; refine (bound_any _ _).mono ?_; rintro e w' ⟨rfl, rfl⟩)
  go_ret
  exact ⟨rfl, rfl⟩
end Go.Proofs.YtihcicijoeplkabDoor
