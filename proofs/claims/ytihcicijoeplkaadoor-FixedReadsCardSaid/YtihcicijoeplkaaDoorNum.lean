/- Contracts of the plain functions of package fixed and of the document's answer to them: each returns the plain integer that the text Pu names, and changes nothing. -/
import Derived.Test.YtihcicijoeplkaaDoorRows
import Derived.Test.YtihcicijoeplkaaDoorPu
import Derived.WalkKit
import Derived.ProofKit
import Derived.OpenShut
import Derived.WalkLawsBesides
namespace Go.Proofs.YtihcicijoeplkaaDoor
open Go.ChangeShapes Go.WideShapes Go.ChangeAt Go.RowKit
open Pu

theorem ret_int {k : IntKind} {a b : Int} (h : a = b) : Ending.returned (.int k a) = .returned (.int k b) := by rw [h]

theorem bound_any (n : Int) (w : World) : Calls Tryd.prog 20 #[.int .i64 n] w fun e w' => e = .returned (.int .i64 (bnd n)) ∧ w' = w := by
  have h3 : n < -2147483647 ∨ (-2147483647 ≤ n ∧ n ≤ 2147483647) ∨ 2147483647 < n := by omega
  rcases h3 with h | ⟨h, h'⟩ | h
  · have e : bnd n = -2147483647 := bnd_below (by omega)
    rw [e]; clear e
    go_enter Tryd.func20, Tryd.ntmps20
    go_wp2
    go_ret
    exact ⟨rfl, rfl⟩
  · have e : bnd n = n := bnd_id h h'
    rw [e]; clear e
    go_enter Tryd.func20, Tryd.ntmps20
    go_wp2
    go_ret
    exact ⟨rfl, rfl⟩
  · have e : bnd n = 2147483647 := bnd_above (by omega)
    rw [e]; clear e
    go_enter Tryd.func20, Tryd.ntmps20
    go_wp2
    go_ret
    exact ⟨rfl, rfl⟩
theorem rbound_any (n : Int) (w : World) : Calls Tryd.prog 21 #[.int .i64 n] w fun e w' => e = .returned (.int .i64 (bnd n)) ∧ w' = w := by
  have h3 : n < -2147483647 ∨ (-2147483647 ≤ n ∧ n ≤ 2147483647) ∨ 2147483647 < n := by omega
  rcases h3 with h | ⟨h, h'⟩ | h
  · have e : bnd n = -2147483647 := bnd_below (by omega)
    rw [e]; clear e
    have h2 : ¬ 2147483647 < n := by omega
    go_enter Tryd.func21, Tryd.ntmps21
    go_wp2
    go_ret
    exact ⟨rfl, rfl⟩
  · have e : bnd n = n := bnd_id h h'
    rw [e]; clear e
    go_enter Tryd.func21, Tryd.ntmps21
    go_wp2
    go_ret
    exact ⟨rfl, rfl⟩
  · have e : bnd n = 2147483647 := bnd_above (by omega)
    rw [e]; clear e
    go_enter Tryd.func21, Tryd.ntmps21
    go_wp2
    go_ret
    exact ⟨rfl, rfl⟩

theorem add_any (a b : Int) (w : World) : Calls Tryd.prog 12 #[.int .i64 a, .int .i64 b] w fun e w' => e = .returned (.int .i64 (addf a b)) ∧ w' = w := by
  have a1 := bnd_lo a
  have a2 := bnd_hi a
  have b1 := bnd_lo b
  have b2 := bnd_hi b
  go_enter Tryd.func12, Tryd.ntmps12
  go_wp2_with (go_at_call 20; refine (bound_any _ _).mono ?_; rintro e w' ⟨rfl, rfl⟩)
  go_ret
  exact ⟨rfl, rfl⟩
theorem radd_any (a b : Int) (w : World) : Calls Tryd.prog 13 #[.int .i64 a, .int .i64 b] w fun e w' => e = .returned (.int .i64 (addf a b)) ∧ w' = w := by
  have a1 := bnd_lo a
  have a2 := bnd_hi a
  have b1 := bnd_lo b
  have b2 := bnd_hi b
  go_enter Tryd.func13, Tryd.ntmps13
  go_wp2_with (go_at_call 21; refine (rbound_any _ _).mono ?_; rintro e w' ⟨rfl, rfl⟩)
  go_ret
  exact ⟨rfl, rfl⟩
theorem sub_any (a b : Int) (w : World) : Calls Tryd.prog 14 #[.int .i64 a, .int .i64 b] w fun e w' => e = .returned (.int .i64 (subf a b)) ∧ w' = w := by
  have a1 := bnd_lo a
  have a2 := bnd_hi a
  have b1 := bnd_lo b
  have b2 := bnd_hi b
  go_enter Tryd.func14, Tryd.ntmps14
  go_wp2_with (go_at_call 20; refine (bound_any _ _).mono ?_; rintro e w' ⟨rfl, rfl⟩)
  go_ret
  exact ⟨rfl, rfl⟩
theorem rsub_any (a b : Int) (w : World) : Calls Tryd.prog 15 #[.int .i64 a, .int .i64 b] w fun e w' => e = .returned (.int .i64 (subf a b)) ∧ w' = w := by
  have a1 := bnd_lo a
  have a2 := bnd_hi a
  have b1 := bnd_lo b
  have b2 := bnd_hi b
  go_enter Tryd.func15, Tryd.ntmps15
  go_wp2_with (go_at_call 21; refine (rbound_any _ _).mono ?_; rintro e w' ⟨rfl, rfl⟩)
  go_ret
  exact ⟨rfl, rfl⟩
end Go.Proofs.YtihcicijoeplkaaDoor
