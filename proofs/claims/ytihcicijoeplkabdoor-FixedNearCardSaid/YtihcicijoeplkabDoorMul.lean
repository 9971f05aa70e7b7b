/- Contracts of the products, quotients, roots, parts, blends of package fixed and of the document's answer to them. -/
import Derived.Test.YtihcicijoeplkabDoorNum
namespace Go.Proofs.YtihcicijoeplkabDoor
open Go.ChangeShapes Go.WideShapes Go.ChangeAt Go.RowKit
open Pu

theorem rounded_nn (n d : Int) (w : World) (h0 : 0 ≤ n) (h1 : n ≤ 4611686018427387904) (d1 : 1 ≤ d) (d2 : d ≤ 4611686018427387904) :
    Calls Tryd.prog 22 #[.int .i64 n, .int .i64 d] w fun e w' => e = .returned (.int .i64 (rnd n d)) ∧ w' = w := by
  have q := @quo_bd n d h0 d1
  obtain ⟨q1, q2⟩ := q
  have e : rnd n d = (n + d / 2) / d := rnd_nn h0
  rw [e]; clear e
  go_enter Tryd.func22, Tryd.ntmps22
  go_wp2_with fail
  go_ret
  exact ⟨rfl, rfl⟩
theorem rounded_any (n d : Int) (w : World) (h0 : -4611686018427387904 ≤ n) (h1 : n ≤ 4611686018427387904) (d1 : 1 ≤ d) (d2 : d ≤ 4611686018427387904) :
    Calls Tryd.prog 22 #[.int .i64 n, .int .i64 d] w fun e w' => e = .returned (.int .i64 (rnd n d)) ∧ w' = w := by
  by_cases hn : n < 0
  · have q := @rnd_bd (-n) d d1
    obtain ⟨q1, q2⟩ := q
    have e : rnd n d = -rnd (-n) d := by rw [rnd_neg _ _ d1]; omega
    rw [e]; clear e
    have q3 : -4611686018427387905 ≤ rnd (-n) d := by omega
    have q4 : rnd (-n) d ≤ 4611686018427387905 := by omega
    clear q1 q2
    go_enter Tryd.func22, Tryd.ntmps22
    go_wp2_with (go_at_call 22; refine (rounded_nn _ _ _ (by omega) (by omega) d1 d2).mono ?_; rintro e w' ⟨rfl, rfl⟩)
    go_ret
    exact ⟨rfl, rfl⟩
  · exact rounded_nn n d w (by omega) h1 d1 d2

theorem mul_any (a b : Int) (w : World) : Calls Tryd.prog 8 #[.int .i64 a, .int .i64 b] w fun e w' => e = .returned (.int .i64 (mulf a b)) ∧ w' = w := by
  obtain ⟨m1, m2⟩ := mul_bd (bnd_lo a) (bnd_hi a) (bnd_lo b) (bnd_hi b)
  go_enter Tryd.func8, Tryd.ntmps8
  go_wp2_with (first | (go_at_call 7; refine (bound_any _ _).mono ?_; rintro e w' ⟨rfl, rfl⟩) | (go_at_call 22; refine (rounded_any _ _ _ (by omega) (by omega) (by omega) (by omega)).mono ?_; rintro e w' ⟨rfl, rfl⟩))
  go_ret
  exact ⟨rfl, rfl⟩
theorem of_any (a : Int) (w : World) : Calls Tryd.prog 19 #[.int .i64 a] w fun e w' => e = .returned (.int .i64 (off a)) ∧ w' = w := by
  have a1 := bnd_lo a
  have a2 := bnd_hi a
  go_enter Tryd.func19, Tryd.ntmps19
  go_wp2_with (go_at_call 7; refine (bound_any _ _).mono ?_; rintro e w' ⟨rfl, rfl⟩)
  go_ret
  exact ⟨rfl, rfl⟩
theorem abs_any (x : Int) (w : World) : Calls Tryd.prog 20 #[.int .i64 x] w fun e w' => e = .returned (.int .i64 (absf x)) ∧ w' = w := by
  have a1 := bnd_lo x
  have a2 := bnd_hi x
  by_cases h : bnd x < 0
  · have e : absf x = -bnd x := by unfold absf; rw [if_pos h]
    rw [e]; clear e
    go_enter Tryd.func20, Tryd.ntmps20
    go_wp2_with (go_at_call 7; refine (bound_any _ _).mono ?_; rintro e w' ⟨rfl, rfl⟩)
    go_ret
    exact ⟨rfl, rfl⟩
  · have e : absf x = bnd x := by unfold absf; rw [if_neg h]
    rw [e]; clear e
    go_enter Tryd.func20, Tryd.ntmps20
    go_wp2_with (go_at_call 7; refine (bound_any _ _).mono ?_; rintro e w' ⟨rfl, rfl⟩)
    go_ret
    exact ⟨rfl, rfl⟩
end Go.Proofs.YtihcicijoeplkabDoor
