/- Contracts of the products, quotients, roots, parts, blends of package fixed and of the document's answer to them. -/
import Derived.Test.YtihcicijoeplkaaDoorNum
namespace Go.Proofs.YtihcicijoeplkaaDoor
open Go.ChangeShapes Go.WideShapes Go.ChangeAt Go.RowKit
open Pu

theorem rounded_nn (n d : Int) (w : World) (h0 : 0 ≤ n) (h1 : n ≤ 4611686018427387904) (d1 : 1 ≤ d) (d2 : d ≤ 4611686018427387904) :
    Calls Tryd.prog 37 #[.int .i64 n, .int .i64 d] w fun e w' => e = .returned (.int .i64 (rnd n d)) ∧ w' = w := by
  have q := @quo_bd n d h0 d1
  obtain ⟨q1, q2⟩ := q
  have e : rnd n d = (n + d / 2) / d := rnd_nn h0
  rw [e]; clear e
  go_enter Tryd.func37, Tryd.ntmps37
  go_wp2_with fail
  go_ret
  exact ⟨rfl, rfl⟩
theorem rounded_any (n d : Int) (w : World) (h0 : -4611686018427387904 ≤ n) (h1 : n ≤ 4611686018427387904) (d1 : 1 ≤ d) (d2 : d ≤ 4611686018427387904) :
    Calls Tryd.prog 37 #[.int .i64 n, .int .i64 d] w fun e w' => e = .returned (.int .i64 (rnd n d)) ∧ w' = w := by
  by_cases hn : n < 0
  · have q := @rnd_bd (-n) d d1
    obtain ⟨q1, q2⟩ := q
    have e : rnd n d = -rnd (-n) d := by rw [rnd_neg _ _ d1]; omega
    rw [e]; clear e
    have q3 : -4611686018427387905 ≤ rnd (-n) d := by omega
    have q4 : rnd (-n) d ≤ 4611686018427387905 := by omega
    clear q1 q2
    go_enter Tryd.func37, Tryd.ntmps37
    go_wp2_with (go_at_call 37; refine (rounded_nn _ _ _ (by omega) (by omega) d1 d2).mono ?_; rintro e w' ⟨rfl, rfl⟩)
    go_ret
    exact ⟨rfl, rfl⟩
  · exact rounded_nn n d w (by omega) h1 d1 d2

theorem near_nn (n d : Int) (w : World) (h0 : 0 ≤ n) (h1 : n ≤ 4611686018427387904) (d1 : 1 ≤ d) (d2 : d ≤ 2147483647) :
    Calls Tryd.prog 38 #[.int .i64 n, .int .i64 d] w fun e w' => e = .returned (.int .i64 (rnd n d)) ∧ w' = w := by
  have e : rnd n d = (n + d / 2) / d := rnd_nn h0
  have z1 := Int.emod_add_mul_ediv n d
  have z2 := Int.emod_nonneg n (show d ≠ 0 by omega)
  have z3 := Int.emod_lt_of_pos n (show 0 < d by omega)
  rw [Int.mul_comm] at z1
  have m1 : n / d * d ≤ n := by omega
  have m2 : n - n / d * d < d := by omega
  have q1 : 0 ≤ n / d := Int.ediv_nonneg h0 (by omega)
  have m3 : 0 ≤ n / d * d := Int.mul_nonneg q1 (by omega)
  have q2 : n / d ≤ n := Int.ediv_le_self _ h0
  clear z1 z2 z3
  by_cases h : d ≤ 2 * (n - n / d * d)
  · rw [e, near_hi d1 h]; clear e
    go_enter Tryd.func38, Tryd.ntmps38
    go_wp2_with fail
    go_ret
    exact ⟨rfl, rfl⟩
  · rw [e, near_lo d1 (by omega)]; clear e
    go_enter Tryd.func38, Tryd.ntmps38
    go_wp2_with fail
    go_ret
    exact ⟨rfl, rfl⟩
theorem near_any (n d : Int) (w : World) (h0 : -4611686018427387904 ≤ n) (h1 : n ≤ 4611686018427387904) (d1 : 1 ≤ d) (d2 : d ≤ 2147483647) :
    Calls Tryd.prog 38 #[.int .i64 n, .int .i64 d] w fun e w' => e = .returned (.int .i64 (rnd n d)) ∧ w' = w := by
  by_cases hn : n < 0
  · have q := @rnd_bd (-n) d d1
    obtain ⟨q1, q2⟩ := q
    have e : rnd n d = -rnd (-n) d := by rw [rnd_neg _ _ d1]; omega
    rw [e]; clear e
    have q3 : -4611686018427387905 ≤ rnd (-n) d := by omega
    have q4 : rnd (-n) d ≤ 4611686018427387905 := by omega
    clear q1 q2
    go_enter Tryd.func38, Tryd.ntmps38
    go_wp2_with (go_at_call 38; refine (near_nn _ _ _ (by omega) (by omega) d1 d2).mono ?_; rintro e w' ⟨rfl, rfl⟩)
    go_ret
    exact ⟨rfl, rfl⟩
  · exact near_nn n d w (by omega) h1 d1 d2

theorem mul_any (a b : Int) (w : World) : Calls Tryd.prog 16 #[.int .i64 a, .int .i64 b] w fun e w' => e = .returned (.int .i64 (mulf a b)) ∧ w' = w := by
  obtain ⟨m1, m2⟩ := mul_bd (bnd_lo a) (bnd_hi a) (bnd_lo b) (bnd_hi b)
  go_enter Tryd.func16, Tryd.ntmps16
  go_wp2_with (first | (go_at_call 20; refine (bound_any _ _).mono ?_; rintro e w' ⟨rfl, rfl⟩) | (go_at_call 37; refine (rounded_any _ _ _ (by omega) (by omega) (by omega) (by omega)).mono ?_; rintro e w' ⟨rfl, rfl⟩))
  go_ret
  exact ⟨rfl, rfl⟩
theorem rmul_any (a b : Int) (w : World) : Calls Tryd.prog 17 #[.int .i64 a, .int .i64 b] w fun e w' => e = .returned (.int .i64 (mulf a b)) ∧ w' = w := by
  obtain ⟨m1, m2⟩ := mul_bd (bnd_lo a) (bnd_hi a) (bnd_lo b) (bnd_hi b)
  go_enter Tryd.func17, Tryd.ntmps17
  go_wp2_with (first | (go_at_call 21; refine (rbound_any _ _).mono ?_; rintro e w' ⟨rfl, rfl⟩) | (go_at_call 38; refine (near_any _ _ _ (by omega) (by omega) (by omega) (by omega)).mono ?_; rintro e w' ⟨rfl, rfl⟩))
  go_ret
  exact ⟨rfl, rfl⟩

theorem of_any (a : Int) (w : World) : Calls Tryd.prog 22 #[.int .i64 a] w fun e w' => e = .returned (.int .i64 (off a)) ∧ w' = w := by
  have a1 := bnd_lo a
  have a2 := bnd_hi a
  go_enter Tryd.func22, Tryd.ntmps22
  go_wp2_with (go_at_call 20; refine (bound_any _ _).mono ?_; rintro e w' ⟨rfl, rfl⟩)
  go_ret
  exact ⟨rfl, rfl⟩
theorem abs_any (x : Int) (w : World) : Calls Tryd.prog 26 #[.int .i64 x] w fun e w' => e = .returned (.int .i64 (absf x)) ∧ w' = w := by
  have a1 := bnd_lo x
  have a2 := bnd_hi x
  by_cases h : bnd x < 0
  · have e : absf x = -bnd x := by unfold absf; rw [if_pos h]
    rw [e]; clear e
    go_enter Tryd.func26, Tryd.ntmps26
    go_wp2_with (go_at_call 20; refine (bound_any _ _).mono ?_; rintro e w' ⟨rfl, rfl⟩)
    go_ret
    exact ⟨rfl, rfl⟩
  · have e : absf x = bnd x := by unfold absf; rw [if_neg h]
    rw [e]; clear e
    go_enter Tryd.func26, Tryd.ntmps26
    go_wp2_with (go_at_call 20; refine (bound_any _ _).mono ?_; rintro e w' ⟨rfl, rfl⟩)
    go_ret
    exact ⟨rfl, rfl⟩
end Go.Proofs.YtihcicijoeplkaaDoor
