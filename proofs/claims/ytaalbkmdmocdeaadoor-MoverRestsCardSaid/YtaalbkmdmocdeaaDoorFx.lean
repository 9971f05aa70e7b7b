/- Contracts of the plain functions of package fixed and of the document's answer to them, as stage 5 calls them: each returns the plain integer that the text Pu names, and changes nothing. -/
import Derived.Test.YtaalbkmdmocdeaaDoorProg
import Derived.Test.YtaalbkmdmocdeaaDoorGp
import Derived.WalkKit
import Derived.WalkLawsBesides
import Derived.Lib.Hide
namespace Go.Proofs.YtaalbkmdmocdeaaDoor
open Go.RowKit
open Pu

theorem ret_int {k : IntKind} {a b : Int} (h : a = b) : Ending.returned (.int k a) = .returned (.int k b) := by rw [h]
theorem bound_any (n : Int) (w : World) : Calls Tryd.prog 50 #[.int .i64 n] w fun e w' => e = .returned (.int .i64 (bnd n)) ∧ w' = w := by
  have h3 : n < -2147483647 ∨ (-2147483647 ≤ n ∧ n ≤ 2147483647) ∨ 2147483647 < n := by omega
  rcases h3 with h | ⟨h, h'⟩ | h
  · have e : bnd n = -2147483647 := bnd_below (by omega)
    rw [e]; clear e
    go_enter Tryd.func50, Tryd.ntmps50
    go_wp2
    go_ret
    exact ⟨rfl, rfl⟩
  · have e : bnd n = n := bnd_id h h'
    rw [e]; clear e
    go_enter Tryd.func50, Tryd.ntmps50
    go_wp2
    go_ret
    exact ⟨rfl, rfl⟩
  · have e : bnd n = 2147483647 := bnd_above (by omega)
    rw [e]; clear e
    go_enter Tryd.func50, Tryd.ntmps50
    go_wp2
    go_ret
    exact ⟨rfl, rfl⟩
theorem rbound_any (n : Int) (w : World) : Calls Tryd.prog 52 #[.int .i64 n] w fun e w' => e = .returned (.int .i64 (bnd n)) ∧ w' = w := by
  have h3 : n < -2147483647 ∨ (-2147483647 ≤ n ∧ n ≤ 2147483647) ∨ 2147483647 < n := by omega
  rcases h3 with h | ⟨h, h'⟩ | h
  · have e : bnd n = -2147483647 := bnd_below (by omega)
    rw [e]; clear e
    have h2 : ¬ 2147483647 < n := by omega
    go_enter Tryd.func52, Tryd.ntmps52
    go_wp2
    go_ret
    exact ⟨rfl, rfl⟩
  · have e : bnd n = n := bnd_id h h'
    rw [e]; clear e
    go_enter Tryd.func52, Tryd.ntmps52
    go_wp2
    go_ret
    exact ⟨rfl, rfl⟩
  · have e : bnd n = 2147483647 := bnd_above (by omega)
    rw [e]; clear e
    go_enter Tryd.func52, Tryd.ntmps52
    go_wp2
    go_ret
    exact ⟨rfl, rfl⟩
theorem add_any (a b : Int) (w : World) : Calls Tryd.prog 82 #[.int .i64 a, .int .i64 b] w fun e w' => e = .returned (.int .i64 (addf a b)) ∧ w' = w := by
  have a1 := bnd_lo a
  have a2 := bnd_hi a
  have b1 := bnd_lo b
  have b2 := bnd_hi b
  go_enter Tryd.func82, Tryd.ntmps82
  go_wp2_with (go_at_call 50; refine (bound_any _ _).mono ?_; rintro e w' ⟨rfl, rfl⟩)
  go_ret
  exact ⟨rfl, rfl⟩
theorem radd_any (a b : Int) (w : World) : Calls Tryd.prog 94 #[.int .i64 a, .int .i64 b] w fun e w' => e = .returned (.int .i64 (addf a b)) ∧ w' = w := by
  have a1 := bnd_lo a
  have a2 := bnd_hi a
  have b1 := bnd_lo b
  have b2 := bnd_hi b
  go_enter Tryd.func94, Tryd.ntmps94
  go_wp2_with (go_at_call 52; refine (rbound_any _ _).mono ?_; rintro e w' ⟨rfl, rfl⟩)
  go_ret
  exact ⟨rfl, rfl⟩
theorem sub_any (a b : Int) (w : World) : Calls Tryd.prog 81 #[.int .i64 a, .int .i64 b] w fun e w' => e = .returned (.int .i64 (subf a b)) ∧ w' = w := by
  have a1 := bnd_lo a
  have a2 := bnd_hi a
  have b1 := bnd_lo b
  have b2 := bnd_hi b
  go_enter Tryd.func81, Tryd.ntmps81
  go_wp2_with (go_at_call 50; refine (bound_any _ _).mono ?_; rintro e w' ⟨rfl, rfl⟩)
  go_ret
  exact ⟨rfl, rfl⟩
theorem rsub_any (a b : Int) (w : World) : Calls Tryd.prog 112 #[.int .i64 a, .int .i64 b] w fun e w' => e = .returned (.int .i64 (subf a b)) ∧ w' = w := by
  have a1 := bnd_lo a
  have a2 := bnd_hi a
  have b1 := bnd_lo b
  have b2 := bnd_hi b
  go_enter Tryd.func112, Tryd.ntmps112
  go_wp2_with (go_at_call 52; refine (rbound_any _ _).mono ?_; rintro e w' ⟨rfl, rfl⟩)
  go_ret
  exact ⟨rfl, rfl⟩
theorem rounded_nn (n d : Int) (w : World) (h0 : 0 ≤ n) (h1 : n ≤ 4611686018427387904) (d1 : 1 ≤ d) (d2 : d ≤ 4611686018427387904) :
    Calls Tryd.prog 111 #[.int .i64 n, .int .i64 d] w fun e w' => e = .returned (.int .i64 (rnd n d)) ∧ w' = w := by
  have q := @quo_bd n d h0 d1
  obtain ⟨q1, q2⟩ := q
  have e : rnd n d = (n + d / 2) / d := rnd_nn h0
  rw [e]; clear e
  go_enter Tryd.func111, Tryd.ntmps111
  go_wp2_with fail
  go_ret
  exact ⟨rfl, rfl⟩
theorem rounded_any (n d : Int) (w : World) (h0 : -4611686018427387904 ≤ n) (h1 : n ≤ 4611686018427387904) (d1 : 1 ≤ d) (d2 : d ≤ 4611686018427387904) :
    Calls Tryd.prog 111 #[.int .i64 n, .int .i64 d] w fun e w' => e = .returned (.int .i64 (rnd n d)) ∧ w' = w := by
  by_cases hn : n < 0
  · have q := @rnd_bd (-n) d d1
    obtain ⟨q1, q2⟩ := q
    have e : rnd n d = -rnd (-n) d := by rw [rnd_neg _ _ d1]; omega
    rw [e]; clear e
    have q3 : -4611686018427387905 ≤ rnd (-n) d := by omega
    have q4 : rnd (-n) d ≤ 4611686018427387905 := by omega
    clear q1 q2
    go_enter Tryd.func111, Tryd.ntmps111
    go_wp2_with (go_at_call 111; refine (rounded_nn _ _ _ (by omega) (by omega) d1 d2).mono ?_; rintro e w' ⟨rfl, rfl⟩)
    go_ret
    exact ⟨rfl, rfl⟩
  · exact rounded_nn n d w (by omega) h1 d1 d2
theorem near_nn (n d : Int) (w : World) (h0 : 0 ≤ n) (h1 : n ≤ 4611686018427387904) (d1 : 1 ≤ d) (d2 : d ≤ 2147483647) :
    Calls Tryd.prog 87 #[.int .i64 n, .int .i64 d] w fun e w' => e = .returned (.int .i64 (rnd n d)) ∧ w' = w := by
  have e : rnd n d = (n + d / 2) / d := rnd_nn h0
  have z1 := Int.emod_add_mul_ediv n d
  have z2 := Int.emod_nonneg n (show d ≠ 0 by omega)
  have z3 := Int.emod_lt_of_pos n (show 0 < d by omega)
  rw [Int.mul_comm] at z1
  have m1 : n / d * d ≤ n := by omega
  have m2 : n - n / d * d < d := by omega
  have q1 : 0 ≤ n / d := Int.ediv_nonneg h0 (by omega)
  have m3 : 0 ≤ n / d * d := Int.mul_nonneg q1 (by omega)
  have q2 : n / d ≤ n := Int.ediv_le_self _ h0
  clear z1 z2 z3
  by_cases h : d ≤ 2 * (n - n / d * d)
  · rw [e, near_hi d1 h]; clear e
    go_enter Tryd.func87, Tryd.ntmps87
    go_wp2_with fail
    go_ret
    exact ⟨rfl, rfl⟩
  · rw [e, near_lo d1 (by omega)]; clear e
    go_enter Tryd.func87, Tryd.ntmps87
    go_wp2_with fail
    go_ret
    exact ⟨rfl, rfl⟩
theorem near_any (n d : Int) (w : World) (h0 : -4611686018427387904 ≤ n) (h1 : n ≤ 4611686018427387904) (d1 : 1 ≤ d) (d2 : d ≤ 2147483647) :
    Calls Tryd.prog 87 #[.int .i64 n, .int .i64 d] w fun e w' => e = .returned (.int .i64 (rnd n d)) ∧ w' = w := by
  by_cases hn : n < 0
  · have q := @rnd_bd (-n) d d1
    obtain ⟨q1, q2⟩ := q
    have e : rnd n d = -rnd (-n) d := by rw [rnd_neg _ _ d1]; omega
    rw [e]; clear e
    have q3 : -4611686018427387905 ≤ rnd (-n) d := by omega
    have q4 : rnd (-n) d ≤ 4611686018427387905 := by omega
    clear q1 q2
    go_enter Tryd.func87, Tryd.ntmps87
    go_wp2_with (go_at_call 87; refine (near_nn _ _ _ (by omega) (by omega) d1 d2).mono ?_; rintro e w' ⟨rfl, rfl⟩)
    go_ret
    exact ⟨rfl, rfl⟩
  · exact near_nn n d w (by omega) h1 d1 d2
theorem mul_any (a b : Int) (w : World) : Calls Tryd.prog 104 #[.int .i64 a, .int .i64 b] w fun e w' => e = .returned (.int .i64 (mulf a b)) ∧ w' = w := by
  obtain ⟨m1, m2⟩ := mul_bd (bnd_lo a) (bnd_hi a) (bnd_lo b) (bnd_hi b)
  go_enter Tryd.func104, Tryd.ntmps104
  go_wp2_with (first | (go_at_call 50; refine (bound_any _ _).mono ?_; rintro e w' ⟨rfl, rfl⟩) | (go_at_call 111; refine (rounded_any _ _ _ (by omega) (by omega) (by omega) (by omega)).mono ?_; rintro e w' ⟨rfl, rfl⟩))
  go_ret
  exact ⟨rfl, rfl⟩
theorem rmul_any (a b : Int) (w : World) : Calls Tryd.prog 68 #[.int .i64 a, .int .i64 b] w fun e w' => e = .returned (.int .i64 (mulf a b)) ∧ w' = w := by
  obtain ⟨m1, m2⟩ := mul_bd (bnd_lo a) (bnd_hi a) (bnd_lo b) (bnd_hi b)
  go_enter Tryd.func68, Tryd.ntmps68
  go_wp2_with (first | (go_at_call 52; refine (rbound_any _ _).mono ?_; rintro e w' ⟨rfl, rfl⟩) | (go_at_call 87; refine (near_any _ _ _ (by omega) (by omega) (by omega) (by omega)).mono ?_; rintro e w' ⟨rfl, rfl⟩))
  go_ret
  exact ⟨rfl, rfl⟩
theorem clamp_any (x l m : Int) (w : World) : Calls Tryd.prog 80 #[.int .i64 x, .int .i64 l, .int .i64 m] w fun e w' => e = .returned (.int .i64 (clampf x l m)) ∧ w' = w := by
  by_cases h1 : bnd x < bnd l
  · by_cases h2 : bnd m < bnd l
    · have e : clampf x l m = bnd m := by unfold clampf; rw [if_pos h1, if_pos h2]
      rw [e]; clear e
      go_enter Tryd.func80, Tryd.ntmps80
      go_wp2_with (go_at_call 50; refine (bound_any _ _).mono ?_; rintro e w' ⟨rfl, rfl⟩)
      go_ret
      exact ⟨rfl, rfl⟩
    · have e : clampf x l m = bnd l := by unfold clampf; rw [if_pos h1, if_neg h2]
      rw [e]; clear e
      go_enter Tryd.func80, Tryd.ntmps80
      go_wp2_with (go_at_call 50; refine (bound_any _ _).mono ?_; rintro e w' ⟨rfl, rfl⟩)
      go_ret
      exact ⟨rfl, rfl⟩
  · by_cases h2 : bnd m < bnd x
    · have e : clampf x l m = bnd m := by unfold clampf; rw [if_neg h1, if_pos h2]
      rw [e]; clear e
      go_enter Tryd.func80, Tryd.ntmps80
      go_wp2_with (go_at_call 50; refine (bound_any _ _).mono ?_; rintro e w' ⟨rfl, rfl⟩)
      go_ret
      exact ⟨rfl, rfl⟩
    · have e : clampf x l m = bnd x := by unfold clampf; rw [if_neg h1, if_neg h2]
      rw [e]; clear e
      go_enter Tryd.func80, Tryd.ntmps80
      go_wp2_with (go_at_call 50; refine (bound_any _ _).mono ?_; rintro e w' ⟨rfl, rfl⟩)
      go_ret
      exact ⟨rfl, rfl⟩
theorem rclamp_any (x l m : Int) (w : World) : Calls Tryd.prog 38 #[.int .i64 x, .int .i64 l, .int .i64 m] w fun e w' => e = .returned (.int .i64 (clampf x l m)) ∧ w' = w := by
  by_cases h1 : bnd x < bnd l
  · by_cases h2 : bnd m < bnd l
    · have e : clampf x l m = bnd m := by unfold clampf; rw [if_pos h1, if_pos h2]
      rw [e]; clear e
      go_enter Tryd.func38, Tryd.ntmps38
      go_wp2_with (go_at_call 52; refine (rbound_any _ _).mono ?_; rintro e w' ⟨rfl, rfl⟩)
      go_ret
      exact ⟨rfl, rfl⟩
    · have e : clampf x l m = bnd l := by unfold clampf; rw [if_pos h1, if_neg h2]
      rw [e]; clear e
      go_enter Tryd.func38, Tryd.ntmps38
      go_wp2_with (go_at_call 52; refine (rbound_any _ _).mono ?_; rintro e w' ⟨rfl, rfl⟩)
      go_ret
      exact ⟨rfl, rfl⟩
  · by_cases h2 : bnd m < bnd x
    · have e : clampf x l m = bnd m := by unfold clampf; rw [if_neg h1, if_pos h2]
      rw [e]; clear e
      go_enter Tryd.func38, Tryd.ntmps38
      go_wp2_with (go_at_call 52; refine (rbound_any _ _).mono ?_; rintro e w' ⟨rfl, rfl⟩)
      go_ret
      exact ⟨rfl, rfl⟩
    · have e : clampf x l m = bnd x := by unfold clampf; rw [if_neg h1, if_neg h2]
      rw [e]; clear e
      go_enter Tryd.func38, Tryd.ntmps38
      go_wp2_with (go_at_call 52; refine (rbound_any _ _).mono ?_; rintro e w' ⟨rfl, rfl⟩)
      go_ret
      exact ⟨rfl, rfl⟩
end Go.Proofs.YtaalbkmdmocdeaaDoor
