/- Contracts of the document's answer: whole parts, sizes, roots, clamps, blends. -/
import Derived.Test.YtihcicijoeplkaaDoorAwake
namespace Go.Proofs.YtihcicijoeplkaaDoor
open Go.ChangeShapes Go.WideShapes Go.ChangeAt Go.RowKit
open Pu

theorem rof_any (a : Int) (w : World) : Calls Tryd.prog 23 #[.int .i64 a] w fun e w' => e = .returned (.int .i64 (off a)) ∧ w' = w := by
  have h3 : a < -2147483647 ∨ (-2147483647 ≤ a ∧ a ≤ 2147483647) ∨ 2147483647 < a := by omega
  rcases h3 with h | ⟨h, h'⟩ | h
  · have e : off a = -2147483647 := by unfold off; rw [bnd_below (n := a) (by omega)]; decide
    rw [e]; clear e
    have h2 : ¬ 2147483647 < a := by omega
    go_enter Tryd.func23, Tryd.ntmps23
    go_wp2_with (go_at_call 21; refine (rbound_any _ _).mono ?_; rintro e w' ⟨rfl, rfl⟩)
    go_ret
    exact ⟨rfl, rfl⟩
  · have e : off a = bnd (256 * a) := by unfold off; rw [bnd_id h h', Int.mul_comm]
    rw [e]; clear e
    go_enter Tryd.func23, Tryd.ntmps23
    go_wp2_with (go_at_call 21; refine (rbound_any _ _).mono ?_; rintro e w' ⟨rfl, rfl⟩)
    go_ret
    exact ⟨rfl, rfl⟩
  · have e : off a = 2147483647 := by unfold off; rw [bnd_above (n := a) (by omega)]; decide
    rw [e]; clear e
    go_enter Tryd.func23, Tryd.ntmps23
    go_wp2_with (go_at_call 21; refine (rbound_any _ _).mono ?_; rintro e w' ⟨rfl, rfl⟩)
    go_ret
    exact ⟨rfl, rfl⟩
theorem tdiv_neg {x : Int} (h : x < 0) : x.tdiv 256 = -(-x / 256) := by
  have e : x.tdiv 256 = -((-x).tdiv 256) := by rw [Int.neg_tdiv]; omega
  rw [e, Int.tdiv_eq_ediv_of_nonneg (by omega)]
theorem rwhole_any (x : Int) (w : World) : Calls Tryd.prog 25 #[.int .i64 x] w fun e w' => e = .returned (.int .i64 (wholef x)) ∧ w' = w := by
  have a1 := bnd_lo x
  have a2 := bnd_hi x
  by_cases h : bnd x < 0
  · have t := tdiv_neg h
    by_cases hm : bnd x < (bnd x).tdiv 256 * 256
    · have e : wholef x = (bnd x).tdiv 256 - 1 := by unfold wholef; omega
      rw [e]; clear e
      have t1 : -8388608 ≤ (bnd x).tdiv 256 := by omega
      have t2 : (bnd x).tdiv 256 ≤ 0 := by omega
      clear t
      go_enter Tryd.func25, Tryd.ntmps25
      go_wp2_with (go_at_call 21; refine (rbound_any _ _).mono ?_; rintro e w' ⟨rfl, rfl⟩)
      go_ret
      exact ⟨rfl, rfl⟩
    · have e : wholef x = (bnd x).tdiv 256 := by unfold wholef; omega
      rw [e]; clear e
      have t1 : -8388608 ≤ (bnd x).tdiv 256 := by omega
      have t2 : (bnd x).tdiv 256 ≤ 0 := by omega
      clear t
      go_enter Tryd.func25, Tryd.ntmps25
      go_wp2_with (go_at_call 21; refine (rbound_any _ _).mono ?_; rintro e w' ⟨rfl, rfl⟩)
      go_ret
      exact ⟨rfl, rfl⟩
  · have e : wholef x = bnd x / 256 := rfl
    rw [e]; clear e
    have hm : ¬ bnd x < bnd x / 256 * 256 := by omega
    go_enter Tryd.func25, Tryd.ntmps25
    go_wp2_with (go_at_call 21; refine (rbound_any _ _).mono ?_; rintro e w' ⟨rfl, rfl⟩)
    go_ret
    exact ⟨rfl, rfl⟩
theorem rabs_any (x : Int) (w : World) : Calls Tryd.prog 27 #[.int .i64 x] w fun e w' => e = .returned (.int .i64 (absf x)) ∧ w' = w := by
  have a1 := bnd_lo x
  have a2 := bnd_hi x
  by_cases h : bnd x < 0
  · have e : absf x = -bnd x := by unfold absf; rw [if_pos h]
    rw [e]; clear e
    go_enter Tryd.func27, Tryd.ntmps27
    go_wp2_with (go_at_call 21; refine (rbound_any _ _).mono ?_; rintro e w' ⟨rfl, rfl⟩)
    go_ret
    exact ⟨rfl, rfl⟩
  · have e : absf x = bnd x := by unfold absf; rw [if_neg h]
    rw [e]; clear e
    go_enter Tryd.func27, Tryd.ntmps27
    go_wp2_with (go_at_call 21; refine (rbound_any _ _).mono ?_; rintro e w' ⟨rfl, rfl⟩)
    go_ret
    exact ⟨rfl, rfl⟩
theorem rclamp_any (x l m : Int) (w : World) : Calls Tryd.prog 31 #[.int .i64 x, .int .i64 l, .int .i64 m] w fun e w' => e = .returned (.int .i64 (clampf x l m)) ∧ w' = w := by
  by_cases h1 : bnd x < bnd l
  · by_cases h2 : bnd m < bnd l
    · have e : clampf x l m = bnd m := by unfold clampf; rw [if_pos h1, if_pos h2]
      rw [e]; clear e
      go_enter Tryd.func31, Tryd.ntmps31
      go_wp2_with (go_at_call 21; refine (rbound_any _ _).mono ?_; rintro e w' ⟨rfl, rfl⟩)
      go_ret
      exact ⟨rfl, rfl⟩
    · have e : clampf x l m = bnd l := by unfold clampf; rw [if_pos h1, if_neg h2]
      rw [e]; clear e
      go_enter Tryd.func31, Tryd.ntmps31
      go_wp2_with (go_at_call 21; refine (rbound_any _ _).mono ?_; rintro e w' ⟨rfl, rfl⟩)
      go_ret
      exact ⟨rfl, rfl⟩
  · by_cases h2 : bnd m < bnd x
    · have e : clampf x l m = bnd m := by unfold clampf; rw [if_neg h1, if_pos h2]
      rw [e]; clear e
      go_enter Tryd.func31, Tryd.ntmps31
      go_wp2_with (go_at_call 21; refine (rbound_any _ _).mono ?_; rintro e w' ⟨rfl, rfl⟩)
      go_ret
      exact ⟨rfl, rfl⟩
    · have e : clampf x l m = bnd x := by unfold clampf; rw [if_neg h1, if_neg h2]
      rw [e]; clear e
      go_enter Tryd.func31, Tryd.ntmps31
      go_wp2_with (go_at_call 21; refine (rbound_any _ _).mono ?_; rintro e w' ⟨rfl, rfl⟩)
      go_ret
      exact ⟨rfl, rfl⟩
theorem rblend_any (a b t : Int) (w : World) : Calls Tryd.prog 29 #[.int .i64 a, .int .i64 b, .int .i64 t] w fun e w' => e = .returned (.int .i64 (blendf a b t)) ∧ w' = w := by
  have a1 := bnd_lo a
  have a2 := bnd_hi a
  have b1 := bnd_lo b
  have b2 := bnd_hi b
  have key : ∀ u : Int, 0 ≤ u → u ≤ 256 → (-1099511627264 ≤ (bnd b - bnd a) * u ∧ (bnd b - bnd a) * u ≤ 1099511627264) ∧ -1099511627265 ≤ rnd ((bnd b - bnd a) * u) 256 ∧ rnd ((bnd b - bnd a) * u) 256 ≤ 1099511627265 := fun u h0 h1 => by
    have m := blend_bd a1 a2 b1 b2 h0 h1
    have r := @rnd_bd ((bnd b - bnd a) * u) 256 (by omega)
    omega
  have h3 : t < 0 ∨ (0 ≤ t ∧ t ≤ 256) ∨ 256 < t := by omega
  rcases h3 with h | ⟨h, h'⟩ | h
  · obtain ⟨⟨m1, m2⟩, r1, r2⟩ := key 0 (by omega) (by omega)
    have e : blendf a b t = bnd a + rnd ((bnd b - bnd a) * 0) 256 := by unfold blendf tt; rw [if_pos h]
    rw [e]; clear e key
    rw [Int.mul_zero] at *
    have h2 : ¬ 256 < t := by omega
    go_enter Tryd.func29, Tryd.ntmps29
    go_wp2_with (first | (go_at_call 21; refine (rbound_any _ _).mono ?_; rintro e w' ⟨rfl, rfl⟩) | (go_at_call 38; refine (near_any _ _ _ (by omega) (by omega) (by omega) (by omega)).mono ?_; rintro e w' ⟨rfl, rfl⟩))
    go_ret
    exact ⟨rfl, rfl⟩
  · obtain ⟨⟨m1, m2⟩, r1, r2⟩ := key t h h'
    have e : blendf a b t = bnd a + rnd ((bnd b - bnd a) * t) 256 := by unfold blendf tt; rw [if_neg (by omega), if_neg (by omega)]
    rw [e]; clear e key
    go_enter Tryd.func29, Tryd.ntmps29
    go_wp2_with (first | (go_at_call 21; refine (rbound_any _ _).mono ?_; rintro e w' ⟨rfl, rfl⟩) | (go_at_call 38; refine (near_any _ _ _ (by omega) (by omega) (by omega) (by omega)).mono ?_; rintro e w' ⟨rfl, rfl⟩))
    go_ret
    exact ⟨rfl, rfl⟩
  · obtain ⟨⟨m1, m2⟩, r1, r2⟩ := key 256 (by omega) (by omega)
    have e : blendf a b t = bnd a + rnd ((bnd b - bnd a) * 256) 256 := by unfold blendf tt; rw [if_neg (by omega), if_pos h]
    rw [e]; clear e key
    go_enter Tryd.func29, Tryd.ntmps29
    go_wp2_with (first | (go_at_call 21; refine (rbound_any _ _).mono ?_; rintro e w' ⟨rfl, rfl⟩) | (go_at_call 38; refine (near_any _ _ _ (by omega) (by omega) (by omega) (by omega)).mono ?_; rintro e w' ⟨rfl, rfl⟩))
    go_ret
    exact ⟨rfl, rfl⟩
end Go.Proofs.YtihcicijoeplkaaDoor
