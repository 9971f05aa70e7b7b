/- The walk of the law FixedNear. -/
import Derived.Test.YtihcicijoeplkabDoorAwake
import Derived.Test.YtihcicijoeplkabDoorPl
namespace Go.Proofs.YtihcicijoeplkabDoor
open Go.ChangeShapes Go.WideShapes Go.ChangeAt Go.RowKit
open Pu

theorem awake_hid (w : World) (ht : Tab w) : Calls Tryd.prog 6 #[] w fun e w' => e = .returned (.bool true) ∧ Hid (Below w.heap.size w w') := awake_any w ht
theorem inside_any (n : Int) (w : World) : Calls Tryd.prog 10 #[.int .i64 n] w fun e w' => e = .returned (.bool (insB n)) ∧ w' = w := by
  cases h : insB n with
  | true =>
    obtain ⟨h1, h2⟩ := insB_t h
    clear h
    go_enter Tryd.func10, Tryd.ntmps10
    go_wp2
    go_ret
    exact ⟨rfl, rfl⟩
  | false =>
    have h' := insB_f h
    clear h
    by_cases h1 : -2147483647 < n
    · have h2 : ¬ n < 2147483647 := by omega
      clear h'
      go_enter Tryd.func10, Tryd.ntmps10
      go_wp2
      go_ret
      exact ⟨rfl, rfl⟩
    · clear h'
      go_enter Tryd.func10, Tryd.ntmps10
      go_wp2
      go_ret
      exact ⟨rfl, rfl⟩
theorem size_any (n : Int) (w : World) (h1 : -9223372036854775807 ≤ n) (h2 : n ≤ 9223372036854775807) : Calls Tryd.prog 11 #[.int .i64 n] w fun e w' => e = .returned (.int .i64 (sizeI n)) ∧ w' = w := by
  by_cases h : n < 0
  · have e : sizeI n = -n := by unfold sizeI; rw [if_pos h]
    rw [e]; clear e
    go_enter Tryd.func11, Tryd.ntmps11
    go_wp2
    go_ret
    exact ⟨rfl, rfl⟩
  · have e : sizeI n = n := by unfold sizeI; rw [if_neg h]
    rw [e]; clear e
    go_enter Tryd.func11, Tryd.ntmps11
    go_wp2
    go_ret
    exact ⟨rfl, rfl⟩
theorem root_yes (a : Int) (h : 0 ≤ bnd a) (w : World) : Calls Tryd.prog 12 #[.int .i64 (bnd a)] w fun e w' => e = .returned (.tuple #[.int .i64 (isq (bnd a * 256)), .int .i64 0]) ∧ w' = w := by
  have := root_any (bnd a) w
  rwa [bnd_bnd, if_neg (by omega), if_neg (by omega)] at this
theorem root_no (a : Int) (h : bnd a < 0) (w : World) : Calls Tryd.prog 12 #[.int .i64 (bnd a)] w fun e w' => e = .returned (.tuple #[.int .i64 0, .int .i64 11]) ∧ w' = w := by
  have := root_any (bnd a) w
  rwa [bnd_bnd, if_pos h, if_pos h] at this

/-- what is known of the product, by whether it meets a bound. -/
def PF (a b : Int) : Prop := insB (mulf (bnd a) (bnd b)) = false ∨ insB (mulf (bnd a) (bnd b)) = true ∧ sizeI (256 * mulf (bnd a) (bnd b) - bnd a * bnd b) ≤ 128
/-- what is known of the quotient. -/
def QF (a b : Int) : Prop := (bnd b = 0 ∧ dive (bnd b) = 10 ∧ divf (bnd a) (bnd b) = 0) ∨ (bnd b ≠ 0 ∧ dive (bnd b) = 0 ∧ insB (divf (bnd a) (bnd b)) = false) ∨
  (bnd b ≠ 0 ∧ dive (bnd b) = 0 ∧ insB (divf (bnd a) (bnd b)) = true ∧ 2 * sizeI (divf (bnd a) (bnd b) * bnd b - 256 * bnd a) ≤ sizeI (bnd b))
theorem pf (a b : Int) : PF a b := by
  unfold PF
  cases h : insB (mulf (bnd a) (bnd b)) with
  | false => exact Or.inl rfl
  | true => exact Or.inr ⟨rfl, near_p (bnd_bnd a) (bnd_bnd b) h⟩
theorem qf (a b : Int) : QF a b := by
  unfold QF
  by_cases h0 : bnd b = 0
  · exact Or.inl ⟨h0, dive_no (bnd_bnd b) h0, divf_no (bnd_bnd b) h0⟩
  · cases h : insB (divf (bnd a) (bnd b)) with
    | false => exact Or.inr (Or.inl ⟨h0, dive_of (bnd_bnd b) h0, rfl⟩)
    | true => exact Or.inr (Or.inr ⟨h0, dive_of (bnd_bnd b) h0, rfl, near_q (bnd_bnd a) (bnd_bnd b) h0 h⟩)
theorem size_nn (n : Int) : 0 ≤ sizeI n := by unfold sizeI; split <;> omega

set_option maxHeartbeats 2000000 in
set_option maxRecDepth 100000 in
theorem near_walk (a b : Int) (_ : (Lit.int .i64 a).wf = true) (_ : (Lit.int .i64 b).wf = true) (w : World) (ht : Tab w) :
    Calls Tryd.prog 3 #[.int .i64 a, .int .i64 b] w fun e w' => e = .returned (.bool true) ∧ Below w.heap.size w w' := by
  have x1 := bnd_lo a
  have x2 := bnd_hi a
  have y1 := bnd_lo b
  have y2 := bnd_hi b
  have p1 : -2147483647 ≤ mulf (bnd a) (bnd b) := bnd_lo _
  have p2 : mulf (bnd a) (bnd b) ≤ 2147483647 := bnd_hi _
  have q1 := divf_lo (bnd a) (bnd b)
  have q2 := divf_hi (bnd a) (bnd b)
  obtain ⟨m1, m2⟩ := mul_bd x1 x2 y1 y2
  obtain ⟨n1, n2⟩ := mul_bd q1 q2 y1 y2
  have z1 := size_nn (divf (bnd a) (bnd b) * bnd b - 256 * bnd a)
  have z2 : sizeI (bnd b) ≤ 2147483647 := by unfold sizeI; split <;> omega
  have hp := pf a b
  have hq := qf a b
  unfold PF at hp
  unfold QF at hq
  by_cases hx : bnd a < 0
  · have hR := Lib.hid fun w => root_no a hx w
    rcases hp with hp | ⟨hp, hp2⟩ <;> rcases hq with ⟨k1, k2, k3⟩ | ⟨k1, k2, k3⟩ | ⟨k1, k2, k3, k4⟩
    · have k1' : (bnd b == 0) = true := by rw [k1]; rfl
      clear k1
      go_enter Tryd.func3, Tryd.ntmps3
      go_wp2_with (first
        | (go_at_call 6; refine (awake_hid _ ht).mono ?_; rintro e w1 ⟨rfl, HB⟩)
        | (go_at_call 7; refine (bound_any _ _).mono ?_; rintro e w' ⟨rfl, rfl⟩)
        | (go_at_call 8; refine (mul_any _ _ _).mono ?_; rintro e w' ⟨rfl, rfl⟩)
        | (go_at_call 9; refine (div_any _ _ _).mono ?_; rintro e w' ⟨rfl, rfl⟩)
        | (go_at_call 12; refine (hR.out _).mono ?_; rintro e w' ⟨rfl, rfl⟩)
        | (go_at_call 10; refine (inside_any _ _).mono ?_; rintro e w' ⟨rfl, rfl⟩)
        | (go_at_call 11; refine (size_any _ _ (by omega) (by omega)).mono ?_; rintro e w' ⟨rfl, rfl⟩))
      go_ret
      exact ⟨rfl, HB.out⟩
    · have k1' : (bnd b == 0) = false := by simpa using k1
      clear k1
      go_enter Tryd.func3, Tryd.ntmps3
      go_wp2_with (first
        | (go_at_call 6; refine (awake_hid _ ht).mono ?_; rintro e w1 ⟨rfl, HB⟩)
        | (go_at_call 7; refine (bound_any _ _).mono ?_; rintro e w' ⟨rfl, rfl⟩)
        | (go_at_call 8; refine (mul_any _ _ _).mono ?_; rintro e w' ⟨rfl, rfl⟩)
        | (go_at_call 9; refine (div_any _ _ _).mono ?_; rintro e w' ⟨rfl, rfl⟩)
        | (go_at_call 12; refine (hR.out _).mono ?_; rintro e w' ⟨rfl, rfl⟩)
        | (go_at_call 10; refine (inside_any _ _).mono ?_; rintro e w' ⟨rfl, rfl⟩)
        | (go_at_call 11; refine (size_any _ _ (by omega) (by omega)).mono ?_; rintro e w' ⟨rfl, rfl⟩))
      go_ret
      exact ⟨rfl, HB.out⟩
    · have k1' : (bnd b == 0) = false := by simpa using k1
      clear k1
      go_enter Tryd.func3, Tryd.ntmps3
      go_wp2_with (first
        | (go_at_call 6; refine (awake_hid _ ht).mono ?_; rintro e w1 ⟨rfl, HB⟩)
        | (go_at_call 7; refine (bound_any _ _).mono ?_; rintro e w' ⟨rfl, rfl⟩)
        | (go_at_call 8; refine (mul_any _ _ _).mono ?_; rintro e w' ⟨rfl, rfl⟩)
        | (go_at_call 9; refine (div_any _ _ _).mono ?_; rintro e w' ⟨rfl, rfl⟩)
        | (go_at_call 12; refine (hR.out _).mono ?_; rintro e w' ⟨rfl, rfl⟩)
        | (go_at_call 10; refine (inside_any _ _).mono ?_; rintro e w' ⟨rfl, rfl⟩)
        | (go_at_call 11; refine (size_any _ _ (by omega) (by omega)).mono ?_; rintro e w' ⟨rfl, rfl⟩))
      go_ret
      exact ⟨rfl, HB.out⟩
    · have k1' : (bnd b == 0) = true := by rw [k1]; rfl
      clear k1
      go_enter Tryd.func3, Tryd.ntmps3
      go_wp2_with (first
        | (go_at_call 6; refine (awake_hid _ ht).mono ?_; rintro e w1 ⟨rfl, HB⟩)
        | (go_at_call 7; refine (bound_any _ _).mono ?_; rintro e w' ⟨rfl, rfl⟩)
        | (go_at_call 8; refine (mul_any _ _ _).mono ?_; rintro e w' ⟨rfl, rfl⟩)
        | (go_at_call 9; refine (div_any _ _ _).mono ?_; rintro e w' ⟨rfl, rfl⟩)
        | (go_at_call 12; refine (hR.out _).mono ?_; rintro e w' ⟨rfl, rfl⟩)
        | (go_at_call 10; refine (inside_any _ _).mono ?_; rintro e w' ⟨rfl, rfl⟩)
        | (go_at_call 11; refine (size_any _ _ (by omega) (by omega)).mono ?_; rintro e w' ⟨rfl, rfl⟩))
      go_ret
      exact ⟨rfl, HB.out⟩
    · have k1' : (bnd b == 0) = false := by simpa using k1
      clear k1
      go_enter Tryd.func3, Tryd.ntmps3
      go_wp2_with (first
        | (go_at_call 6; refine (awake_hid _ ht).mono ?_; rintro e w1 ⟨rfl, HB⟩)
        | (go_at_call 7; refine (bound_any _ _).mono ?_; rintro e w' ⟨rfl, rfl⟩)
        | (go_at_call 8; refine (mul_any _ _ _).mono ?_; rintro e w' ⟨rfl, rfl⟩)
        | (go_at_call 9; refine (div_any _ _ _).mono ?_; rintro e w' ⟨rfl, rfl⟩)
        | (go_at_call 12; refine (hR.out _).mono ?_; rintro e w' ⟨rfl, rfl⟩)
        | (go_at_call 10; refine (inside_any _ _).mono ?_; rintro e w' ⟨rfl, rfl⟩)
        | (go_at_call 11; refine (size_any _ _ (by omega) (by omega)).mono ?_; rintro e w' ⟨rfl, rfl⟩))
      go_ret
      exact ⟨rfl, HB.out⟩
    · have k1' : (bnd b == 0) = false := by simpa using k1
      clear k1
      go_enter Tryd.func3, Tryd.ntmps3
      go_wp2_with (first
        | (go_at_call 6; refine (awake_hid _ ht).mono ?_; rintro e w1 ⟨rfl, HB⟩)
        | (go_at_call 7; refine (bound_any _ _).mono ?_; rintro e w' ⟨rfl, rfl⟩)
        | (go_at_call 8; refine (mul_any _ _ _).mono ?_; rintro e w' ⟨rfl, rfl⟩)
        | (go_at_call 9; refine (div_any _ _ _).mono ?_; rintro e w' ⟨rfl, rfl⟩)
        | (go_at_call 12; refine (hR.out _).mono ?_; rintro e w' ⟨rfl, rfl⟩)
        | (go_at_call 10; refine (inside_any _ _).mono ?_; rintro e w' ⟨rfl, rfl⟩)
        | (go_at_call 11; refine (size_any _ _ (by omega) (by omega)).mono ?_; rintro e w' ⟨rfl, rfl⟩))
      go_ret
      exact ⟨rfl, HB.out⟩
  · have hR := Lib.hid fun w => root_yes a (by omega) w
    obtain ⟨r0, r1, r2⟩ := isq_ok (N := bnd a * 256) (by omega) (by omega)
    have r3 := isq_le (N := bnd a * 256) (by omega) (by omega)
    have r4 := sq_mono (a := isq (bnd a * 256) + 1) (b := 1048577) (by omega) (by omega)
    have r7 : 256 * bnd a < (isq (bnd a * 256) + 1) * (isq (bnd a * 256) + 1) := by omega
    have r8 : isq (bnd a * 256) * isq (bnd a * 256) ≤ 256 * bnd a := by omega
    have r5 := Int.mul_nonneg r0 r0
    have r6 := Int.mul_nonneg (show 0 ≤ isq (bnd a * 256) + 1 by omega) (show 0 ≤ isq (bnd a * 256) + 1 by omega)
    rcases hp with hp | ⟨hp, hp2⟩ <;> rcases hq with ⟨k1, k2, k3⟩ | ⟨k1, k2, k3⟩ | ⟨k1, k2, k3, k4⟩
    · have k1' : (bnd b == 0) = true := by rw [k1]; rfl
      clear k1
      go_enter Tryd.func3, Tryd.ntmps3
      go_wp2_with (first
        | (go_at_call 6; refine (awake_hid _ ht).mono ?_; rintro e w1 ⟨rfl, HB⟩)
        | (go_at_call 7; refine (bound_any _ _).mono ?_; rintro e w' ⟨rfl, rfl⟩)
        | (go_at_call 8; refine (mul_any _ _ _).mono ?_; rintro e w' ⟨rfl, rfl⟩)
        | (go_at_call 9; refine (div_any _ _ _).mono ?_; rintro e w' ⟨rfl, rfl⟩)
        | (go_at_call 12; refine (hR.out _).mono ?_; rintro e w' ⟨rfl, rfl⟩)
        | (go_at_call 10; refine (inside_any _ _).mono ?_; rintro e w' ⟨rfl, rfl⟩)
        | (go_at_call 11; refine (size_any _ _ (by omega) (by omega)).mono ?_; rintro e w' ⟨rfl, rfl⟩))
      go_ret
      exact ⟨rfl, HB.out⟩
    · have k1' : (bnd b == 0) = false := by simpa using k1
      clear k1
      go_enter Tryd.func3, Tryd.ntmps3
      go_wp2_with (first
        | (go_at_call 6; refine (awake_hid _ ht).mono ?_; rintro e w1 ⟨rfl, HB⟩)
        | (go_at_call 7; refine (bound_any _ _).mono ?_; rintro e w' ⟨rfl, rfl⟩)
        | (go_at_call 8; refine (mul_any _ _ _).mono ?_; rintro e w' ⟨rfl, rfl⟩)
        | (go_at_call 9; refine (div_any _ _ _).mono ?_; rintro e w' ⟨rfl, rfl⟩)
        | (go_at_call 12; refine (hR.out _).mono ?_; rintro e w' ⟨rfl, rfl⟩)
        | (go_at_call 10; refine (inside_any _ _).mono ?_; rintro e w' ⟨rfl, rfl⟩)
        | (go_at_call 11; refine (size_any _ _ (by omega) (by omega)).mono ?_; rintro e w' ⟨rfl, rfl⟩))
      go_ret
      exact ⟨rfl, HB.out⟩
    · have k1' : (bnd b == 0) = false := by simpa using k1
      clear k1
      go_enter Tryd.func3, Tryd.ntmps3
      go_wp2_with (first
        | (go_at_call 6; refine (awake_hid _ ht).mono ?_; rintro e w1 ⟨rfl, HB⟩)
        | (go_at_call 7; refine (bound_any _ _).mono ?_; rintro e w' ⟨rfl, rfl⟩)
        | (go_at_call 8; refine (mul_any _ _ _).mono ?_; rintro e w' ⟨rfl, rfl⟩)
        | (go_at_call 9; refine (div_any _ _ _).mono ?_; rintro e w' ⟨rfl, rfl⟩)
        | (go_at_call 12; refine (hR.out _).mono ?_; rintro e w' ⟨rfl, rfl⟩)
        | (go_at_call 10; refine (inside_any _ _).mono ?_; rintro e w' ⟨rfl, rfl⟩)
        | (go_at_call 11; refine (size_any _ _ (by omega) (by omega)).mono ?_; rintro e w' ⟨rfl, rfl⟩))
      go_ret
      exact ⟨rfl, HB.out⟩
    · have k1' : (bnd b == 0) = true := by rw [k1]; rfl
      clear k1
      go_enter Tryd.func3, Tryd.ntmps3
      go_wp2_with (first
        | (go_at_call 6; refine (awake_hid _ ht).mono ?_; rintro e w1 ⟨rfl, HB⟩)
        | (go_at_call 7; refine (bound_any _ _).mono ?_; rintro e w' ⟨rfl, rfl⟩)
        | (go_at_call 8; refine (mul_any _ _ _).mono ?_; rintro e w' ⟨rfl, rfl⟩)
        | (go_at_call 9; refine (div_any _ _ _).mono ?_; rintro e w' ⟨rfl, rfl⟩)
        | (go_at_call 12; refine (hR.out _).mono ?_; rintro e w' ⟨rfl, rfl⟩)
        | (go_at_call 10; refine (inside_any _ _).mono ?_; rintro e w' ⟨rfl, rfl⟩)
        | (go_at_call 11; refine (size_any _ _ (by omega) (by omega)).mono ?_; rintro e w' ⟨rfl, rfl⟩))
      go_ret
      exact ⟨rfl, HB.out⟩
    · have k1' : (bnd b == 0) = false := by simpa using k1
      clear k1
      go_enter Tryd.func3, Tryd.ntmps3
      go_wp2_with (first
        | (go_at_call 6; refine (awake_hid _ ht).mono ?_; rintro e w1 ⟨rfl, HB⟩)
        | (go_at_call 7; refine (bound_any _ _).mono ?_; rintro e w' ⟨rfl, rfl⟩)
        | (go_at_call 8; refine (mul_any _ _ _).mono ?_; rintro e w' ⟨rfl, rfl⟩)
        | (go_at_call 9; refine (div_any _ _ _).mono ?_; rintro e w' ⟨rfl, rfl⟩)
        | (go_at_call 12; refine (hR.out _).mono ?_; rintro e w' ⟨rfl, rfl⟩)
        | (go_at_call 10; refine (inside_any _ _).mono ?_; rintro e w' ⟨rfl, rfl⟩)
        | (go_at_call 11; refine (size_any _ _ (by omega) (by omega)).mono ?_; rintro e w' ⟨rfl, rfl⟩))
      go_ret
      exact ⟨rfl, HB.out⟩
    · have k1' : (bnd b == 0) = false := by simpa using k1
      clear k1
      go_enter Tryd.func3, Tryd.ntmps3
      go_wp2_with (first
        | (go_at_call 6; refine (awake_hid _ ht).mono ?_; rintro e w1 ⟨rfl, HB⟩)
        | (go_at_call 7; refine (bound_any _ _).mono ?_; rintro e w' ⟨rfl, rfl⟩)
        | (go_at_call 8; refine (mul_any _ _ _).mono ?_; rintro e w' ⟨rfl, rfl⟩)
        | (go_at_call 9; refine (div_any _ _ _).mono ?_; rintro e w' ⟨rfl, rfl⟩)
        | (go_at_call 12; refine (hR.out _).mono ?_; rintro e w' ⟨rfl, rfl⟩)
        | (go_at_call 10; refine (inside_any _ _).mono ?_; rintro e w' ⟨rfl, rfl⟩)
        | (go_at_call 11; refine (size_any _ _ (by omega) (by omega)).mono ?_; rintro e w' ⟨rfl, rfl⟩))
      go_ret
      exact ⟨rfl, HB.out⟩
end Go.Proofs.YtihcicijoeplkabDoor
