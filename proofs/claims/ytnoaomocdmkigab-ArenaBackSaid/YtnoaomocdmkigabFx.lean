/- Contracts of the plain functions of package fixed and of the document's answer to them, as stage 5 calls them: each returns the plain integer that the text Pu names, and changes nothing. -/
import Derived.Test.YtnoaomocdmkigabProg
import Derived.Test.YtnoaomocdmkigabGp
import Derived.WalkKit
import Derived.WalkLawsBesides
import Derived.Lib.Hide
namespace Go.Proofs.Ytnoaomocdmkigab
open Go.RowKit
open Pu

theorem ret_int {k : IntKind} {a b : Int} (h : a = b) : Ending.returned (.int k a) = .returned (.int k b) := by rw [h]
theorem bound_any (n : Int) (w : World) : Calls Try.prog 45 #[.int .i64 n] w fun e w' => e = .returned (.int .i64 (bnd n)) ∧ w' = w := by
  have h3 : n < -2147483647 ∨ (-2147483647 ≤ n ∧ n ≤ 2147483647) ∨ 2147483647 < n := by omega
  rcases h3 with h | ⟨h, h'⟩ | h
  · have e : bnd n = -2147483647 := bnd_below (by omega)
    rw [e]; clear e
    go_enter Try.func45, Try.ntmps45
    go_wp2
    go_ret
    exact ⟨rfl, rfl⟩
  · have e : bnd n = n := bnd_id h h'
    rw [e]; clear e
    go_enter Try.func45, Try.ntmps45
    go_wp2
    go_ret
    exact ⟨rfl, rfl⟩
  · have e : bnd n = 2147483647 := bnd_above (by omega)
    rw [e]; clear e
    go_enter Try.func45, Try.ntmps45
    go_wp2
    go_ret
    exact ⟨rfl, rfl⟩
theorem rbound_any (n : Int) (w : World) : Calls Try.prog 26 #[.int .i64 n] w fun e w' => e = .returned (.int .i64 (bnd n)) ∧ w' = w := by
  have h3 : n < -2147483647 ∨ (-2147483647 ≤ n ∧ n ≤ 2147483647) ∨ 2147483647 < n := by omega
  rcases h3 with h | ⟨h, h'⟩ | h
  · have e : bnd n = -2147483647 := bnd_below (by omega)
    rw [e]; clear e
    have h2 : ¬ 2147483647 < n := by omega
    go_enter Try.func26, Try.ntmps26
    go_wp2
    go_ret
    exact ⟨rfl, rfl⟩
  · have e : bnd n = n := bnd_id h h'
    rw [e]; clear e
    go_enter Try.func26, Try.ntmps26
    go_wp2
    go_ret
    exact ⟨rfl, rfl⟩
  · have e : bnd n = 2147483647 := bnd_above (by omega)
    rw [e]; clear e
    go_enter Try.func26, Try.ntmps26
    go_wp2
    go_ret
    exact ⟨rfl, rfl⟩
theorem add_any (a b : Int) (w : World) : Calls Try.prog 64 #[.int .i64 a, .int .i64 b] w fun e w' => e = .returned (.int .i64 (addf a b)) ∧ w' = w := by
  have a1 := bnd_lo a
  have a2 := bnd_hi a
  have b1 := bnd_lo b
  have b2 := bnd_hi b
  go_enter Try.func64, Try.ntmps64
  go_wp2_with (go_at_call 45; refine (bound_any _ _).mono ?_; rintro e w' ⟨rfl, rfl⟩)
  go_ret
  exact ⟨rfl, rfl⟩
theorem radd_any (a b : Int) (w : World) : Calls Try.prog 34 #[.int .i64 a, .int .i64 b] w fun e w' => e = .returned (.int .i64 (addf a b)) ∧ w' = w := by
  have a1 := bnd_lo a
  have a2 := bnd_hi a
  have b1 := bnd_lo b
  have b2 := bnd_hi b
  go_enter Try.func34, Try.ntmps34
  go_wp2_with (go_at_call 26; refine (rbound_any _ _).mono ?_; rintro e w' ⟨rfl, rfl⟩)
  go_ret
  exact ⟨rfl, rfl⟩
theorem sub_any (a b : Int) (w : World) : Calls Try.prog 74 #[.int .i64 a, .int .i64 b] w fun e w' => e = .returned (.int .i64 (subf a b)) ∧ w' = w := by
  have a1 := bnd_lo a
  have a2 := bnd_hi a
  have b1 := bnd_lo b
  have b2 := bnd_hi b
  go_enter Try.func74, Try.ntmps74
  go_wp2_with (go_at_call 45; refine (bound_any _ _).mono ?_; rintro e w' ⟨rfl, rfl⟩)
  go_ret
  exact ⟨rfl, rfl⟩
theorem rsub_any (a b : Int) (w : World) : Calls Try.prog 51 #[.int .i64 a, .int .i64 b] w fun e w' => e = .returned (.int .i64 (subf a b)) ∧ w' = w := by
  have a1 := bnd_lo a
  have a2 := bnd_hi a
  have b1 := bnd_lo b
  have b2 := bnd_hi b
  go_enter Try.func51, Try.ntmps51
  go_wp2_with (go_at_call 26; refine (rbound_any _ _).mono ?_; rintro e w' ⟨rfl, rfl⟩)
  go_ret
  exact ⟨rfl, rfl⟩
theorem clamp_any (x l m : Int) (w : World) : Calls Try.prog 73 #[.int .i64 x, .int .i64 l, .int .i64 m] w fun e w' => e = .returned (.int .i64 (clampf x l m)) ∧ w' = w := by
  by_cases h1 : bnd x < bnd l
  · by_cases h2 : bnd m < bnd l
    · have e : clampf x l m = bnd m := by unfold clampf; rw [if_pos h1, if_pos h2]
      rw [e]; clear e
      go_enter Try.func73, Try.ntmps73
      go_wp2_with (go_at_call 45; refine (bound_any _ _).mono ?_; rintro e w' ⟨rfl, rfl⟩)
      go_ret
      exact ⟨rfl, rfl⟩
    · have e : clampf x l m = bnd l := by unfold clampf; rw [if_pos h1, if_neg h2]
      rw [e]; clear e
      go_enter Try.func73, Try.ntmps73
      go_wp2_with (go_at_call 45; refine (bound_any _ _).mono ?_; rintro e w' ⟨rfl, rfl⟩)
      go_ret
      exact ⟨rfl, rfl⟩
  · by_cases h2 : bnd m < bnd x
    · have e : clampf x l m = bnd m := by unfold clampf; rw [if_neg h1, if_pos h2]
      rw [e]; clear e
      go_enter Try.func73, Try.ntmps73
      go_wp2_with (go_at_call 45; refine (bound_any _ _).mono ?_; rintro e w' ⟨rfl, rfl⟩)
      go_ret
      exact ⟨rfl, rfl⟩
    · have e : clampf x l m = bnd x := by unfold clampf; rw [if_neg h1, if_neg h2]
      rw [e]; clear e
      go_enter Try.func73, Try.ntmps73
      go_wp2_with (go_at_call 45; refine (bound_any _ _).mono ?_; rintro e w' ⟨rfl, rfl⟩)
      go_ret
      exact ⟨rfl, rfl⟩
theorem rclamp_any (x l m : Int) (w : World) : Calls Try.prog 11 #[.int .i64 x, .int .i64 l, .int .i64 m] w fun e w' => e = .returned (.int .i64 (clampf x l m)) ∧ w' = w := by
  by_cases h1 : bnd x < bnd l
  · by_cases h2 : bnd m < bnd l
    · have e : clampf x l m = bnd m := by unfold clampf; rw [if_pos h1, if_pos h2]
      rw [e]; clear e
      go_enter Try.func11, Try.ntmps11
      go_wp2_with (go_at_call 26; refine (rbound_any _ _).mono ?_; rintro e w' ⟨rfl, rfl⟩)
      go_ret
      exact ⟨rfl, rfl⟩
    · have e : clampf x l m = bnd l := by unfold clampf; rw [if_pos h1, if_neg h2]
      rw [e]; clear e
      go_enter Try.func11, Try.ntmps11
      go_wp2_with (go_at_call 26; refine (rbound_any _ _).mono ?_; rintro e w' ⟨rfl, rfl⟩)
      go_ret
      exact ⟨rfl, rfl⟩
  · by_cases h2 : bnd m < bnd x
    · have e : clampf x l m = bnd m := by unfold clampf; rw [if_neg h1, if_pos h2]
      rw [e]; clear e
      go_enter Try.func11, Try.ntmps11
      go_wp2_with (go_at_call 26; refine (rbound_any _ _).mono ?_; rintro e w' ⟨rfl, rfl⟩)
      go_ret
      exact ⟨rfl, rfl⟩
    · have e : clampf x l m = bnd x := by unfold clampf; rw [if_neg h1, if_neg h2]
      rw [e]; clear e
      go_enter Try.func11, Try.ntmps11
      go_wp2_with (go_at_call 26; refine (rbound_any _ _).mono ?_; rintro e w' ⟨rfl, rfl⟩)
      go_ret
      exact ⟨rfl, rfl⟩
end Go.Proofs.Ytnoaomocdmkigab
