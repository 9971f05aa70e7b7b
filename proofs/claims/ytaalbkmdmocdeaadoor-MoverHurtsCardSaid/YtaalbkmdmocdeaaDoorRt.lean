/- Contracts on plain numbers: the two roots, what a number counts as as a direction, sizes. -/
import Derived.Test.YtaalbkmdmocdeaaDoorFx
import Derived.Laws.BitsLemmas
namespace Go.Proofs.YtaalbkmdmocdeaaDoor
open Go.RowKit
open Pu Gp

theorem isqL_eq (n : Int) : isqF 32 0 n = isqL n := rfl
theorem and15 (n : Int) : bits .and .i64 n 15 = n % 16 := by
  have h15 : (BitVec.ofInt 64 15).toNat = 2 ^ 4 - 1 := by decide
  have key : (BitVec.ofInt 64 n &&& BitVec.ofInt 64 15).toNat = (n % ((2 ^ 64 : Nat) : Int)).toNat % 2 ^ 4 := by
    rw [BitVec.toNat_and, BitVec.toNat_ofInt, h15, Nat.and_two_pow_sub_one_eq_mod]
  show IntKind.i64.wrap ((BitVec.ofInt 64 n &&& BitVec.ofInt 64 15).toNat : Nat) = n % 16
  rw [key, IntKind.wrap_i64]
  omega
theorem counted_any (n : Int) (w : World) : Calls Tryd.prog 51 #[.int .i64 n] w fun e w' => e = .returned (.int .i64 (n % 16)) ∧ w' = w := by
  rw [← and15 n]
  go_enter Tryd.func51, Tryd.ntmps51
  go_wp2
  go_ret
  exact ⟨rfl, rfl⟩
theorem turn_any (d b : Int) (w : World) : Calls Tryd.prog 25 #[.int .i64 d, .int .i64 b] w fun e w' => e = .returned (.int .i64 ((d + b) % 16)) ∧ w' = w := by
  have l1 : 0 ≤ d % 16 := by omega
  have l2 : d % 16 < 16 := by omega
  have l3 : 0 ≤ b % 16 := by omega
  have l4 : b % 16 < 16 := by omega
  go_enter Tryd.func25, Tryd.ntmps25
  go_wp2_with (go_at_call 51; refine (counted_any _ _).mono ?_; rintro e w' ⟨rfl, rfl⟩)
  go_ret
  exact ⟨rfl, rfl⟩
theorem tmod_in (n : Int) : -16 < n.tmod 16 ∧ n.tmod 16 < 16 := by
  rcases Int.le_total 0 n with h | h
  · rw [Int.tmod_eq_emod_of_nonneg h]
    omega
  · have e : n.tmod 16 = -((-n) % 16) := by
      rw [← Int.tmod_eq_emod_of_nonneg (show 0 ≤ -n by omega), Int.neg_tmod]; omega
    omega
theorem direction_any (n : Int) (w : World) : Calls Tryd.prog 27 #[.int .i64 n] w fun e w' => e = .returned (.int .i64 (n % 16)) ∧ w' = w := by
  have e := dir_eq n
  have b1 : -16 < n.tmod 16 ∧ n.tmod 16 < 16 := tmod_in n
  obtain ⟨b1, b2⟩ := b1
  by_cases h : n.tmod 16 < 0
  · rw [if_pos h] at e
    rw [← e]
    clear e
    go_enter Tryd.func27, Tryd.ntmps27
    go_wp2
    go_ret
    exact ⟨rfl, rfl⟩
  · rw [if_neg h] at e
    rw [← e]
    clear e
    go_enter Tryd.func27, Tryd.ntmps27
    go_wp2
    go_ret
    exact ⟨rfl, rfl⟩
theorem size_any (n : Int) (w : World) : Calls Tryd.prog 47 #[.int .i64 n] w fun e w' => e = .returned (.int .i64 (clampf n 0 2147483647)) ∧ w' = w := by
  go_enter Tryd.func47, Tryd.ntmps47
  go_wp2_with (go_at_call 80; refine (clamp_any _ _ _ _).mono ?_; rintro e w' ⟨rfl, rfl⟩)
  go_ret
  exact ⟨rfl, rfl⟩
end Go.Proofs.YtaalbkmdmocdeaaDoor
