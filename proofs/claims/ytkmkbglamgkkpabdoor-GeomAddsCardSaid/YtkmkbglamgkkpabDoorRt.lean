/- Contracts on plain numbers: the two roots, what a number counts as as a direction, sizes. -/
import Derived.Test.YtkmkbglamgkkpabDoorFx
import Derived.Laws.BitsLemmas
namespace Go.Proofs.YtkmkbglamgkkpabDoor
open Go.RowKit
open Pu Gp

theorem isqL_eq (n : Int) : isqF 32 0 n = isqL n := rfl
set_option maxHeartbeats 1000000 in
theorem root_any (n : Int) (w : World) : Calls Tryd.prog 32 #[.int .u64 n] w fun e w' => e = .returned (.int .i64 (isqL n)) ∧ w' = w := by
  have H32 := Lib.hid (isqL_eq n)
  go_enter Tryd.func32, Tryd.ntmps32
  go_wp2
  go_loop [3, 4] (fun r t => ∃ (k : Nat) (m : Int), k ≤ 32 ∧ 0 ≤ m ∧ m + 2 ^ k ≤ 4294967296 ∧ r = .int .u64 m ∧ t = .int .u64 (bitk k) ∧ isqF k m n = isqL n) (fun _ t => (intOf t).toNat)
  case atStart => exact ⟨32, 0, by omega, by omega, by decide, rfl, rfl, H32.out⟩
  case round =>
    obtain ⟨k, m, hk, hm, hmk, rfl, rfl, hi⟩ := hrel
    cases k with
    | zero =>
      have HI : Hid (m = isqL n) := hi
      clear hi
      have hz : bitk 0 = 0 := rfl
      have hm2 : m ≤ 4294967295 := by simp at hmk; omega
      rw [hz]
      clear hz hmk
      go_wp2
      go_ret
      exact ⟨ret_int HI.out, rfl⟩
    | succ k =>
      have hb : bitk (k + 1) = 2 ^ k := rfl
      have hh := bitk_half k
      have hp := pow_pos k
      have hd := pow_dbl k
      rw [hb]
      rw [isqF] at hi
      rw [hd] at hmk
      clear hb hd
      obtain ⟨B, hB⟩ : ∃ B : Int, (2 : Int) ^ k = B := ⟨_, rfl⟩
      rw [hB] at hi hh hp hmk ⊢
      have HB : Hid ((2 : Int) ^ k = B) := hB
      clear hB
      have HH : Hid (B / 2 = bitk k) := hh
      clear hh
      have s1 := sq_mono (a := m + B) (b := 4294967295) (by omega) (by omega)
      have s0 : 0 ≤ (m + B) * (m + B) := Int.mul_nonneg (by omega) (by omega)
      by_cases hc : (m + B) * (m + B) ≤ n
      · rw [if_pos hc] at hi
        have HI : Hid (isqF k (m + B) n = isqL n) := hi
        clear hi
        go_wp2
        go_round
        case rel => exact ⟨k, m + B, by omega, by omega, by rw [HB.out]; omega, rfl, by rw [← HH.out], HI.out⟩
        case measure => simp [intOf]; omega
      · rw [if_neg hc] at hi
        have HI : Hid (isqF k m n = isqL n) := hi
        clear hi
        go_wp2
        go_round
        case rel => exact ⟨k, m, by omega, by omega, by rw [HB.out]; omega, rfl, by rw [← HH.out], HI.out⟩
        case measure => simp [intOf]; omega

theorem and15 (n : Int) : bits .and .i64 n 15 = n % 16 := by
  have h15 : (BitVec.ofInt 64 15).toNat = 2 ^ 4 - 1 := by decide
  have key : (BitVec.ofInt 64 n &&& BitVec.ofInt 64 15).toNat = (n % ((2 ^ 64 : Nat) : Int)).toNat % 2 ^ 4 := by
    rw [BitVec.toNat_and, BitVec.toNat_ofInt, h15, Nat.and_two_pow_sub_one_eq_mod]
  show IntKind.i64.wrap ((BitVec.ofInt 64 n &&& BitVec.ofInt 64 15).toNat : Nat) = n % 16
  rw [key, IntKind.wrap_i64]
  omega
theorem counted_any (n : Int) (w : World) : Calls Tryd.prog 29 #[.int .i64 n] w fun e w' => e = .returned (.int .i64 (n % 16)) ∧ w' = w := by
  rw [← and15 n]
  go_enter Tryd.func29, Tryd.ntmps29
  go_wp2
  go_ret
  exact ⟨rfl, rfl⟩
theorem turn_any (d b : Int) (w : World) : Calls Tryd.prog 18 #[.int .i64 d, .int .i64 b] w fun e w' => e = .returned (.int .i64 ((d + b) % 16)) ∧ w' = w := by
  have l1 : 0 ≤ d % 16 := by omega
  have l2 : d % 16 < 16 := by omega
  have l3 : 0 ≤ b % 16 := by omega
  have l4 : b % 16 < 16 := by omega
  go_enter Tryd.func18, Tryd.ntmps18
  go_wp2_with (go_at_call 29; refine (counted_any _ _).mono ?_; rintro e w' ⟨rfl, rfl⟩)
  go_ret
  exact ⟨rfl, rfl⟩
theorem tmod_in (n : Int) : -16 < n.tmod 16 ∧ n.tmod 16 < 16 := by
  rcases Int.le_total 0 n with h | h
  · rw [Int.tmod_eq_emod_of_nonneg h]
    omega
  · have e : n.tmod 16 = -((-n) % 16) := by
      rw [← Int.tmod_eq_emod_of_nonneg (show 0 ≤ -n by omega), Int.neg_tmod]; omega
    omega
theorem size_any (n : Int) (w : World) : Calls Tryd.prog 24 #[.int .i64 n] w fun e w' => e = .returned (.int .i64 (clampf n 0 2147483647)) ∧ w' = w := by
  go_enter Tryd.func24, Tryd.ntmps24
  go_wp2_with (go_at_call 31; refine (clamp_any _ _ _ _).mono ?_; rintro e w' ⟨rfl, rfl⟩)
  go_ret
  exact ⟨rfl, rfl⟩
end Go.Proofs.YtkmkbglamgkkpabDoor
