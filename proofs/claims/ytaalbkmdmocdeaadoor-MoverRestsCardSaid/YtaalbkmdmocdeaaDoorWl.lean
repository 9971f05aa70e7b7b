/- Walls: the program's cells, Solid. -/
import Derived.Test.YtaalbkmdmocdeaaDoorTo
namespace Go.Proofs.YtaalbkmdmocdeaaDoor
open Go.RowKit
open Pu Gp Ap

theorem and4095 (n : Int) : bits .and .i64 n 4095 = n % 4096 := by
  have h15 : (BitVec.ofInt 64 4095).toNat = 2 ^ 12 - 1 := by decide
  have key : (BitVec.ofInt 64 n &&& BitVec.ofInt 64 4095).toNat = (n % ((2 ^ 64 : Nat) : Int)).toNat % 2 ^ 12 := by
    rw [BitVec.toNat_and, BitVec.toNat_ofInt, h15, Nat.and_two_pow_sub_one_eq_mod]
  show IntKind.i64.wrap ((BitVec.ofInt 64 n &&& BitVec.ofInt 64 4095).toNat : Nat) = n % 4096
  rw [key, IntKind.wrap_i64]
  omega
theorem incell_any (n : Int) (w : World) : Calls Tryd.prog 79 #[.int .i64 n] w fun e w' => e = .returned (.int .i64 (n % 4096)) ∧ w' = w := by
  rw [← and4095 n]
  go_enter Tryd.func79, Tryd.ntmps79
  go_wp2
  go_ret
  exact ⟨rfl, rfl⟩
theorem dn_tdiv (n : Int) : (n - n % 4096).tdiv 4096 = dn n := by
  unfold dn
  have e : n - n % 4096 = n / 4096 * 4096 := by omega
  rw [e, Int.mul_tdiv_cancel _ (by omega)]
theorem sol1 (C R col row : Int) (s : ByteArray) (h : col < 0 ∨ C ≤ col ∨ row < 0 ∨ R ≤ row) (w : World) : Calls Tryd.prog 46 #[ar C R s, .int .i64 col, .int .i64 row] w fun e w' => e = .returned (.bool true) ∧ Still w w' := by
  have ho' : (decide (col < 0) = true) ∨ (decide (col < 0) = false ∧ decide (C ≤ col) = true) ∨ (decide (col < 0) = false ∧ decide (C ≤ col) = false ∧ decide (row < 0) = true) ∨ (decide (col < 0) = false ∧ decide (C ≤ col) = false ∧ decide (row < 0) = false ∧ decide (R ≤ row) = true) := by
    by_cases x1 : col < 0
    · exact .inl (by simpa using x1)
    by_cases x2 : C ≤ col
    · exact .inr (.inl ⟨by simpa using x1, by simpa using x2⟩)
    by_cases x3 : row < 0
    · exact .inr (.inr (.inl ⟨by simpa using x1, by simpa using x2, by simpa using x3⟩))
    · exact .inr (.inr (.inr ⟨by simpa using x1, by simpa using x2, by simpa using x3, by simp; omega⟩))
  clear h
  rcases ho' with x1 | ⟨x1, x2⟩ | ⟨x1, x2, x3⟩ | ⟨x1, x2, x3, x4⟩
  all_goals
    go_enter Tryd.func46, Tryd.ntmps46
    go_wp2_with fail
    go_ret
    exact ⟨rfl, Still.alloc w _⟩
theorem sol2 (C R col row : Int) (s : ByteArray) (h1 : 0 ≤ col) (h2 : col < C) (h3 : 0 ≤ row) (h4 : row < R) (h5 : (s.size : Int) ≤ col) (w : World) : Calls Tryd.prog 46 #[ar C R s, .int .i64 col, .int .i64 row] w fun e w' => e = .returned (.bool true) ∧ Still w w' := by
  go_enter Tryd.func46, Tryd.ntmps46
  go_wp2_with fail
  go_ret
  exact ⟨rfl, Still.alloc w _⟩
set_option maxHeartbeats 2000000 in
theorem sol3 (C R col row : Int) (s : ByteArray) (h1 : 0 ≤ col) (h2 : col < C) (h3 : 0 ≤ row) (h4 : row < R) (h5 : col < (s.size : Int)) (hz : s.size ≤ 281474976710656) (h6 : ((s.size : Int) - 1 - col) / C < row) (w : World) : Calls Tryd.prog 46 #[ar C R s, .int .i64 col, .int .i64 row] w fun e w' => e = .returned (.bool true) ∧ Still w w' := by
  have e : ((s.size : Int) - 1 - col).tdiv C = ((s.size : Int) - 1 - col) / C := Int.tdiv_eq_ediv_of_nonneg (by omega)
  have q0 : 0 ≤ ((s.size : Int) - 1 - col) / C := Int.ediv_nonneg (by omega) (by omega)
  have q1 : ((s.size : Int) - 1 - col) / C ≤ (s.size : Int) - 1 - col := Int.ediv_le_self _ (by omega)
  go_enter Tryd.func46, Tryd.ntmps46
  go_wp2_with fail
  go_ret
  exact ⟨rfl, Still.alloc w _⟩
set_option maxHeartbeats 2000000 in
theorem sol4 (C R col row : Int) (s : ByteArray) (h1 : 0 ≤ col) (h2 : col < C) (h3 : 0 ≤ row) (h4 : row < R) (h5 : col < (s.size : Int)) (hz : s.size ≤ 281474976710656) (h6 : row ≤ ((s.size : Int) - 1 - col) / C) (k : Nat) (hk : row * C + col = (k : Int)) (hs : k < s.size) (w : World) : Calls Tryd.prog 46 #[ar C R s, .int .i64 col, .int .i64 row] w fun e w' => e = .returned (.bool (byt s k == 35)) ∧ Still w w' := by
  have e : ((s.size : Int) - 1 - col).tdiv C = ((s.size : Int) - 1 - col) / C := Int.tdiv_eq_ediv_of_nonneg (by omega)
  have q0 : 0 ≤ ((s.size : Int) - 1 - col) / C := Int.ediv_nonneg (by omega) (by omega)
  have q1 : ((s.size : Int) - 1 - col) / C ≤ (s.size : Int) - 1 - col := Int.ediv_le_self _ (by omega)
  have m0 : 0 ≤ row * C := Int.mul_nonneg h3 (by omega)
  have m1 : row * C ≤ (s.size : Int) := by omega
  have hks : (k : Int) < (s.size : Int) := by omega
  have eb := byt_at s k hs
  go_enter Tryd.func46, Tryd.ntmps46
  go_wp2_with fail
  go_ret
  exact ⟨rfl, Still.alloc w _⟩
theorem solid_any (C R col row : Int) (s : ByteArray) (hz : s.size ≤ 281474976710656) (w : World) : Calls Tryd.prog 46 #[ar C R s, .int .i64 col, .int .i64 row] w fun e w' => e = .returned (.bool (solB C R s col row)) ∧ Still w w' := by
  by_cases h : col < 0 ∨ C ≤ col ∨ row < 0 ∨ R ≤ row
  · rw [sol_out h]; exact sol1 C R col row s h w
  have n1 : 0 ≤ row * C := Int.mul_nonneg (by omega) (by omega)
  by_cases h5 : (s.size : Int) ≤ col
  · rw [sol_end (by omega)]
    exact sol2 C R col row s (by omega) (by omega) (by omega) (by omega) h5 w
  by_cases h6 : ((s.size : Int) - 1 - col) / C < row
  · have : (s.size : Int) - 1 - col < row * C := Int.lt_mul_of_ediv_lt (show 0 < C by omega) h6
    rw [sol_end (by omega)]
    exact sol3 C R col row s (by omega) (by omega) (by omega) (by omega) (by omega) hz h6 w
  · have m1 : row * C ≤ (s.size : Int) - 1 - col := Int.le_trans (Int.mul_le_mul_of_nonneg_right (show row ≤ ((s.size : Int) - 1 - col) / C by omega) (by omega)) (Int.ediv_mul_le _ (by omega))
    obtain ⟨k, hk⟩ : ∃ k : Nat, row * C + col = (k : Int) := ⟨(row * C + col).toNat, by omega⟩
    rw [sol_at (k := k) h hk (by omega)]
    exact sol4 C R col row s (by omega) (by omega) (by omega) (by omega) (by omega) hz (by omega) k hk (by omega) w
theorem solid_is (C R col row : Int) (s : ByteArray) (hz : s.size ≤ 281474976710656) {t : Bool} (h : solB C R s col row = t) (w : World) : Calls Tryd.prog 46 #[ar C R s, .int .i64 col, .int .i64 row] w fun e w' => e = .returned (.bool t) ∧ Still w w' := by
  have := solid_any C R col row s hz w
  rw [h] at this
  exact this
end Go.Proofs.YtaalbkmdmocdeaaDoor
