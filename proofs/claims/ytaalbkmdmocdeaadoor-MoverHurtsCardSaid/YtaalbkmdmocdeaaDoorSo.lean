/- Maps: their blocks; contracts of the document's answer on cells. -/
import Derived.Test.YtaalbkmdmocdeaaDoorMt
import Derived.Test.YtaalbkmdmocdeaaDoorAp
import Derived.Lib.Strings
namespace Go.Proofs.YtaalbkmdmocdeaaDoor
open Go.RowKit
open Pu Gp Ap

/-- a map as a value -/
abbrev ar (C R : Int) (s : ByteArray) : Value := .agg #[.int .i64 C, .int .i64 R, .string s]
/-- block b holds a map -/
def Ab (w : World) (b : Nat) (C R : Int) (s : ByteArray) : Prop := w.heap[b]? = some (.cells #[.int .i64 C, .int .i64 R, .string s] 37 (0, 0))
theorem Ab.still {w w' : World} {b : Nat} {C R : Int} {s : ByteArray} (h : Ab w b C R s) (hs : Still w w') : Ab w' b C R s := hs.kept_still h
theorem Ab.cells {w : World} {b : Nat} {C R : Int} {s : ByteArray} (h : Ab w b C R s) :
    w.cell? ⟨b, 0, none⟩ = some (.int .i64 C) ∧ w.cell? ⟨b, 1, none⟩ = some (.int .i64 R) ∧ w.cell? ⟨b, 2, none⟩ = some (.string s) ∧ ∀ o, w.frozen? ⟨b, o, none⟩ = false := by
  refine ⟨?_, ?_, ?_, fun o => frozen_of_row w b o _ _ h⟩ <;> (rw [cell_of_row _ _ _ _ _ _ h]; rfl)
abbrev newA (w : World) (C R : Int) (s : ByteArray) : World := w.alloc (.cells #[.int .i64 C, .int .i64 R, .string s] 37)
theorem newA_ab (w : World) (C R : Int) (s : ByteArray) : Ab (newA w C R s) w.heap.size C R s := heap_alloc_new w _

theorem rdown_any (n : Int) (h0 : -9223372036854775808 ≤ n) (h1 : n ≤ 9223372036854775807) (w : World) : Calls Tryd.prog 92 #[.int .i64 n] w fun e w' => e = .returned (.int .i64 (dn n)) ∧ w' = w := by
  have e := dn_eq n
  have b : -2251799813685248 ≤ n.tdiv 4096 ∧ n.tdiv 4096 ≤ 2251799813685247 := by
    rcases Int.le_total 0 n with h | h
    · rw [Int.tdiv_eq_ediv_of_nonneg h]; omega
    · have e : n.tdiv 4096 = -((-n) / 4096) := by
        rw [← Int.tdiv_eq_ediv_of_nonneg (show 0 ≤ -n by omega), Int.neg_tdiv]; omega
      omega
  obtain ⟨b0, b1⟩ := b
  clear h0 h1
  by_cases h : n < n.tdiv 4096 * 4096
  · rw [if_pos h] at e
    rw [← e]
    clear e
    go_enter Tryd.func92, Tryd.ntmps92
    go_wp2
    go_ret
    exact ⟨rfl, rfl⟩
  · rw [if_neg h] at e
    rw [← e]
    clear e
    go_enter Tryd.func92, Tryd.ntmps92
    go_wp2
    go_ret
    exact ⟨rfl, rfl⟩
/-- the byte at n -/
def byt (s : ByteArray) (n : Nat) : Int := ((s.data.toList.getD n 0).toNat : Int)
theorem data_at (s : ByteArray) (n : Nat) (h : n < s.size) : s.data.toList[n]? = some s[n] := by
  rw [Array.getElem?_toList, Array.getElem?_eq_getElem h]; rfl
theorem byt_at (s : ByteArray) (n : Nat) (h : n < s.size) : ((s[n]'h).toNat : Int) = byt s n := by
  unfold byt
  rw [List.getD_eq_getElem?_getD, data_at s n h]
  rfl
theorem rsign_any (C R col row : Int) (s : ByteArray) (k : Nat) (h0 : 0 ≤ row * C) (hc : 0 ≤ col) (hk : row * C + col = (k : Int)) (hs : k < s.size) (hz : s.size ≤ 9223372036854775807) (w : World) :
    Calls Tryd.prog 113 #[ar C R s, .int .i64 col, .int .i64 row] w fun e w' => e = .returned (.int .u8 (byt s k)) ∧ Still w w' := by
  have e := byt_at s k hs
  have h1 : row * C ≤ 9223372036854775807 := by omega
  go_enter Tryd.func113, Tryd.ntmps113
  go_wp2_with fail
  go_ret
  exact ⟨rfl, Still.alloc w _⟩
/-- is a cell solid -/
def solB (C R : Int) (s : ByteArray) (col row : Int) : Bool := if col < 0 ∨ C ≤ col ∨ row < 0 ∨ R ≤ row then true else if (s.size : Int) ≤ row * C + col then true else byt s (row * C + col).toNat == 35
theorem sol_out {C R col row : Int} {s : ByteArray} (h : col < 0 ∨ C ≤ col ∨ row < 0 ∨ R ≤ row) : solB C R s col row = true := by unfold solB; rw [if_pos h]
theorem sol_end {C R col row : Int} {s : ByteArray} (h : (s.size : Int) ≤ row * C + col) : solB C R s col row = true := by
  unfold solB
  by_cases k : col < 0 ∨ C ≤ col ∨ row < 0 ∨ R ≤ row
  · rw [if_pos k]
  · rw [if_neg k, if_pos h]
theorem sol_at {C R col row : Int} {s : ByteArray} {k : Nat} (h : ¬ (col < 0 ∨ C ≤ col ∨ row < 0 ∨ R ≤ row)) (hk : row * C + col = (k : Int)) (hs : k < s.size) : solB C R s col row = (byt s k == 35) := by
  unfold solB
  rw [if_neg h, if_neg (by omega), hk]
  rfl
theorem rsol1 (C R col row : Int) (s : ByteArray) (h1 : col < 0) (w : World) : Calls Tryd.prog 110 #[ar C R s, .int .i64 col, .int .i64 row] w fun e w' => e = .returned (.bool true) ∧ Still w w' := by
  go_enter Tryd.func110, Tryd.ntmps110
  go_wp2_with fail
  go_ret
  exact ⟨rfl, Still.alloc w _⟩
theorem rsol2 (C R col row : Int) (s : ByteArray) (h1 : 0 ≤ col) (h2 : C ≤ col) (w : World) : Calls Tryd.prog 110 #[ar C R s, .int .i64 col, .int .i64 row] w fun e w' => e = .returned (.bool true) ∧ Still w w' := by
  go_enter Tryd.func110, Tryd.ntmps110
  go_wp2_with fail
  go_ret
  exact ⟨rfl, Still.alloc w _⟩
theorem rsol3 (C R col row : Int) (s : ByteArray) (h1 : 0 ≤ col) (h2 : col < C) (h3 : row < 0) (w : World) : Calls Tryd.prog 110 #[ar C R s, .int .i64 col, .int .i64 row] w fun e w' => e = .returned (.bool true) ∧ Still w w' := by
  go_enter Tryd.func110, Tryd.ntmps110
  go_wp2_with fail
  go_ret
  exact ⟨rfl, Still.alloc w _⟩
theorem rsol4 (C R col row : Int) (s : ByteArray) (h1 : 0 ≤ col) (h2 : col < C) (h3 : 0 ≤ row) (h4 : R ≤ row) (w : World) : Calls Tryd.prog 110 #[ar C R s, .int .i64 col, .int .i64 row] w fun e w' => e = .returned (.bool true) ∧ Still w w' := by
  go_enter Tryd.func110, Tryd.ntmps110
  go_wp2_with fail
  go_ret
  exact ⟨rfl, Still.alloc w _⟩
theorem rsol5 (C R col row : Int) (s : ByteArray) (h1 : 0 ≤ col) (h2 : col < C) (h3 : 0 ≤ row) (h4 : row < R) (h5 : (s.size : Int) < C) (h6 : 0 < row) (w : World) : Calls Tryd.prog 110 #[ar C R s, .int .i64 col, .int .i64 row] w fun e w' => e = .returned (.bool true) ∧ Still w w' := by
  go_enter Tryd.func110, Tryd.ntmps110
  go_wp2_with fail
  go_ret
  exact ⟨rfl, Still.alloc w _⟩
set_option maxHeartbeats 2000000 in
theorem rsol6 (C R col row : Int) (s : ByteArray) (h1 : 0 ≤ col) (h2 : col < C) (h3 : 0 ≤ row) (h4 : row < R) (h5 : ¬ ((s.size : Int) < C ∧ 0 < row)) (hz : s.size ≤ 281474976710656) (h6 : (s.size : Int) / C < row) (w : World) : Calls Tryd.prog 110 #[ar C R s, .int .i64 col, .int .i64 row] w fun e w' => e = .returned (.bool true) ∧ Still w w' := by
  have e : ((s.size : Nat) : Int).tdiv C = (s.size : Int) / C := Int.tdiv_eq_ediv_of_nonneg (by omega)
  have q0 : 0 ≤ (s.size : Int) / C := Int.ediv_nonneg (by omega) (by omega)
  have q1 : (s.size : Int) / C ≤ (s.size : Int) := Int.ediv_le_self _ (by omega)
  have hp : (decide ((s.size : Int) < C) = false) ∨ (decide ((s.size : Int) < C) = true ∧ decide (0 < row) = false) := by
    by_cases k : (s.size : Int) < C
    · exact .inr ⟨by simpa using k, by simp; omega⟩
    · exact .inl (by simpa using k)
  clear h5
  rcases hp with hp | ⟨hp, hp2⟩
  all_goals
    go_enter Tryd.func110, Tryd.ntmps110
    go_wp2_with fail
    go_ret
    exact ⟨rfl, Still.alloc w _⟩
set_option maxHeartbeats 2000000 in
theorem rsol7 (C R col row : Int) (s : ByteArray) (h1 : 0 ≤ col) (h2 : col < C) (h3 : 0 ≤ row) (h4 : row < R) (h5 : ¬ ((s.size : Int) < C ∧ 0 < row)) (hz : s.size ≤ 281474976710656) (h6 : row ≤ (s.size : Int) / C) (h7 : (s.size : Int) ≤ row * C + col) (c0 : C ≤ 9223372036854775807) (w : World) : Calls Tryd.prog 110 #[ar C R s, .int .i64 col, .int .i64 row] w fun e w' => e = .returned (.bool true) ∧ Still w w' := by
  have e : ((s.size : Nat) : Int).tdiv C = (s.size : Int) / C := Int.tdiv_eq_ediv_of_nonneg (by omega)
  have q0 : 0 ≤ (s.size : Int) / C := Int.ediv_nonneg (by omega) (by omega)
  have q1 : (s.size : Int) / C ≤ (s.size : Int) := Int.ediv_le_self _ (by omega)
  have hp : (decide ((s.size : Int) < C) = false) ∨ (decide ((s.size : Int) < C) = true ∧ decide (0 < row) = false) := by
    by_cases k : (s.size : Int) < C
    · exact .inr ⟨by simpa using k, by simp; omega⟩
    · exact .inl (by simpa using k)
  have m0 : 0 ≤ row * C := Int.mul_nonneg h3 (by omega)
  have m1 : row * C ≤ (s.size : Int) := Int.le_trans (Int.mul_le_mul_of_nonneg_right h6 (by omega)) (Int.ediv_mul_le _ (by omega))
  have m2 : row * C + col ≤ 9223372036854775807 := by
    by_cases k : (s.size : Int) < C
    · have : row = 0 := by omega
      subst this
      omega
    · omega
  clear h5
  rcases hp with hp | ⟨hp, hp2⟩
  all_goals
    go_enter Tryd.func110, Tryd.ntmps110
    go_wp2_with fail
    go_ret
    exact ⟨rfl, Still.alloc w _⟩
set_option maxHeartbeats 2000000 in
theorem rsol8 (C R col row : Int) (s : ByteArray) (h1 : 0 ≤ col) (h2 : col < C) (h3 : 0 ≤ row) (h4 : row < R) (h5 : ¬ ((s.size : Int) < C ∧ 0 < row)) (hz : s.size ≤ 281474976710656) (h6 : row ≤ (s.size : Int) / C) (k : Nat) (hk : row * C + col = (k : Int)) (hs : k < s.size) (w : World) : Calls Tryd.prog 110 #[ar C R s, .int .i64 col, .int .i64 row] w fun e w' => e = .returned (.bool (byt s k == 35)) ∧ Still w w' := by
  have e : ((s.size : Nat) : Int).tdiv C = (s.size : Int) / C := Int.tdiv_eq_ediv_of_nonneg (by omega)
  have q0 : 0 ≤ (s.size : Int) / C := Int.ediv_nonneg (by omega) (by omega)
  have q1 : (s.size : Int) / C ≤ (s.size : Int) := Int.ediv_le_self _ (by omega)
  have m0 : 0 ≤ row * C := Int.mul_nonneg h3 (by omega)
  have m1 : row * C ≤ (s.size : Int) := by omega
  have hks : (k : Int) < (s.size : Int) := by omega
  have hp : (decide ((s.size : Int) < C) = false) ∨ (decide ((s.size : Int) < C) = true ∧ decide (0 < row) = false) := by
    by_cases k : (s.size : Int) < C
    · exact .inr ⟨by simpa using k, by simp; omega⟩
    · exact .inl (by simpa using k)
  have HC := hid (fun u => rsign_any C R col row s k m0 h1 hk hs (by omega) u)
  clear h5
  rcases hp with hp | ⟨hp, hp2⟩
  all_goals
    go_enter Tryd.func110, Tryd.ntmps110
    go_wp2_with fail
    refine (HC.out _).mono ?_
    rintro e w1 ⟨rfl, h⟩
    go_wp2_with fail
    go_ret
    exact ⟨rfl, (Still.alloc w _).trans h⟩
theorem rsolid_any (C R col row : Int) (s : ByteArray) (hz : s.size ≤ 281474976710656) (hC : C ≤ 9223372036854775807) (w : World) : Calls Tryd.prog 110 #[ar C R s, .int .i64 col, .int .i64 row] w fun e w' => e = .returned (.bool (solB C R s col row)) ∧ Still w w' := by
  by_cases h1 : col < 0
  · rw [sol_out (by omega)]; exact rsol1 C R col row s h1 w
  by_cases h2 : C ≤ col
  · rw [sol_out (by omega)]; exact rsol2 C R col row s (by omega) h2 w
  by_cases h3 : row < 0
  · rw [sol_out (by omega)]; exact rsol3 C R col row s (by omega) (by omega) h3 w
  by_cases h4 : R ≤ row
  · rw [sol_out (by omega)]; exact rsol4 C R col row s (by omega) (by omega) (by omega) h4 w
  have n1 : 0 ≤ row * C := Int.mul_nonneg (by omega) (by omega)
  by_cases h5 : (s.size : Int) < C ∧ 0 < row
  · have : C * 1 ≤ C * row := Int.mul_le_mul_of_nonneg_left (by omega) (by omega)
    rw [Int.mul_comm C row] at this
    rw [sol_end (by omega)]
    exact rsol5 C R col row s (by omega) (by omega) (by omega) (by omega) h5.1 h5.2 w
  by_cases h6 : (s.size : Int) / C < row
  · have : (s.size : Int) < row * C := by
      have := Int.lt_mul_of_ediv_lt (show 0 < C by omega) h6
      exact this
    rw [sol_end (by omega)]
    exact rsol6 C R col row s (by omega) (by omega) (by omega) (by omega) h5 hz h6 w
  by_cases h7 : (s.size : Int) ≤ row * C + col
  · rw [sol_end h7]
    exact rsol7 C R col row s (by omega) (by omega) (by omega) (by omega) h5 hz (by omega) h7 hC w
  · obtain ⟨k, hk⟩ : ∃ k : Nat, row * C + col = (k : Int) := ⟨(row * C + col).toNat, by omega⟩
    rw [sol_at (k := k) (by omega) hk (by omega)]
    exact rsol8 C R col row s (by omega) (by omega) (by omega) (by omega) h5 hz (by omega) k hk (by omega) w
end Go.Proofs.YtaalbkmdmocdeaaDoor
