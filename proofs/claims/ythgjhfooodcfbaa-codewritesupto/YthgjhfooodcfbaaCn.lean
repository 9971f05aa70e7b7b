/- Contracts: the small functions on numbers. -/
import Derived.Test.YthgjhfooodcfbaaProg
import Derived.Test.YthgjhfooodcfbaaCp
import Derived.Test.YthgjhfooodcfbaaAr
import Derived.Test.YthgjhfooodcfbaaMe
import Derived.KernelRfl
namespace Go.Proofs.Ythgjhfooodcfbaa
open Go.RowKit

theorem ret_int {k : IntKind} {a b : Int} (h : a = b) : Ending.returned (.int k a) = .returned (.int k b) := by rw [h]

theorem pick_any (c n : Int) (h1 : -9223372036854775808 ≤ c) (h2 : c ≤ 9223372036854775807) (h3 : 0 < n) (h4 : n ≤ 9223372036854775807) (w : World) :
    Calls Try.prog 8 #[.int .i64 c, .int .i64 n] w fun e w' => e = .returned (.int .i64 (Cp.pick c n)) ∧ w' = w := by
  by_cases hc : c < 0
  · have H : Hid (Cp.pick c n = -(c + 1).tmod n) := by unfold Cp.pick; rw [if_pos hc, ← Int.neg_tmod, Int.tmod_eq_emod_of_nonneg (by omega)]; exact rfl
    go_enter Try.func8, Try.ntmps8
    go_wp2
    go_ret
    exact ⟨ret_int (by rw [H.out]), rfl⟩
  · have H : Hid (Cp.pick c n = c % n) := by unfold Cp.pick; rw [if_neg hc]; exact rfl
    go_enter Try.func8, Try.ntmps8
    go_wp2
    go_ret
    exact ⟨ret_int (by rw [H.out]), rfl⟩

theorem fold_any (n : Int) (h1 : -9223372036854775808 ≤ n) (h2 : n ≤ 9223372036854775807) (w : World) :
    Calls Try.prog 43 #[.int .i64 n] w fun e w' => e = .returned (.int .u64 (Cp.fold n : Int)) ∧ w' = w := by
  have hsg : IntKind.i64.signed = true := rfl
  by_cases hc : n < 0
  · have H : Hid ((Cp.fold n : Int) = 2 * (-n - 1) + 1) := by unfold Cp.fold; rw [if_pos hc]; show ((_ : Nat) : Int) = _; omega
    have HX := not64 n h1 h2
    go_enter Try.func43, Try.ntmps43
    go_wp2
    go_ret
    exact ⟨ret_int (by have := H.out; first | omega | (simp only [IntKind.wrap_u64]; omega)), rfl⟩
  · have H : Hid ((Cp.fold n : Int) = 2 * n) := by unfold Cp.fold; rw [if_neg hc]; show ((_ : Nat) : Int) = _; omega
    go_enter Try.func43, Try.ntmps43
    go_wp2
    go_ret
    exact ⟨ret_int (by have := H.out; first | omega | (simp only [IntKind.wrap_u64]; omega)), rfl⟩

theorem turned_any (n : Int) (h1 : -9223372036854775808 ≤ n) (h2 : n ≤ 9223372036854775807) (w : World) :
    Calls Try.prog 31 #[.int .i64 n] w fun e w' => e = .returned (.int .u64 (Cp.fold n : Int)) ∧ w' = w := by
  by_cases hc : n < 0
  · have H : Hid ((Cp.fold n : Int) = 2 * (-n - 1) + 1) := by unfold Cp.fold; rw [if_pos hc]; show ((_ : Nat) : Int) = _; omega
    go_enter Try.func31, Try.ntmps31
    go_wp2
    go_ret
    exact ⟨ret_int (by have := H.out; first | omega | (simp only [IntKind.wrap_u64]; omega)), rfl⟩
  · have H : Hid ((Cp.fold n : Int) = 2 * n) := by unfold Cp.fold; rw [if_neg hc]; show ((_ : Nat) : Int) = _; omega
    go_enter Try.func31, Try.ntmps31
    go_wp2
    go_ret
    exact ⟨ret_int (by have := H.out; first | omega | (simp only [IntKind.wrap_u64]; omega)), rfl⟩

theorem unfold_any (n : Nat) (h : n < 18446744073709551616) (w : World) :
    Calls Try.prog 50 #[.int .u64 (n : Int)] w fun e w' => e = .returned (.int .i64 (Cp.unfold n)) ∧ w' = w := by
  have hsg : IntKind.i64.signed = true := rfl
  have hw : wrap64 ((n : Int) / 2) = (n : Int) / 2 := IntWalk.wrap64_in _ ⟨by omega, by omega⟩
  by_cases hc : n % 2 = 1
  · have H : Hid (Cp.unfold n = -1 - (n : Int) / 2) := by unfold Cp.unfold; rw [if_pos hc]; show _ = _; omega
    have hd : ((n : Int) % 2 == 1) = true := by simp; omega
    have HX := not64 ((n : Int) / 2) (by omega) (by omega)
    go_enter Try.func50, Try.ntmps50
    go_wp2
    go_ret
    exact ⟨ret_int (by rw [H.out]), rfl⟩
  · have H : Hid (Cp.unfold n = (n : Int) / 2) := by unfold Cp.unfold; rw [if_neg hc]; show _ = _; omega
    have hd : ((n : Int) % 2 == 1) = false := by simp; omega
    go_enter Try.func50, Try.ntmps50
    go_wp2
    go_ret
    exact ⟨ret_int (by rw [H.out]), rfl⟩

theorem back_any (n : Nat) (h : n < 18446744073709551616) (w : World) :
    Calls Try.prog 55 #[.int .u64 (n : Int)] w fun e w' => e = .returned (.int .i64 (Cp.unfold n)) ∧ w' = w := by
  have hw : wrap64 ((n : Int) / 2) = (n : Int) / 2 := IntWalk.wrap64_in _ ⟨by omega, by omega⟩
  by_cases hc : n % 2 = 1
  · have H : Hid (Cp.unfold n = -((n : Int) / 2) - 1) := by unfold Cp.unfold; rw [if_pos hc]; show _ = _; omega
    have hd : ((n : Int) % 2 == 1) = true := by simp; omega
    go_enter Try.func55, Try.ntmps55
    go_wp2
    go_ret
    exact ⟨ret_int (by rw [H.out]), rfl⟩
  · have H : Hid (Cp.unfold n = (n : Int) / 2) := by unfold Cp.unfold; rw [if_neg hc]; show _ = _; omega
    have hd : ((n : Int) % 2 == 1) = false := by simp; omega
    go_enter Try.func55, Try.ntmps55
    go_wp2
    go_ret
    exact ⟨ret_int (by rw [H.out]), rfl⟩
end Go.Proofs.Ythgjhfooodcfbaa
