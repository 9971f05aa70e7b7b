/- Which maps are formed: the program's answer, in full. -/
import Derived.Test.YtnoaomocdmkigabFw
namespace Go.Proofs.Ytnoaomocdmkigab
open Go.RowKit
open Pu Gp Ap

theorem within_is (n l m : Int) {t : Bool} (h : (decide (l ≤ n) && decide (n ≤ m)) = t) (w : World) : Calls Try.prog 53 #[.int .i64 n, .int .i64 l, .int .i64 m] w fun e w' => e = .returned (.bool t) ∧ w' = w := by
  rw [← h]; exact within_any n l m w
theorem form1 (C R : Int) (s : ByteArray) (h : shaB C R s = false) (w : World) : Calls Try.prog 39 #[ar C R s] w fun e w' => e = .returned (.bool false) ∧ Still w w' := by
  unfold shaB at h
  have h' := of_decide_eq_false h
  have hw : ((decide (3 ≤ C) && decide (C ≤ 32)) = false) ∨ ((decide (3 ≤ C) && decide (C ≤ 32)) = true ∧ (decide (3 ≤ R) && decide (R ≤ 24)) = false) ∨
      ((decide (3 ≤ C) && decide (C ≤ 32)) = true ∧ (decide (3 ≤ R) && decide (R ≤ 24)) = true ∧ ((s.size : Int) != C * R) = true ∧ 0 ≤ C * R ∧ C * R ≤ 768) := by
    by_cases x1 : 3 ≤ C ∧ C ≤ 32
    · by_cases x2 : 3 ≤ R ∧ R ≤ 24
      · have m0 : 0 ≤ C * R := Int.mul_nonneg (by omega) (by omega)
        have m1 : C * R ≤ 32 * 24 := Int.mul_le_mul (by omega) (by omega) (by omega) (by omega)
        have : ¬ (s.size : Int) = C * R := fun e => h' ⟨by omega, by omega, by omega, by omega, e⟩
        exact .inr (.inr ⟨by simpa using x1, by simpa using x2, by simpa using this, m0, by omega⟩)
      · exact .inr (.inl ⟨by simpa using x1, by simp; omega⟩)
    · exact .inl (by simp; omega)
  clear h h'
  have p := newA_ab w C R s
  obtain ⟨c0, c1, c2, cf⟩ := p.cells
  rcases hw with x1 | ⟨x1, x2⟩ | ⟨x1, x2, x3, m0, m1⟩
  · have H1 := hid (fun u => within_is C 3 32 x1 u)
    clear x1
    go_enter Try.func39, Try.ntmps39
    go_wp2_with (go_at_call 53; refine (H1.out _).mono ?_; rintro e w' ⟨he, hw⟩; rw [he, hw]; clear he hw w')
    go_ret
    exact ⟨rfl, Still.alloc w _⟩
  · have H1 := hid (fun u => within_is C 3 32 x1 u)
    have H2 := hid (fun u => within_is R 3 24 x2 u)
    clear x1 x2
    go_enter Try.func39, Try.ntmps39
    go_wp2_with fail
    refine (H1.out _).mono ?_; rintro e w' ⟨he, hw⟩; rw [he, hw]; clear he hw w'
    go_wp2_with fail
    refine (H2.out _).mono ?_; rintro e w' ⟨he, hw⟩; rw [he, hw]; clear he hw w'
    go_wp2_with fail
    go_ret
    exact ⟨rfl, Still.alloc w _⟩
  · have H1 := hid (fun u => within_is C 3 32 x1 u)
    have H2 := hid (fun u => within_is R 3 24 x2 u)
    clear x1 x2
    go_enter Try.func39, Try.ntmps39
    go_wp2_with fail
    refine (H1.out _).mono ?_; rintro e w' ⟨he, hw⟩; rw [he, hw]; clear he hw w'
    go_wp2_with fail
    refine (H2.out _).mono ?_; rintro e w' ⟨he, hw⟩; rw [he, hw]; clear he hw w'
    go_wp2_with fail
    go_ret
    exact ⟨rfl, Still.alloc w _⟩
set_option maxHeartbeats 1000000 in
theorem form2 (C R : Nat) (s : ByteArray) (h : shaB (C : Int) (R : Int) s = true) (w : World) : Calls Try.prog 39 #[ar (C : Int) (R : Int) s] w fun e w' => e = .returned (.bool (sgnsB s s.size && ((colsB C R s C && rowsB C R s R) && decide (spoN s s.size ≤ 16)))) ∧ Still w w' := by
  unfold shaB at h
  obtain ⟨h1, h2, h3, h4, h5⟩ := of_decide_eq_true h
  clear h
  have m0 : 0 ≤ (C : Int) * (R : Int) := Int.mul_nonneg (by omega) (by omega)
  have m1 : (C : Int) * (R : Int) ≤ 768 := by
    have : (C : Int) * (R : Int) ≤ 32 * 24 := Int.mul_le_mul h2 h4 (by omega) (by omega)
    omega
  have hz : s.size ≤ 768 := by omega
  have h5' : ((s.size : Int) != (C : Int) * (R : Int)) = false := by simpa using h5
  have H1 := hid (fun u => within_is (C : Int) 3 32 (t := true) (by simp; omega) u)
  have H2 := hid (fun u => within_is (R : Int) 3 24 (t := true) (by simp; omega) u)
  obtain ⟨b1, e1⟩ : ∃ b, sgnsB s s.size = b := ⟨_, rfl⟩
  obtain ⟨b2, e2⟩ : ∃ b, (colsB C R s C && rowsB C R s R) = b := ⟨_, rfl⟩
  have H3 : Hid (∀ u : World, Calls Try.prog 54 #[.string s] u fun e w' => e = .returned (.bool b1) ∧ w' = u) := hid (fun u => by
    have k := allSigns_any s (by omega) u
    rw [e1] at k
    exact k)
  have H4 : Hid (∀ u : World, Calls Try.prog 55 #[ar (C : Int) (R : Int) s] u fun e w' => e = .returned (.bool b2) ∧ Still u w') := hid (fun u => by
    have k := walledIn_any C R s (by omega) (by omega) (by omega) (by omega) hz u
    rw [e2] at k
    exact k)
  have H5 : Hid (∀ u : World, Calls Try.prog 56 #[.string s, .string ⟨#[42]⟩] u fun e w' => e = .returned (.int .i64 ((spoN s s.size : Nat) : Int)) ∧ w' = u) := hid (fun u => by
    have k := Try.strings_Count_one s 42 u
    rw [count_is s] at k
    exact k)
  rw [e1, e2]
  have sl := spo_le s s.size
  obtain ⟨n, en⟩ : ∃ n, spoN s s.size = n := ⟨_, rfl⟩
  rw [en] at H5 sl ⊢
  have hd : decide ((n : Int) ≤ 16) = decide (n ≤ 16) := decide_eq_decide.mpr (by omega)
  have HD := hid hd
  clear e1 e2 en h5 hd
  have p := newA_ab w (C : Int) (R : Int) s
  obtain ⟨c0, c1, c2, cf⟩ := p.cells
  have HS0 := hid (Still.alloc w (.cells #[.int .i64 (C : Int), .int .i64 (R : Int), .string s] 23))
  go_enter Try.func39, Try.ntmps39
  go_wp2_with fail
  refine (H1.out _).mono ?_; rintro e w' ⟨he, hw⟩; rw [he, hw]; clear he hw w'
  go_wp2_with fail
  refine (H2.out _).mono ?_; rintro e w' ⟨he, hw⟩; rw [he, hw]; clear he hw w'
  cases b1 with
  | false =>
    go_wp2_with (go_at_call 54; refine (H3.out _).mono ?_; rintro e w' ⟨he, hw⟩; rw [he, hw]; clear he hw w')
    go_ret
    exact ⟨rfl, HS0.out⟩
  | true =>
    go_wp2_with fail
    refine (H3.out _).mono ?_; rintro e w' ⟨he, hw⟩; rw [he, hw]; clear he hw w'
    go_wp2_with fail
    refine (H4.out _).mono ?_
    rintro e w2 ⟨rfl, h2⟩
    have p2 := p.still h2
    have HS2 := hid (HS0.out.trans h2)
    clear p h2 HS0 c0 c1 c2 cf
    obtain ⟨c0, c1, c2, cf⟩ := p2.cells
    cases b2 with
    | false =>
      go_wp2_with fail
      go_ret
      exact ⟨rfl, HS2.out⟩
    | true =>
      go_wp2_with fail
      refine (H5.out _).mono ?_; rintro e w' ⟨he, hw⟩; rw [he, hw]; clear he hw w'
      go_wp2_with fail
      go_ret
      exact ⟨ret_bool HD.out, HS2.out⟩
theorem formed_any (C R : Int) (s : ByteArray) (w : World) : Calls Try.prog 39 #[ar C R s] w fun e w' => e = .returned (.bool (forB C R s)) ∧ Still w w' := by
  unfold forB
  cases h : shaB C R s with
  | false => exact form1 C R s h w
  | true =>
    rw [Bool.true_and]
    have h' := h
    unfold shaB at h'
    obtain ⟨h1, h2, h3, h4, h5⟩ := of_decide_eq_true h'
    obtain ⟨c, rfl⟩ : ∃ c : Nat, C = c := ⟨C.toNat, by omega⟩
    obtain ⟨r, rfl⟩ : ∃ r : Nat, R = r := ⟨R.toNat, by omega⟩
    have q7 : s.size = c * r := by exact_mod_cast h5
    rw [good_is c r s (by omega) (by omega) q7]
    have k := form2 c r s h w
    rw [← Bool.and_assoc] at k
    exact k
theorem formed_is (C R : Int) (s : ByteArray) {t : Bool} (h : forB C R s = t) (w : World) : Calls Try.prog 39 #[ar C R s] w fun e w' => e = .returned (.bool t) ∧ Still w w' := by
  rw [← h]; exact formed_any C R s w
end Go.Proofs.Ytnoaomocdmkigab
