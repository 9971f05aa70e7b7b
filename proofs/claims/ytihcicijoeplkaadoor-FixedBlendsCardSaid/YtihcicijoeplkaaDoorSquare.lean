/- Contracts of the document's root. -/
import Derived.Test.YtihcicijoeplkaaDoorRef
namespace Go.Proofs.YtihcicijoeplkaaDoor
open Go.ChangeShapes Go.WideShapes Go.ChangeAt Go.RowKit
open Pu

set_option maxHeartbeats 1000000 in
theorem square_any (n : Int) (h0 : 0 ≤ n) (h1 : n < 1099511627776) (w : World) : Calls Tryd.prog 39 #[.int .i64 n] w fun e w' => e = .returned (.int .i64 (isq n)) ∧ w' = w := by
  have H32 := Lib.hid (isqF_more 12 n h1)
  go_enter Tryd.func39, Tryd.ntmps39
  go_wp2
  go_loop [3, 4] (fun r t => ∃ (k : Nat) (m : Int), k ≤ 32 ∧ 0 ≤ m ∧ m + 2 ^ k ≤ 4294967296 ∧ r = .int .i64 m ∧ t = .int .i64 (bitk k) ∧ isqF k m n = isq n) (fun _ t => (intOf t).toNat)
  case atStart => exact ⟨32, 0, by omega, by omega, by decide, rfl, rfl, H32.out⟩
  case round =>
    obtain ⟨k, m, hk, hm, hmk, rfl, rfl, hi⟩ := hrel
    cases k with
    | zero =>
      have HI : Hid (m = isq n) := hi
      clear hi
      have hz : bitk 0 = 0 := rfl
      rw [hz]
      clear hz
      go_wp2
      go_ret
      exact ⟨ret_int HI.out, rfl⟩
    | succ k =>
      have hb : bitk (k + 1) = 2 ^ k := rfl
      have hh := bitk_half k
      have hp := pow_pos k
      have hd := pow_dbl k
      rw [hb]
      rw [isqF] at hi
      rw [hd] at hmk
      clear hb hd
      obtain ⟨B, hB⟩ : ∃ B : Int, (2 : Int) ^ k = B := ⟨_, rfl⟩
      rw [hB] at hi hh hp hmk ⊢
      have HB : Hid ((2 : Int) ^ k = B) := hB
      clear hB
      have HH : Hid (B / 2 = bitk k) := hh
      clear hh
      by_cases hl : m + B ≤ 3037000499
      · have s1 := sq_mono (a := m + B) (b := 3037000499) (by omega) (by omega)
        have s0 : 0 ≤ (m + B) * (m + B) := Int.mul_nonneg (by omega) (by omega)
        by_cases hc : (m + B) * (m + B) ≤ n
        · rw [if_pos hc] at hi
          have HI : Hid (isqF k (m + B) n = isq n) := hi
          clear hi
          go_wp2
          go_round
          case rel => exact ⟨k, m + B, by omega, by omega, by rw [HB.out]; omega, rfl, by rw [← HH.out], HI.out⟩
          case measure => simp [intOf]; omega
        · rw [if_neg hc] at hi
          have HI : Hid (isqF k m n = isq n) := hi
          clear hi
          go_wp2
          go_round
          case rel => exact ⟨k, m, by omega, by omega, by rw [HB.out]; omega, rfl, by rw [← HH.out], HI.out⟩
          case measure => simp [intOf]; omega
      · have hc : ¬ (m + B) * (m + B) ≤ n := by
          have := sq_mono (a := 3037000499) (b := m + B) (by omega) (by omega)
          omega
        rw [if_neg hc] at hi
        have HI : Hid (isqF k m n = isq n) := hi
        clear hi hc
        go_wp2
        go_round
        case rel => exact ⟨k, m, by omega, by omega, by rw [HB.out]; omega, rfl, by rw [← HH.out], HI.out⟩
        case measure => simp [intOf]; omega
theorem rroot_any (x : Int) (w : World) : Calls Tryd.prog 19 #[.int .i64 x] w fun e w' => e = .returned (.tuple #[.int .i64 (if bnd x < 0 then 0 else isq (bnd x * 256)), .int .i64 (if bnd x < 0 then 11 else 0)]) ∧ w' = w := by
  have a1 := bnd_lo x
  have a2 := bnd_hi x
  by_cases h : bnd x < 0
  · rw [if_pos h, if_pos h]
    go_enter Tryd.func19, Tryd.ntmps19
    go_wp2_with (go_at_call 21; refine (rbound_any _ _).mono ?_; rintro e w' ⟨rfl, rfl⟩)
    go_ret2
    exact ⟨rfl, rfl⟩
  · rw [if_neg h, if_neg h, Int.mul_comm]
    go_enter Tryd.func19, Tryd.ntmps19
    go_wp2_with (first | (go_at_call 21; refine (rbound_any _ _).mono ?_; rintro e w' ⟨rfl, rfl⟩) | (go_at_call 39; refine (square_any _ (by omega) (by omega) _).mono ?_; rintro e w' ⟨rfl, rfl⟩))
    go_ret2
    exact ⟨rfl, rfl⟩
theorem awake_hid3 (w : World) (ht : Tab w) : Calls Tryd.prog 9 #[] w fun e w' => e = .returned (.bool true) ∧ Hid (Below w.heap.size w w') := awake_any w ht
def rootV (x : Int) : Int := if bnd x < 0 then 0 else isq (bnd x * 256)
def rootE (x : Int) : Int := if bnd x < 0 then 11 else 0
theorem root_v (x : Int) (w : World) : Calls Tryd.prog 18 #[.int .i64 x] w fun e w' => e = .returned (.tuple #[.int .i64 (rootV x), .int .i64 (rootE x)]) ∧ w' = w := root_any x w
theorem rroot_v (x : Int) (w : World) : Calls Tryd.prog 19 #[.int .i64 x] w fun e w' => e = .returned (.tuple #[.int .i64 (rootV x), .int .i64 (rootE x)]) ∧ w' = w := rroot_any x w
theorem parts_walk (a : Int) (_ : (Lit.int .i64 a).wf = true) (w : World) (ht : Tab w) :
    Calls Tryd.prog 4 #[.int .i64 a] w fun e w' => e = .returned (.bool true) ∧ Below w.heap.size w w' := by
  go_enter Tryd.func4, Tryd.ntmps4
  go_wp2_with (first
    | (go_at_call 9; refine (awake_hid3 _ ht).mono ?_; rintro e w1 ⟨rfl, HB⟩)
    | (go_at_call 18; refine (root_v _ _).mono ?_; rintro e w' ⟨rfl, rfl⟩)
    | (go_at_call 19; refine (rroot_v _ _).mono ?_; rintro e w' ⟨rfl, rfl⟩)
    | (go_at_call 20; refine (bound_any _ _).mono ?_; rintro e w' ⟨rfl, rfl⟩)
    | (go_at_call 21; refine (rbound_any _ _).mono ?_; rintro e w' ⟨rfl, rfl⟩)
    | (go_at_call 22; refine (of_any _ _).mono ?_; rintro e w' ⟨rfl, rfl⟩)
    | (go_at_call 23; refine (rof_any _ _).mono ?_; rintro e w' ⟨rfl, rfl⟩)
    | (go_at_call 24; refine (whole_any _ _).mono ?_; rintro e w' ⟨rfl, rfl⟩)
    | (go_at_call 25; refine (rwhole_any _ _).mono ?_; rintro e w' ⟨rfl, rfl⟩)
    | (go_at_call 26; refine (abs_any _ _).mono ?_; rintro e w' ⟨rfl, rfl⟩)
    | (go_at_call 27; refine (rabs_any _ _).mono ?_; rintro e w' ⟨rfl, rfl⟩))
  go_ret
  exact ⟨rfl, HB.out⟩
theorem blends_walk (a b t : Int) (_ : (Lit.int .i64 a).wf = true) (_ : (Lit.int .i64 b).wf = true) (_ : (Lit.int .i64 t).wf = true) (w : World) (ht : Tab w) :
    Calls Tryd.prog 5 #[.int .i64 a, .int .i64 b, .int .i64 t] w fun e w' => e = .returned (.bool true) ∧ Below w.heap.size w w' := by
  go_enter Tryd.func5, Tryd.ntmps5
  go_wp2_with (first
    | (go_at_call 9; refine (awake_hid3 _ ht).mono ?_; rintro e w1 ⟨rfl, HB⟩)
    | (go_at_call 28; refine (blend_any _ _ _ _).mono ?_; rintro e w' ⟨rfl, rfl⟩)
    | (go_at_call 29; refine (rblend_any _ _ _ _).mono ?_; rintro e w' ⟨rfl, rfl⟩)
    | (go_at_call 30; refine (clamp_any _ _ _ _).mono ?_; rintro e w' ⟨rfl, rfl⟩)
    | (go_at_call 31; refine (rclamp_any _ _ _ _).mono ?_; rintro e w' ⟨rfl, rfl⟩))
  go_ret
  exact ⟨rfl, HB.out⟩
end Go.Proofs.YtihcicijoeplkaaDoor
