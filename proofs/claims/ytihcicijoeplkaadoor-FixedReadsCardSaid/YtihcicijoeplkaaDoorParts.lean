/- Contracts of the quotients, whole parts, clamps, blends of package fixed and of the document's answer to them. -/
import Derived.Test.YtihcicijoeplkaaDoorMul
namespace Go.Proofs.YtihcicijoeplkaaDoor
open Go.ChangeShapes Go.WideShapes Go.ChangeAt Go.RowKit
open Pu

theorem ret_int2 {k l : IntKind} {a b c d : Int} (h : a = b) (h2 : c = d) : Ending.returned (.tuple #[.int k a, .int l c]) = .returned (.tuple #[.int k b, .int l d]) := by rw [h, h2]
theorem div_any (a b : Int) (w : World) : Calls Tryd.prog 10 #[.int .i64 a, .int .i64 b] w fun e w' => e = .returned (.tuple #[.int .i64 (divf a b), .int .i64 (dive b)]) ∧ w' = w := by
  have a1 := bnd_lo a
  have a2 := bnd_hi a
  have b1 := bnd_lo b
  have b2 := bnd_hi b
  have h3 : bnd b < 0 ∨ bnd b = 0 ∨ 0 < bnd b := by omega
  rcases h3 with h | h | h
  · have e : divf a b = bnd (rnd (-bnd a * 256) (-bnd b)) := by unfold divf divq; rw [if_neg (by omega), if_pos h]
    have e2 : dive b = 0 := by unfold dive; rw [if_neg (by omega)]
    rw [e, e2]; clear e e2
    go_enter Tryd.func10, Tryd.ntmps10
    go_wp2_with (first | (go_at_call 20; refine (bound_any _ _).mono ?_; rintro e w' ⟨rfl, rfl⟩) | (go_at_call 37; refine (rounded_any _ _ _ (by omega) (by omega) (by omega) (by omega)).mono ?_; rintro e w' ⟨rfl, rfl⟩))
    go_ret2
    exact ⟨rfl, rfl⟩
  · have e : divf a b = 0 := by unfold divf; rw [if_pos h]
    have e2 : dive b = 10 := by unfold dive; rw [if_pos h]
    rw [e, e2]; clear e e2
    go_enter Tryd.func10, Tryd.ntmps10
    go_wp2_with (first | (go_at_call 20; refine (bound_any _ _).mono ?_; rintro e w' ⟨rfl, rfl⟩) | (go_at_call 37; refine (rounded_any _ _ _ (by omega) (by omega) (by omega) (by omega)).mono ?_; rintro e w' ⟨rfl, rfl⟩))
    go_ret2
    exact ⟨rfl, rfl⟩
  · have e : divf a b = bnd (rnd (bnd a * 256) (bnd b)) := by unfold divf divq; rw [if_neg (by omega), if_neg (by omega)]
    have e2 : dive b = 0 := by unfold dive; rw [if_neg (by omega)]
    rw [e, e2]; clear e e2
    go_enter Tryd.func10, Tryd.ntmps10
    go_wp2_with (first | (go_at_call 20; refine (bound_any _ _).mono ?_; rintro e w' ⟨rfl, rfl⟩) | (go_at_call 37; refine (rounded_any _ _ _ (by omega) (by omega) (by omega) (by omega)).mono ?_; rintro e w' ⟨rfl, rfl⟩))
    go_ret2
    exact ⟨rfl, rfl⟩
theorem rdiv_any (a b : Int) (w : World) : Calls Tryd.prog 11 #[.int .i64 a, .int .i64 b] w fun e w' => e = .returned (.tuple #[.int .i64 (divf a b), .int .i64 (dive b)]) ∧ w' = w := by
  have a1 := bnd_lo a
  have a2 := bnd_hi a
  have b1 := bnd_lo b
  have b2 := bnd_hi b
  have h3 : bnd b < 0 ∨ bnd b = 0 ∨ 0 < bnd b := by omega
  rcases h3 with h | h | h
  · have e : divf a b = bnd (rnd (256 * -bnd a) (-bnd b)) := by unfold divf divq; rw [if_neg (by omega), if_pos h, Int.mul_comm]
    have e2 : dive b = 0 := by unfold dive; rw [if_neg (by omega)]
    rw [e, e2]; clear e e2
    go_enter Tryd.func11, Tryd.ntmps11
    go_wp2_with (first | (go_at_call 21; refine (rbound_any _ _).mono ?_; rintro e w' ⟨rfl, rfl⟩) | (go_at_call 38; refine (near_any _ _ _ (by omega) (by omega) (by omega) (by omega)).mono ?_; rintro e w' ⟨rfl, rfl⟩))
    go_ret2
    exact ⟨rfl, rfl⟩
  · have e : divf a b = 0 := by unfold divf; rw [if_pos h]
    have e2 : dive b = 10 := by unfold dive; rw [if_pos h]
    rw [e, e2]; clear e e2
    go_enter Tryd.func11, Tryd.ntmps11
    go_wp2_with (first | (go_at_call 21; refine (rbound_any _ _).mono ?_; rintro e w' ⟨rfl, rfl⟩) | (go_at_call 38; refine (near_any _ _ _ (by omega) (by omega) (by omega) (by omega)).mono ?_; rintro e w' ⟨rfl, rfl⟩))
    go_ret2
    exact ⟨rfl, rfl⟩
  · have e : divf a b = bnd (rnd (256 * bnd a) (bnd b)) := by unfold divf divq; rw [if_neg (by omega), if_neg (by omega), Int.mul_comm]
    have e2 : dive b = 0 := by unfold dive; rw [if_neg (by omega)]
    rw [e, e2]; clear e e2
    go_enter Tryd.func11, Tryd.ntmps11
    go_wp2_with (first | (go_at_call 21; refine (rbound_any _ _).mono ?_; rintro e w' ⟨rfl, rfl⟩) | (go_at_call 38; refine (near_any _ _ _ (by omega) (by omega) (by omega) (by omega)).mono ?_; rintro e w' ⟨rfl, rfl⟩))
    go_ret2
    exact ⟨rfl, rfl⟩
theorem whole_any (x : Int) (w : World) : Calls Tryd.prog 24 #[.int .i64 x] w fun e w' => e = .returned (.int .i64 (wholef x)) ∧ w' = w := by
  have a1 := bnd_lo x
  have a2 := bnd_hi x
  by_cases h : bnd x < 0
  · have e : wholef x = -((-bnd x + 256 - 1) / 256) := by unfold wholef; rw [whole_up h]
    rw [e]; clear e
    go_enter Tryd.func24, Tryd.ntmps24
    go_wp2_with (go_at_call 20; refine (bound_any _ _).mono ?_; rintro e w' ⟨rfl, rfl⟩)
    go_ret
    exact ⟨rfl, rfl⟩
  · have e : wholef x = bnd x / 256 := rfl
    rw [e]; clear e
    go_enter Tryd.func24, Tryd.ntmps24
    go_wp2_with (go_at_call 20; refine (bound_any _ _).mono ?_; rintro e w' ⟨rfl, rfl⟩)
    go_ret
    exact ⟨rfl, rfl⟩
theorem clamp_any (x l m : Int) (w : World) : Calls Tryd.prog 30 #[.int .i64 x, .int .i64 l, .int .i64 m] w fun e w' => e = .returned (.int .i64 (clampf x l m)) ∧ w' = w := by
  by_cases h1 : bnd x < bnd l
  · by_cases h2 : bnd m < bnd l
    · have e : clampf x l m = bnd m := by unfold clampf; rw [if_pos h1, if_pos h2]
      rw [e]; clear e
      go_enter Tryd.func30, Tryd.ntmps30
      go_wp2_with (go_at_call 20; refine (bound_any _ _).mono ?_; rintro e w' ⟨rfl, rfl⟩)
      go_ret
      exact ⟨rfl, rfl⟩
    · have e : clampf x l m = bnd l := by unfold clampf; rw [if_pos h1, if_neg h2]
      rw [e]; clear e
      go_enter Tryd.func30, Tryd.ntmps30
      go_wp2_with (go_at_call 20; refine (bound_any _ _).mono ?_; rintro e w' ⟨rfl, rfl⟩)
      go_ret
      exact ⟨rfl, rfl⟩
  · by_cases h2 : bnd m < bnd x
    · have e : clampf x l m = bnd m := by unfold clampf; rw [if_neg h1, if_pos h2]
      rw [e]; clear e
      go_enter Tryd.func30, Tryd.ntmps30
      go_wp2_with (go_at_call 20; refine (bound_any _ _).mono ?_; rintro e w' ⟨rfl, rfl⟩)
      go_ret
      exact ⟨rfl, rfl⟩
    · have e : clampf x l m = bnd x := by unfold clampf; rw [if_neg h1, if_neg h2]
      rw [e]; clear e
      go_enter Tryd.func30, Tryd.ntmps30
      go_wp2_with (go_at_call 20; refine (bound_any _ _).mono ?_; rintro e w' ⟨rfl, rfl⟩)
      go_ret
      exact ⟨rfl, rfl⟩
theorem clamp_t (t : Int) (w : World) : Calls Tryd.prog 30 #[.int .i64 t, .int .i64 0, .int .i64 256] w fun e w' => e = .returned (.int .i64 (tt t)) ∧ w' = w := by
  rw [← tt_clamp]; exact clamp_any t 0 256 w
theorem blend_any (a b t : Int) (w : World) : Calls Tryd.prog 28 #[.int .i64 a, .int .i64 b, .int .i64 t] w fun e w' => e = .returned (.int .i64 (blendf a b t)) ∧ w' = w := by
  have a1 := bnd_lo a
  have a2 := bnd_hi a
  have b1 := bnd_lo b
  have b2 := bnd_hi b
  obtain ⟨m1, m2⟩ := blend_bd a1 a2 b1 b2 (tt_lo t) (tt_hi t)
  have r := @rnd_bd ((bnd b - bnd a) * tt t) 256 (by omega)
  have r1 : -1099511627265 ≤ rnd ((bnd b - bnd a) * tt t) 256 := by omega
  have r2 : rnd ((bnd b - bnd a) * tt t) 256 ≤ 1099511627265 := by omega
  clear r
  go_enter Tryd.func28, Tryd.ntmps28
  go_wp2_with (first | (go_at_call 20; refine (bound_any _ _).mono ?_; rintro e w' ⟨rfl, rfl⟩) | (go_at_call 30; refine (clamp_t _ _).mono ?_; rintro e w' ⟨rfl, rfl⟩) | (go_at_call 37; refine (rounded_any _ _ _ (by omega) (by omega) (by omega) (by omega)).mono ?_; rintro e w' ⟨rfl, rfl⟩))
  go_ret
  exact ⟨rfl, rfl⟩
theorem root_any (x : Int) (w : World) : Calls Tryd.prog 18 #[.int .i64 x] w fun e w' => e = .returned (.tuple #[.int .i64 (if bnd x < 0 then 0 else isq (bnd x * 256)), .int .i64 (if bnd x < 0 then 11 else 0)]) ∧ w' = w := by
  have a1 := bnd_lo x
  have a2 := bnd_hi x
  by_cases h : bnd x < 0
  · rw [if_pos h, if_pos h]
    go_enter Tryd.func18, Tryd.ntmps18
    go_wp2_with (go_at_call 20; refine (bound_any _ _).mono ?_; rintro e w' ⟨rfl, rfl⟩)
    go_ret2
    exact ⟨rfl, rfl⟩
  · rw [if_neg h, if_neg h]
    go_enter Tryd.func18, Tryd.ntmps18
    go_wp2_with (go_at_call 20; refine (bound_any _ _).mono ?_; rintro e w' ⟨rfl, rfl⟩)
    go_loop [4, 5] (fun r t => ∃ (k : Nat) (m : Int), k ≤ 20 ∧ 0 ≤ m ∧ m + 2 ^ k ≤ 1048576 ∧ r = .int .i64 m ∧ t = .int .i64 (bitk k) ∧ isqF k m (bnd x * 256) = isq (bnd x * 256)) (fun _ t => (intOf t).toNat)
    case atStart => exact ⟨20, 0, by omega, by omega, by decide, rfl, rfl, rfl⟩
    case round =>
      obtain ⟨k, m, hk, hm, hmk, rfl, rfl, hi⟩ := hrel
      cases k with
      | zero =>
        have HI : Hid (m = isq (bnd x * 256)) := hi
        clear hi
        have hz : bitk 0 = 0 := rfl
        rw [hz]
        clear hz
        go_wp2
        go_ret2
        exact ⟨ret_int2 HI.out rfl, rfl⟩
      | succ k =>
        have hb : bitk (k + 1) = 2 ^ k := rfl
        have hh := bitk_half k
        have hp := pow_pos k
        have hd := pow_dbl k
        rw [hb]
        rw [isqF] at hi
        rw [hd] at hmk
        clear hb hd
        obtain ⟨B, hB⟩ : ∃ B : Int, (2 : Int) ^ k = B := ⟨_, rfl⟩
        rw [hB] at hi hh hp hmk ⊢
        have HB : Hid ((2 : Int) ^ k = B) := hB
        clear hB
        have HH : Hid (B / 2 = bitk k) := hh
        clear hh
        have s1 := sq_mono (a := m + B) (b := 1048576) (by omega) (by omega)
        have s0 : 0 ≤ (m + B) * (m + B) := Int.mul_nonneg (by omega) (by omega)
        by_cases hc : (m + B) * (m + B) ≤ bnd x * 256
        · rw [if_pos hc] at hi
          have HI : Hid (isqF k (m + B) (bnd x * 256) = isq (bnd x * 256)) := hi
          clear hi
          go_wp2
          go_round
          case rel => exact ⟨k, m + B, by omega, by omega, by rw [HB.out]; omega, rfl, by rw [← HH.out], HI.out⟩
          case measure => simp [intOf]; omega
        · rw [if_neg hc] at hi
          have HI : Hid (isqF k m (bnd x * 256) = isq (bnd x * 256)) := hi
          clear hi
          go_wp2
          go_round
          case rel => exact ⟨k, m, by omega, by omega, by rw [HB.out]; omega, rfl, by rw [← HH.out], HI.out⟩
          case measure => simp [intOf]; omega
end Go.Proofs.YtihcicijoeplkaaDoor
