/- Plain integers: what the laws FixedNear, FixedBetween, FixedSigns ask. No program is named here. -/
import Derived.Test.YtihcicijoeplkabDoorPu
namespace Go.Proofs.YtihcicijoeplkabDoor.Pu

def sizeI (n : Int) : Int := if n < 0 then -n else n
theorem insB_bnd {n : Int} (h : insB (bnd n) = true) : bnd n = n := by
  obtain ⟨h1, h2⟩ := insB_t h
  unfold bnd at *
  repeat' split
  all_goals first | omega | (split at h1 <;> omega)
theorem near_p {x y : Int} (hx : bnd x = x) (hy : bnd y = y) (h : insB (mulf x y) = true) : sizeI (256 * mulf x y - x * y) ≤ 128 := by
  unfold mulf at *
  rw [hx, hy] at *
  rw [insB_bnd h]
  generalize x * y = n
  unfold sizeI rnd
  repeat' split
  all_goals omega
theorem quo_near {n d : Int} (hd : 1 ≤ d) : 2 * sizeI ((n + d / 2) / d * d - n) ≤ d := by
  have h1 := Int.emod_add_mul_ediv (n + d / 2) d
  have h2 := Int.emod_nonneg (n + d / 2) (show d ≠ 0 by omega)
  have h3 := Int.emod_lt_of_pos (n + d / 2) (show 0 < d by omega)
  rw [Int.mul_comm] at h1
  unfold sizeI
  split <;> omega
theorem rnd_near {n d : Int} (hd : 1 ≤ d) : 2 * sizeI (rnd n d * d - n) ≤ d := by
  by_cases h : n < 0
  · have := @quo_near (-n) d hd
    rw [rnd_below h, Int.neg_mul]
    unfold sizeI at *
    split <;> split at this <;> omega
  · rw [rnd_nn (by omega)]; exact quo_near hd
theorem near_q {x y : Int} (hx : bnd x = x) (hy : bnd y = y) (h0 : y ≠ 0) (h : insB (divf x y) = true) : 2 * sizeI (divf x y * y - 256 * x) ≤ sizeI y := by
  unfold divf divq at *
  rw [hx, hy, if_neg h0] at *
  by_cases hn : y < 0
  · rw [if_pos hn] at *
    rw [insB_bnd h]
    have := @rnd_near (-x * 256) (-y) (by omega)
    rw [Int.mul_neg] at this
    unfold sizeI at *
    rw [if_pos hn]
    split <;> split at this <;> omega
  · rw [if_neg hn] at *
    rw [insB_bnd h]
    have := @rnd_near (x * 256) y (by omega)
    unfold sizeI at *
    rw [if_neg hn]
    split <;> split at this <;> omega
theorem dive_of {y : Int} (hy : bnd y = y) (h : y ≠ 0) : dive y = 0 := by unfold dive; rw [hy, if_neg h]
theorem dive_no {y : Int} (hy : bnd y = y) (h : y = 0) : dive y = 10 := by unfold dive; rw [hy, if_pos h]
theorem divf_no {x y : Int} (hy : bnd y = y) (h : y = 0) : divf x y = 0 := by unfold divf; rw [hy, if_pos h]
theorem divf_lo (a b : Int) : -2147483647 ≤ divf a b := by
  unfold divf divq; repeat' split
  all_goals first | omega | exact bnd_lo _
theorem divf_hi (a b : Int) : divf a b ≤ 2147483647 := by
  unfold divf divq; repeat' split
  all_goals first | omega | exact bnd_hi _
theorem isq_le {N : Int} (h0 : 0 ≤ N) (h1 : N < 1099511627776) : isq N ≤ 1048576 := by
  have h := isq_ok h0 h1
  rcases Int.lt_or_le 1048576 (isq N) with k | k
  · have := sq_mono (a := 1048576) (b := isq N) (by omega) (by omega); omega
  · exact k

/-! ### Blends -/
theorem tt_mono {t u : Int} (h : t ≤ u) : tt t ≤ tt u := by
  unfold tt; repeat' split
  all_goals omega
theorem rnd_zero (d : Int) (hd : 1 ≤ d) : rnd 0 d = 0 := by
  rw [rnd_nn (by omega)]; exact Int.ediv_eq_zero_of_lt (by omega) (by omega)
theorem blend_0 {x y t : Int} (hx : bnd x = x) (h : tt t = 0) : blendf x y t = x := by
  unfold blendf; rw [h, Int.mul_zero, rnd_zero _ (by omega), hx]; omega
theorem blend_1 {x y t : Int} (hx : bnd x = x) (hy : bnd y = y) (h : tt t = 256) : blendf x y t = y := by
  unfold blendf; rw [h, rnd_one, hx, hy]; omega
theorem blend_up {x y t u : Int} (hx : bnd x = x) (hy : bnd y = y) (h : x ≤ y) (k : tt t ≤ tt u) : blendf x y t ≤ blendf x y u := by
  unfold blendf; rw [hx, hy]
  have := rnd_mono (a := (y - x) * tt t) (b := (y - x) * tt u) (d := 256) (by omega) (Int.mul_le_mul_of_nonneg_left k (by omega))
  omega
theorem blend_down {x y t u : Int} (hx : bnd x = x) (hy : bnd y = y) (h : y ≤ x) (k : tt t ≤ tt u) : blendf x y u ≤ blendf x y t := by
  unfold blendf; rw [hx, hy]
  have := rnd_mono (a := (y - x) * tt u) (b := (y - x) * tt t) (d := 256) (by omega) (Int.mul_le_mul_of_nonpos_left (by omega) k)
  omega
theorem way_up {x y t u : Int} (hx : bnd x = x) (hy : bnd y = y) (h : x ≤ y) (k : t ≤ u) : x ≤ blendf x y t ∧ blendf x y t ≤ blendf x y u ∧ blendf x y u ≤ y := by
  have e0 := blend_0 (y := y) hx (show tt 0 = 0 by decide)
  have e1 := blend_1 hx hy (show tt 256 = 256 by decide)
  have h0 := blend_up (t := 0) (u := t) hx hy h (by rw [show tt 0 = 0 by decide]; exact tt_lo t)
  have h1 := blend_up (t := u) (u := 256) hx hy h (by rw [show tt 256 = 256 by decide]; exact tt_hi u)
  have h2 := blend_up hx hy h (tt_mono k)
  omega
theorem way_down {x y t u : Int} (hx : bnd x = x) (hy : bnd y = y) (h : y ≤ x) (k : t ≤ u) : blendf x y t ≤ x ∧ blendf x y u ≤ blendf x y t ∧ y ≤ blendf x y u := by
  have e0 := blend_0 (y := y) hx (show tt 0 = 0 by decide)
  have e1 := blend_1 hx hy (show tt 256 = 256 by decide)
  have h0 := blend_down (t := 0) (u := t) hx hy h (by rw [show tt 0 = 0 by decide]; exact tt_lo t)
  have h1 := blend_down (t := u) (u := 256) hx hy h (by rw [show tt 256 = 256 by decide]; exact tt_hi u)
  have h2 := blend_down hx hy h (tt_mono k)
  omega
theorem clamp_bnd (t x y : Int) : bnd (clampf t x y) = clampf t x y := by
  unfold clampf; repeat' split
  all_goals exact bnd_bnd _
theorem clamp_in {t x y : Int} (hx : bnd x = x) (hy : bnd y = y) (h : x ≤ y) : x ≤ clampf t x y ∧ clampf t x y ≤ y := by
  unfold clampf; rw [hx, hy]; repeat' split
  all_goals omega
theorem clamp_out {t x y : Int} (hx : bnd x = x) (hy : bnd y = y) (h : y < x) : clampf t x y = y := by
  unfold clampf; rw [hx, hy]; repeat' split
  all_goals omega
theorem clamp_still {t x y : Int} (hx : bnd x = x) (hy : bnd y = y) : clampf (clampf t x y) x y = clampf t x y := by
  have hb := clamp_bnd t x y
  by_cases h : x ≤ y
  · have := clamp_in (t := t) hx hy h
    generalize clampf t x y = c at *
    unfold clampf; rw [hx, hy, hb]; repeat' split
    all_goals omega
  · rw [clamp_out hx hy (by omega), clamp_out hx hy (by omega)]

/-! ### Signs -/
theorem addf_neg {x y : Int} : addf (-x) (-y) = -addf x y := by
  unfold addf; rw [bnd_neg, bnd_neg, ← bnd_neg (bnd x + bnd y)]; congr 1; omega
theorem mulf_neg {x y : Int} : mulf (-x) y = -mulf x y := by
  unfold mulf; rw [bnd_neg, Int.neg_mul, rnd_neg _ _ (by omega), bnd_neg]
theorem subf_neg {x y : Int} : subf y x = -subf x y := by
  unfold subf; rw [← bnd_neg]; congr 1; omega
theorem divf_neg {x y : Int} : divf (-x) y = -divf x y := by
  unfold divf divq
  split
  · rfl
  · rw [bnd_neg]
    split
    · rw [show - -bnd x * 256 = -(-bnd x * 256) by omega, rnd_neg _ _ (by omega), bnd_neg]
    · rw [show -bnd x * 256 = -(bnd x * 256) by omega, rnd_neg _ _ (by omega), bnd_neg]
theorem absf_neg (x : Int) : absf (-x) = absf x := by
  unfold absf; rw [bnd_neg]; repeat' split
  all_goals omega
theorem whole_of {x : Int} (h1 : -2147483647 ≤ x) (h2 : x ≤ 2147483647) : off (wholef x) ≤ x ∧ x - off (wholef x) < 256 := by
  have e : wholef x = x / 256 := by unfold wholef; rw [bnd_id h1 h2]
  rw [e]
  unfold off
  rw [bnd_id (n := x / 256) (by omega) (by omega)]
  unfold bnd; repeat' split
  all_goals omega
end Go.Proofs.YtihcicijoeplkabDoor.Pu
