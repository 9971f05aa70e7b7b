/- Plain integers: what the functions of package fixed reckon, and the facts on it. No program is named here. -/
namespace Go.Proofs.YtaalbkmdmocdeaaDoor.Pu

/-- Within the bounds. -/
def bnd (n : Int) : Int := if n < -2147483647 then -2147483647 else if 2147483647 < n then 2147483647 else n
theorem bnd_lo (n : Int) : -2147483647 ≤ bnd n := by
  unfold bnd; repeat' split
  all_goals omega
theorem bnd_hi (n : Int) : bnd n ≤ 2147483647 := by
  unfold bnd; repeat' split
  all_goals omega
theorem bnd_id {n : Int} (h : -2147483647 ≤ n) (h2 : n ≤ 2147483647) : bnd n = n := by unfold bnd; rw [if_neg (by omega), if_neg (by omega)]
theorem bnd_bnd (n : Int) : bnd (bnd n) = bnd n := bnd_id (bnd_lo n) (bnd_hi n)
theorem bnd_above {n : Int} (h : 2147483647 ≤ n) : bnd n = 2147483647 := by
  unfold bnd; repeat' split
  all_goals omega
theorem bnd_below {n : Int} (h : n ≤ -2147483647) : bnd n = -2147483647 := by
  unfold bnd; repeat' split
  all_goals omega
theorem bnd_mono {a b : Int} (h : a ≤ b) : bnd a ≤ bnd b := by
  unfold bnd; repeat' split
  all_goals omega
theorem bnd_neg (n : Int) : bnd (-n) = -bnd n := by
  unfold bnd; repeat' split
  all_goals omega

/-- n by d (above 0), to the nearest, halves away from 0. -/
def rnd (n d : Int) : Int := if n < 0 then -((-n + d / 2) / d) else (n + d / 2) / d
theorem rnd_nn {n d : Int} (h : 0 ≤ n) : rnd n d = (n + d / 2) / d := by unfold rnd; rw [if_neg (by omega)]
theorem rnd_neg (n d : Int) (hd : 1 ≤ d) : rnd (-n) d = -rnd n d := by
  unfold rnd
  by_cases h : n < 0
  · rw [if_neg (by omega), if_pos h]; omega
  · by_cases h0 : n = 0
    · subst h0
      have : (d / 2) / d = 0 := Int.ediv_eq_zero_of_lt (by omega) (by omega)
      simp [this]
    · rw [if_pos (by omega), if_neg h]; simp
theorem rnd_below {n d : Int} (h : n < 0) : rnd n d = -((-n + d / 2) / d) := by unfold rnd; rw [if_pos h]
/-- a product of two numbers within the bounds. -/
theorem mul_bd {a b : Int} (ha : -2147483647 ≤ a) (ha2 : a ≤ 2147483647) (hb : -2147483647 ≤ b) (hb2 : b ≤ 2147483647) :
    -4611686014132420609 ≤ a * b ∧ a * b ≤ 4611686014132420609 := by
  have e : (4611686014132420609 : Int) = 2147483647 * 2147483647 := by decide
  have h : (a * b).natAbs ≤ 2147483647 * 2147483647 := by
    rw [Int.natAbs_mul]; exact Nat.mul_le_mul (by omega) (by omega)
  omega
/-- the quotient is no further from 0 than the number. -/
theorem quo_bd {n d : Int} (hn : 0 ≤ n) (hd : 1 ≤ d) : 0 ≤ (n + d / 2) / d ∧ (n + d / 2) / d ≤ n + 1 := by
  refine ⟨Int.ediv_nonneg (by omega) (by omega), ?_⟩
  have h1 : (n + d / 2) / d ≤ (n + d / 2) / d * d + 0 := by
    have h0 : 0 ≤ (n + d / 2) / d := Int.ediv_nonneg (by omega) (by omega)
    have := Int.mul_le_mul_of_nonneg_left hd h0
    omega
  by_cases hc : n = 0
  · subst hc
    have : (0 + d / 2) / d = 0 := Int.ediv_eq_zero_of_lt (by omega) (by omega)
    omega
  have h2 : (n + d / 2) / d < n + 1 + 1 := by
    apply Int.ediv_lt_of_lt_mul (by omega)
    have : (n + 1 + 1) * d = n * d + d + d := by rw [Int.add_mul, Int.add_mul]; omega
    have h3 : n * 1 ≤ n * d := Int.mul_le_mul_of_nonneg_left hd hn
    omega
  omega
theorem rnd_bd {n d : Int} (hd : 1 ≤ d) : -(n.natAbs : Int) - 1 ≤ rnd n d ∧ rnd n d ≤ (n.natAbs : Int) + 1 := by
  by_cases h : n < 0
  · rw [rnd_below h]; have := @quo_bd (-n) d (by omega) hd; omega
  · rw [rnd_nn (by omega)]; have := @quo_bd n d (by omega) hd; omega
/-- the nearest, in the other spelling: the quotient, one more from half on. -/
theorem near_lo {n d : Int} (hd : 1 ≤ d) (h : 2 * (n - n / d * d) < d) : (n + d / 2) / d = n / d := by
  have h1 := Int.emod_add_mul_ediv n d
  have h2 := Int.emod_nonneg n (show d ≠ 0 by omega)
  have h3 := Int.emod_lt_of_pos n (show 0 < d by omega)
  rw [Int.mul_comm] at h1
  have e : n + d / 2 = (n % d + d / 2) + n / d * d := by omega
  rw [e, Int.add_mul_ediv_right _ _ (by omega), Int.ediv_eq_zero_of_lt (by omega) (by omega)]; omega
theorem near_hi {n d : Int} (hd : 1 ≤ d) (h : d ≤ 2 * (n - n / d * d)) : (n + d / 2) / d = n / d + 1 := by
  have h1 := Int.emod_add_mul_ediv n d
  have h2 := Int.emod_nonneg n (show d ≠ 0 by omega)
  have h3 := Int.emod_lt_of_pos n (show 0 < d by omega)
  rw [Int.mul_comm] at h1
  have e : n + d / 2 = (n % d + d / 2 - d) + (n / d + 1) * d := by rw [Int.add_mul]; omega
  rw [e, Int.add_mul_ediv_right _ _ (by omega), Int.ediv_eq_zero_of_lt (by omega) (by omega)]; omega

def addf (a b : Int) : Int := bnd (bnd a + bnd b)
def subf (a b : Int) : Int := bnd (bnd a - bnd b)
def mulf (a b : Int) : Int := bnd (rnd (bnd a * bnd b) 256)
/-- the quotient, b not 0 (within the bounds). -/
def divq (a b : Int) : Int := if b < 0 then bnd (rnd (-a * 256) (-b)) else bnd (rnd (a * 256) b)
def divf (a b : Int) : Int := if bnd b = 0 then 0 else divq (bnd a) (bnd b)
def dive (b : Int) : Int := if bnd b = 0 then 10 else 0
def absf (x : Int) : Int := if bnd x < 0 then -bnd x else bnd x
def wholef (x : Int) : Int := bnd x / 256
def off (x : Int) : Int := bnd (bnd x * 256)
def clampf (x l m : Int) : Int := if bnd m < (if bnd x < bnd l then bnd l else bnd x) then bnd m else (if bnd x < bnd l then bnd l else bnd x)
def tt (t : Int) : Int := if t < 0 then 0 else if 256 < t then 256 else t
def blendf (a b t : Int) : Int := bnd a + rnd ((bnd b - bnd a) * tt t) 256
theorem tt_lo (t : Int) : 0 ≤ tt t := by
  unfold tt; repeat' split
  all_goals omega
theorem tt_hi (t : Int) : tt t ≤ 256 := by
  unfold tt; repeat' split
  all_goals omega
theorem tt_clamp (t : Int) : clampf t 0 256 = tt t := by
  unfold clampf tt bnd; repeat' split
  all_goals omega
theorem blend_bd {a b t : Int} (ha : -2147483647 ≤ a) (ha2 : a ≤ 2147483647) (hb : -2147483647 ≤ b) (hb2 : b ≤ 2147483647) (h0 : 0 ≤ t) (h1 : t ≤ 256) :
    -1099511627264 ≤ (b - a) * t ∧ (b - a) * t ≤ 1099511627264 := by
  have h : ((b - a) * t).natAbs ≤ 4294967294 * 256 := by
    rw [Int.natAbs_mul]; exact Nat.mul_le_mul (by omega) (by omega)
  omega
theorem whole_up {x : Int} (_h : x < 0) : -((-x + 256 - 1) / 256) = x / 256 := by omega

/-- The root of N, downwards, by its bits from the k-th on. -/
def isqF : Nat → Int → Int → Int
  | 0, r, _ => r
  | k + 1, r, N => if (r + 2 ^ k) * (r + 2 ^ k) ≤ N then isqF k (r + 2 ^ k) N else isqF k r N
def isq (N : Int) : Int := isqF 20 0 N
def bitk : Nat → Int
  | 0 => 0
  | k + 1 => 2 ^ k
theorem pow_le {k m : Nat} (h : k ≤ m) : (2 : Int) ^ k ≤ 2 ^ m := by
  have := Nat.pow_le_pow_right (n := 2) (by omega) h
  exact_mod_cast this
theorem pow_pos (k : Nat) : (1 : Int) ≤ 2 ^ k := by
  have := Nat.one_le_two_pow (n := k)
  exact_mod_cast this
theorem pow_dbl (k : Nat) : (2 : Int) ^ (k + 1) = 2 * 2 ^ k := by rw [Int.pow_succ]; omega
theorem bitk_half (k : Nat) : (2 : Int) ^ k / 2 = bitk k := by
  cases k with
  | zero => rfl
  | succ k => rw [pow_dbl]; show _ = (2 : Int) ^ k; omega
theorem sq_mono {a b : Int} (h0 : 0 ≤ a) (h : a ≤ b) : a * a ≤ b * b :=
  Int.le_trans (Int.mul_le_mul_of_nonneg_left h h0) (Int.mul_le_mul_of_nonneg_right h (by omega))
theorem isqF_ok : ∀ (k : Nat) (r N : Int), 0 ≤ r → r * r ≤ N → N < (r + 2 ^ k) * (r + 2 ^ k) →
    0 ≤ isqF k r N ∧ isqF k r N * isqF k r N ≤ N ∧ N < (isqF k r N + 1) * (isqF k r N + 1)
  | 0, r, N, h0, h1, h2 => ⟨h0, h1, by simpa [isqF] using h2⟩
  | k + 1, r, N, h0, h1, h2 => by
    have hp := pow_pos k
    rw [isqF]
    split
    · rename_i h
      refine isqF_ok k _ N (by omega) h ?_
      rw [pow_dbl] at h2
      rw [show r + 2 ^ k + 2 ^ k = r + 2 * (2 : Int) ^ k by omega]; exact h2
    · rename_i h
      exact isqF_ok k r N h0 h1 (by omega)
theorem isq_ok {N : Int} (h0 : 0 ≤ N) (h1 : N < 1099511627776) : 0 ≤ isq N ∧ isq N * isq N ≤ N ∧ N < (isq N + 1) * (isq N + 1) :=
  isqF_ok 20 0 N (by omega) (by omega) (by have : ((0 : Int) + 2 ^ 20) * (0 + 2 ^ 20) = 1099511627776 := by decide
                                           omega)
/-- higher bits are none. -/
theorem isqF_more : ∀ (k : Nat) (N : Int), N < 1099511627776 → isqF (20 + k) 0 N = isq N
  | 0, _, _ => rfl
  | k + 1, N, h => by
    show isqF ((20 + k) + 1) 0 N = _
    rw [isqF, if_neg, isqF_more k N h]
    have hp := pow_le (show 20 ≤ 20 + k by omega)
    have h20 : (2 : Int) ^ 20 = 1048576 := by decide
    have := sq_mono (a := 1048576) (b := 0 + 2 ^ (20 + k)) (by omega) (by omega)
    omega
/-- there is one root alone. -/
theorem root_one {r s N : Int} (h0 : 0 ≤ r) (h1 : r * r ≤ N) (h2 : N < (r + 1) * (r + 1)) (k0 : 0 ≤ s) (k1 : s * s ≤ N) (k2 : N < (s + 1) * (s + 1)) : r = s := by
  rcases Int.lt_trichotomy r s with h | h | h
  · have := sq_mono (a := r + 1) (b := s) (by omega) (by omega); omega
  · exact h
  · have := sq_mono (a := s + 1) (b := r) (by omega) (by omega); omega

/-! ### What the laws ask -/
theorem addf_comm (a b : Int) : addf a b = addf b a := by unfold addf; rw [Int.add_comm]
theorem mulf_comm (a b : Int) : mulf a b = mulf b a := by unfold mulf; rw [Int.mul_comm]
theorem rnd_one (x : Int) : rnd (x * 256) 256 = x := by
  by_cases h : x * 256 < 0
  · rw [rnd_below h]; omega
  · rw [rnd_nn (by omega)]; omega
theorem bnd_256 : bnd 256 = 256 := by decide
theorem mulf_one {x : Int} (h : bnd x = x) : mulf x 256 = x := by
  unfold mulf; rw [h, bnd_256, rnd_one, h]
theorem divf_one {x : Int} (h : bnd x = x) : divf x 256 = x := by
  unfold divf divq
  rw [bnd_256, if_neg (by omega), if_neg (by omega), h, rnd_one, h]
theorem dive_one : dive 256 = 0 := by decide
theorem addf_lo (a b : Int) : -2147483647 ≤ addf a b := bnd_lo _
theorem addf_hi (a b : Int) : addf a b ≤ 2147483647 := bnd_hi _
theorem back {x y : Int} (hx : bnd x = x) (hy : bnd y = y) (h1 : -2147483647 < addf x y) (h2 : addf x y < 2147483647) : subf (addf x y) y = x := by
  have e : addf x y = x + y := by
    unfold addf at *
    rw [hx, hy] at *
    rcases Int.lt_trichotomy (x + y) 0 with h | h | h
    all_goals
      unfold bnd at h1 h2 ⊢
      repeat' split
      all_goals first | omega | (split at h1 <;> omega)
  unfold subf
  rw [hy, e, bnd_id (n := x + y) (by omega) (by omega), show x + y - y = x by omega, hx]
theorem addf_mono {x y z : Int} (h : bnd x ≤ bnd y) : addf x z ≤ addf y z := bnd_mono (by omega)
theorem div_mono {a b d : Int} (hd : 1 ≤ d) (h : a ≤ b) : a / d ≤ b / d := Int.ediv_le_ediv (by omega) h
theorem rnd_mono {a b d : Int} (hd : 1 ≤ d) (h : a ≤ b) : rnd a d ≤ rnd b d := by
  by_cases ha : a < 0
  · by_cases hb : b < 0
    · rw [rnd_below ha, rnd_below hb]
      have := div_mono (a := -b + d / 2) (b := -a + d / 2) hd (by omega)
      omega
    · rw [rnd_below ha, rnd_nn (by omega)]
      have h1 := (@quo_bd (-a) d (by omega) hd).1
      have h2 := (@quo_bd b d (by omega) hd).1
      omega
  · rw [rnd_nn (by omega), rnd_nn (by omega)]
    exact div_mono hd (by omega)
theorem mulf_mono {x y z : Int} (h : bnd x ≤ bnd y) (hz : 0 ≤ bnd z) : mulf x z ≤ mulf y z := by
  unfold mulf
  exact bnd_mono (rnd_mono (by omega) (Int.mul_le_mul_of_nonneg_right h hz))
def insB (n : Int) : Bool := decide (-2147483647 < n) && decide (n < 2147483647)
theorem insB_t {n : Int} (h : insB n = true) : -2147483647 < n ∧ n < 2147483647 := by
  simpa [insB] using h
theorem insB_f {n : Int} (h : insB n = false) : n ≤ -2147483647 ∨ 2147483647 ≤ n := by
  simp [insB] at h; omega
end Go.Proofs.YtaalbkmdmocdeaaDoor.Pu
