/- Parts of the proof, laid end to end. -/
import Derived.Test.YtdljmpjfiggdiaaDoorProg
import Derived.WalkKit
import Derived.WalkLawsBesides
import Derived.Lib.Hide
import Derived.Laws.BitsLemmas
namespace Go.Proofs.YtdljmpjfiggdiaaDoor.Pu
def bnd (n : Int) : Int := if n < -2147483647 then -2147483647 else if 2147483647 < n then 2147483647 else n
theorem bnd_lo (n : Int) : -2147483647 <= bnd n := by
 unfold bnd; repeat' split
 all_goals omega
theorem bnd_hi (n : Int) : bnd n <= 2147483647 := by
 unfold bnd; repeat' split
 all_goals omega
theorem bnd_id {n : Int} (h : -2147483647 <= n) (h2 : n <= 2147483647) : bnd n = n := by unfold bnd; rw [if_neg (by omega), if_neg (by omega)]
theorem bnd_bnd (n : Int) : bnd (bnd n) = bnd n := bnd_id (bnd_lo n) (bnd_hi n)
theorem bnd_above {n : Int} (h : 2147483647 <= n) : bnd n = 2147483647 := by
 unfold bnd; repeat' split
 all_goals omega
theorem bnd_below {n : Int} (h : n <= -2147483647) : bnd n = -2147483647 := by
 unfold bnd; repeat' split
 all_goals omega
theorem bnd_mono {a b : Int} (h : a <= b) : bnd a <= bnd b := by
 unfold bnd; repeat' split
 all_goals omega
theorem bnd_neg (n : Int) : bnd (-n) = -bnd n := by
 unfold bnd; repeat' split
 all_goals omega
def rnd (n d : Int) : Int := if n < 0 then -((-n + d / 2) / d) else (n + d / 2) / d
theorem rnd_nn {n d : Int} (h : 0 <= n) : rnd n d = (n + d / 2) / d := by unfold rnd; rw [if_neg (by omega)]
theorem rnd_neg (n d : Int) (hd : 1 <= d) : rnd (-n) d = -rnd n d := by
 unfold rnd
 by_cases h : n < 0
 ·rw [if_neg (by omega), if_pos h]; omega
 ·by_cases h0 : n = 0
  ·subst h0
   have : (d / 2) / d = 0 := Int.ediv_eq_zero_of_lt (by omega) (by omega)
   simp [this]
  ·rw [if_pos (by omega), if_neg h]; simp
theorem rnd_below {n d : Int} (h : n < 0) : rnd n d = -((-n + d / 2) / d) := by unfold rnd; rw [if_pos h]
theorem mul_bd {a b : Int} (ha : -2147483647 <= a) (ha2 : a <= 2147483647) (hb : -2147483647 <= b) (hb2 : b <= 2147483647) :
  -4611686014132420609 <= a * b /\ a * b <= 4611686014132420609 := by
 have e : (4611686014132420609 : Int) = 2147483647 * 2147483647 := by decide
 have h : (a * b).natAbs <= 2147483647 * 2147483647 := by
  rw [Int.natAbs_mul]; exact Nat.mul_le_mul (by omega) (by omega)
 omega
theorem quo_bd {n d : Int} (hn : 0 <= n) (hd : 1 <= d) : 0 <= (n + d / 2) / d /\ (n + d / 2) / d <= n + 1 := by
 refine ⟨Int.ediv_nonneg (by omega) (by omega), ?_⟩
 have h1 : (n + d / 2) / d <= (n + d / 2) / d * d + 0 := by
  have h0 : 0 <= (n + d / 2) / d := Int.ediv_nonneg (by omega) (by omega)
  have := Int.mul_le_mul_of_nonneg_left hd h0
  omega
 by_cases hc : n = 0
 ·subst hc
  have : (0 + d / 2) / d = 0 := Int.ediv_eq_zero_of_lt (by omega) (by omega)
  omega
 have h2 : (n + d / 2) / d < n + 1 + 1 := by
  apply Int.ediv_lt_of_lt_mul (by omega)
  have : (n + 1 + 1) * d = n * d + d + d := by rw [Int.add_mul, Int.add_mul]; omega
  have h3 : n * 1 <= n * d := Int.mul_le_mul_of_nonneg_left hd hn
  omega
 omega
theorem rnd_bd {n d : Int} (hd : 1 <= d) : -(n.natAbs : Int) - 1 <= rnd n d /\ rnd n d <= (n.natAbs : Int) + 1 := by
 by_cases h : n < 0
 ·rw [rnd_below h]; have := @quo_bd (-n) d (by omega) hd; omega
 ·rw [rnd_nn (by omega)]; have := @quo_bd n d (by omega) hd; omega
theorem near_lo {n d : Int} (hd : 1 <= d) (h : 2 * (n - n / d * d) < d) : (n + d / 2) / d = n / d := by
 have h1 := Int.emod_add_mul_ediv n d
 have h2 := Int.emod_nonneg n (show d ≠ 0 by omega)
 have h3 := Int.emod_lt_of_pos n (show 0 < d by omega)
 rw [Int.mul_comm] at h1
 have e : n + d / 2 = (n % d + d / 2) + n / d * d := by omega
 rw [e, Int.add_mul_ediv_right _ _ (by omega), Int.ediv_eq_zero_of_lt (by omega) (by omega)]; omega
theorem near_hi {n d : Int} (hd : 1 <= d) (h : d <= 2 * (n - n / d * d)) : (n + d / 2) / d = n / d + 1 := by
 have h1 := Int.emod_add_mul_ediv n d
 have h2 := Int.emod_nonneg n (show d ≠ 0 by omega)
 have h3 := Int.emod_lt_of_pos n (show 0 < d by omega)
 rw [Int.mul_comm] at h1
 have e : n + d / 2 = (n % d + d / 2 - d) + (n / d + 1) * d := by rw [Int.add_mul]; omega
 rw [e, Int.add_mul_ediv_right _ _ (by omega), Int.ediv_eq_zero_of_lt (by omega) (by omega)]; omega
def addf (a b : Int) : Int := bnd (bnd a + bnd b)
def subf (a b : Int) : Int := bnd (bnd a - bnd b)
def mulf (a b : Int) : Int := bnd (rnd (bnd a * bnd b) 256)
def divq (a b : Int) : Int := if b < 0 then bnd (rnd (-a * 256) (-b)) else bnd (rnd (a * 256) b)
def divf (a b : Int) : Int := if bnd b = 0 then 0 else divq (bnd a) (bnd b)
def dive (b : Int) : Int := if bnd b = 0 then 10 else 0
def absf (x : Int) : Int := if bnd x < 0 then -bnd x else bnd x
def wholef (x : Int) : Int := bnd x / 256
def off (x : Int) : Int := bnd (bnd x * 256)
def clampf (x l m : Int) : Int := if bnd m < (if bnd x < bnd l then bnd l else bnd x) then bnd m else (if bnd x < bnd l then bnd l else bnd x)
def tt (t : Int) : Int := if t < 0 then 0 else if 256 < t then 256 else t
def blendf (a b t : Int) : Int := bnd a + rnd ((bnd b - bnd a) * tt t) 256
theorem tt_lo (t : Int) : 0 <= tt t := by
 unfold tt; repeat' split
 all_goals omega
theorem tt_hi (t : Int) : tt t <= 256 := by
 unfold tt; repeat' split
 all_goals omega
theorem tt_clamp (t : Int) : clampf t 0 256 = tt t := by
 unfold clampf tt bnd; repeat' split
 all_goals omega
theorem blend_bd {a b t : Int} (ha : -2147483647 <= a) (ha2 : a <= 2147483647) (hb : -2147483647 <= b) (hb2 : b <= 2147483647) (h0 : 0 <= t) (h1 : t <= 256) :
  -1099511627264 <= (b - a) * t /\ (b - a) * t <= 1099511627264 := by
 have h : ((b - a) * t).natAbs <= 4294967294 * 256 := by
  rw [Int.natAbs_mul]; exact Nat.mul_le_mul (by omega) (by omega)
 omega
theorem whole_up {x : Int} (_h : x < 0) : -((-x + 256 - 1) / 256) = x / 256 := by omega
def isqF : Nat -> Int -> Int -> Int
 | 0, r, _ => r
 | k + 1, r, N => if (r + 2 ^ k) * (r + 2 ^ k) <= N then isqF k (r + 2 ^ k) N else isqF k r N
def isq (N : Int) : Int := isqF 20 0 N
def bitk : Nat -> Int
 | 0 => 0
 | k + 1 => 2 ^ k
theorem pow_le {k m : Nat} (h : k <= m) : (2 : Int) ^ k <= 2 ^ m := by
 have := Nat.pow_le_pow_right (n := 2) (by omega) h
 exact_mod_cast this
theorem pow_pos (k : Nat) : (1 : Int) <= 2 ^ k := by
 have := Nat.one_le_two_pow (n := k)
 exact_mod_cast this
theorem pow_dbl (k : Nat) : (2 : Int) ^ (k + 1) = 2 * 2 ^ k := by rw [Int.pow_succ]; omega
theorem bitk_half (k : Nat) : (2 : Int) ^ k / 2 = bitk k := by
 cases k with
 | zero => rfl
 | succ k => rw [pow_dbl]; show _ = (2 : Int) ^ k; omega
theorem sq_mono {a b : Int} (h0 : 0 <= a) (h : a <= b) : a * a <= b * b :=
 Int.le_trans (Int.mul_le_mul_of_nonneg_left h h0) (Int.mul_le_mul_of_nonneg_right h (by omega))
theorem isqF_ok : ∀ (k : Nat) (r N : Int), 0 <= r -> r * r <= N -> N < (r + 2 ^ k) * (r + 2 ^ k) ->
  0 <= isqF k r N /\ isqF k r N * isqF k r N <= N /\ N < (isqF k r N + 1) * (isqF k r N + 1)
 | 0, r, N, h0, h1, h2 => ⟨h0, h1, by simpa [isqF] using h2⟩
 | k + 1, r, N, h0, h1, h2 => by
  have hp := pow_pos k
  rw [isqF]
  split
  ·rename_i h
   refine isqF_ok k _ N (by omega) h ?_
   rw [pow_dbl] at h2
   rw [show r + 2 ^ k + 2 ^ k = r + 2 * (2 : Int) ^ k by omega]; exact h2
  ·rename_i h
   exact isqF_ok k r N h0 h1 (by omega)
theorem isq_ok {N : Int} (h0 : 0 <= N) (h1 : N < 1099511627776) : 0 <= isq N /\ isq N * isq N <= N /\ N < (isq N + 1) * (isq N + 1) :=
  isqF_ok 20 0 N (by omega) (by omega) (by have : ((0 : Int) + 2 ^ 20) * (0 + 2 ^ 20) = 1099511627776 := by decide
                                           omega)
theorem isqF_more : ∀ (k : Nat) (N : Int), N < 1099511627776 -> isqF (20 + k) 0 N = isq N
 | 0, _, _ => rfl
 | k + 1, N, h => by
  show isqF ((20 + k) + 1) 0 N = _
  rw [isqF, if_neg, isqF_more k N h]
  have hp := pow_le (show 20 <= 20 + k by omega)
  have h20 : (2 : Int) ^ 20 = 1048576 := by decide
  have := sq_mono (a := 1048576) (b := 0 + 2 ^ (20 + k)) (by omega) (by omega)
  omega
theorem root_one {r s N : Int} (h0 : 0 <= r) (h1 : r * r <= N) (h2 : N < (r + 1) * (r + 1)) (k0 : 0 <= s) (k1 : s * s <= N) (k2 : N < (s + 1) * (s + 1)) : r = s := by
 rcases Int.lt_trichotomy r s with h | h | h
 ·have := sq_mono (a := r + 1) (b := s) (by omega) (by omega); omega
 ·exact h
 ·have := sq_mono (a := s + 1) (b := r) (by omega) (by omega); omega
/-! ### What the laws ask -/
theorem addf_comm (a b : Int) : addf a b = addf b a := by unfold addf; rw [Int.add_comm]
theorem mulf_comm (a b : Int) : mulf a b = mulf b a := by unfold mulf; rw [Int.mul_comm]
theorem rnd_one (x : Int) : rnd (x * 256) 256 = x := by
 by_cases h : x * 256 < 0
 ·rw [rnd_below h]; omega
 ·rw [rnd_nn (by omega)]; omega
theorem bnd_256 : bnd 256 = 256 := by decide
theorem mulf_one {x : Int} (h : bnd x = x) : mulf x 256 = x := by
 unfold mulf; rw [h, bnd_256, rnd_one, h]
theorem divf_one {x : Int} (h : bnd x = x) : divf x 256 = x := by
 unfold divf divq
 rw [bnd_256, if_neg (by omega), if_neg (by omega), h, rnd_one, h]
theorem dive_one : dive 256 = 0 := by decide
theorem addf_lo (a b : Int) : -2147483647 <= addf a b := bnd_lo _
theorem addf_hi (a b : Int) : addf a b <= 2147483647 := bnd_hi _
theorem back {x y : Int} (hx : bnd x = x) (hy : bnd y = y) (h1 : -2147483647 < addf x y) (h2 : addf x y < 2147483647) : subf (addf x y) y = x := by
 have e : addf x y = x + y := by
  unfold addf at *
  rw [hx, hy] at *
  rcases Int.lt_trichotomy (x + y) 0 with h | h | h
  all_goals
   unfold bnd at h1 h2 ⊢
   repeat' split
   all_goals first | omega | (split at h1 <;> omega)
 unfold subf
 rw [hy, e, bnd_id (n := x + y) (by omega) (by omega), show x + y - y = x by omega, hx]
theorem addf_mono {x y z : Int} (h : bnd x <= bnd y) : addf x z <= addf y z := bnd_mono (by omega)
theorem div_mono {a b d : Int} (hd : 1 <= d) (h : a <= b) : a / d <= b / d := Int.ediv_le_ediv (by omega) h
theorem rnd_mono {a b d : Int} (hd : 1 <= d) (h : a <= b) : rnd a d <= rnd b d := by
 by_cases ha : a < 0
 ·by_cases hb : b < 0
  ·rw [rnd_below ha, rnd_below hb]
   have := div_mono (a := -b + d / 2) (b := -a + d / 2) hd (by omega)
   omega
  ·rw [rnd_below ha, rnd_nn (by omega)]
   have h1 := (@quo_bd (-a) d (by omega) hd).1
   have h2 := (@quo_bd b d (by omega) hd).1
   omega
 ·rw [rnd_nn (by omega), rnd_nn (by omega)]
  exact div_mono hd (by omega)
theorem mulf_mono {x y z : Int} (h : bnd x <= bnd y) (hz : 0 <= bnd z) : mulf x z <= mulf y z := by
 unfold mulf
 exact bnd_mono (rnd_mono (by omega) (Int.mul_le_mul_of_nonneg_right h hz))
def insB (n : Int) : Bool := decide (-2147483647 < n) && decide (n < 2147483647)
theorem insB_t {n : Int} (h : insB n = true) : -2147483647 < n /\ n < 2147483647 := by
 simpa [insB] using h
theorem insB_f {n : Int} (h : insB n = false) : n <= -2147483647 \/ 2147483647 <= n := by
 simp [insB] at h; omega
end Go.Proofs.YtdljmpjfiggdiaaDoor.Pu
namespace Go.Proofs.YtdljmpjfiggdiaaDoor.Gp
open Pu
/-! ### Lengths -/
def sq2 (x y : Int) : Int := x * x + y * y
theorem sq_nn (x : Int) : 0 <= x * x := by
 rcases Int.le_total 0 x with h | h
 ·exact Int.mul_nonneg h h
 ·exact Int.mul_nonneg_of_nonpos_of_nonpos h h
theorem sq2_nn (x y : Int) : 0 <= sq2 x y := Int.add_nonneg (sq_nn x) (sq_nn y)
theorem sq_hi {x : Int} (h0 : -2147483647 <= x) (h1 : x <= 2147483647) : x * x <= 4611686014132420609 := (mul_bd h0 h1 h0 h1).2
theorem sq2_hi {x y : Int} (h0 : -2147483647 <= x) (h1 : x <= 2147483647) (k0 : -2147483647 <= y) (k1 : y <= 2147483647) : sq2 x y <= 9223372028264841218 := by
 have a := sq_hi h0 h1
 have b := sq_hi k0 k1
 unfold sq2
 omega
def isqL (n : Int) : Int := isqF 32 0 n
theorem isqL_ok {n : Int} (h0 : 0 <= n) (h1 : n < 18446744073709551616) : 0 <= isqL n /\ isqL n * isqL n <= n /\ n < (isqL n + 1) * (isqL n + 1) :=
 isqF_ok 32 0 n (by omega) (by omega) (by
  have : ((0 : Int) + 2 ^ 32) * (0 + 2 ^ 32) = 18446744073709551616 := by decide
  omega)
def far (x y : Int) : Int := isqL (sq2 x y)
theorem far_ok {x y : Int} (h0 : -2147483647 <= x) (h1 : x <= 2147483647) (k0 : -2147483647 <= y) (k1 : y <= 2147483647) :
  0 <= far x y /\ far x y * far x y <= sq2 x y /\ sq2 x y < (far x y + 1) * (far x y + 1) :=
 isqL_ok (sq2_nn x y) (by have := sq2_hi h0 h1 k0 k1; omega)
theorem lt_of_sq {a b : Int} (hb : 0 <= b) (h : a * a < b * b) : a < b := by
 rcases Int.lt_or_le a b with k | k
 ·exact k
 ·have := sq_mono hb k
  omega
theorem le_of_sq {a b : Int} (hb : 0 <= b) (h : a * a <= b * b) : a <= b := by
 rcases Int.lt_or_le b a with k | k
 ·have h1 : b * b < a * a := by
   have h2 := Int.mul_le_mul_of_nonneg_left (show b + 1 <= a by omega) (show 0 <= a by omega)
   have h3 := Int.mul_le_mul_of_nonneg_right (show b + 1 <= a by omega) hb
   rw [Int.mul_add] at h2
   rw [Int.add_mul] at h3
   omega
  omega
 ·exact k
theorem far_le {x y m : Int} (h0 : -2147483647 <= x) (h1 : x <= 2147483647) (k0 : -2147483647 <= y) (k1 : y <= 2147483647) (hm : 0 <= m) (h : sq2 x y <= m * m) : far x y <= m := by
 have f := far_ok h0 h1 k0 k1
 exact le_of_sq hm (by omega)
theorem far_hi {x y : Int} (h0 : -2147483647 <= x) (h1 : x <= 2147483647) (k0 : -2147483647 <= y) (k1 : y <= 2147483647) : far x y <= 3037000499 := by
 refine far_le h0 h1 k0 k1 (by omega) ?_
 have := sq2_hi h0 h1 k0 k1
 omega
theorem sq_neg (x : Int) : -x * -x = x * x := by rw [Int.neg_mul_neg]
theorem far_turn (x y : Int) : far (-x) y = far x y := by unfold far sq2; rw [sq_neg]
theorem far_swap (x y : Int) : far y x = far x y := by unfold far sq2; rw [Int.add_comm]
theorem sq2_mul (a b c d : Int) : (a * c + b * d) * (a * c + b * d) + (a * d - b * c) * (a * d - b * c) = sq2 a b * sq2 c d := by
 unfold sq2
 have e1 : (a * c + b * d) * (a * c + b * d) = a * a * (c * c) + 2 * (a * c * (b * d)) + b * b * (d * d) := by
  rw [Int.add_mul, Int.mul_add, Int.mul_add, Int.mul_comm (b * d) (a * c)]
  rw [show a * c * (a * c) = a * a * (c * c) by rw [Int.mul_assoc, Int.mul_assoc, Int.mul_left_comm c a c]]
  rw [show b * d * (b * d) = b * b * (d * d) by rw [Int.mul_assoc, Int.mul_assoc, Int.mul_left_comm d b d]]
  omega
 have e2 : (a * d - b * c) * (a * d - b * c) = a * a * (d * d) - 2 * (a * d * (b * c)) + b * b * (c * c) := by
  rw [Int.sub_mul, Int.mul_sub, Int.mul_sub, Int.mul_comm (b * c) (a * d)]
  rw [show a * d * (a * d) = a * a * (d * d) by rw [Int.mul_assoc, Int.mul_assoc, Int.mul_left_comm d a d]]
  rw [show b * c * (b * c) = b * b * (c * c) by rw [Int.mul_assoc, Int.mul_assoc, Int.mul_left_comm c b c]]
  omega
 have e3 : a * d * (b * c) = a * c * (b * d) := by
  rw [Int.mul_assoc, Int.mul_assoc, Int.mul_left_comm d b c, Int.mul_left_comm c b d, Int.mul_comm d c]
 have e4 : (a * a + b * b) * (c * c + d * d) = a * a * (c * c) + a * a * (d * d) + (b * b * (c * c) + b * b * (d * d)) := by
  rw [Int.add_mul, Int.mul_add, Int.mul_add]
 rw [e1, e2, e3, e4]
 omega
theorem dot_le {a b c d m n : Int} (hm : 0 <= m) (hn : 0 <= n) (h1 : sq2 a b <= m * m) (h2 : sq2 c d <= n * n) : a * c + b * d <= m * n := by
 refine le_of_sq (Int.mul_nonneg hm hn) ?_
 have e := sq2_mul a b c d
 have s := sq_nn (a * d - b * c)
 have k : sq2 a b * sq2 c d <= m * m * (n * n) := Int.mul_le_mul h1 h2 (sq2_nn c d) (sq_nn m)
 have e2 : m * n * (m * n) = m * m * (n * n) := by rw [Int.mul_assoc, Int.mul_assoc, Int.mul_left_comm n m n]
 omega
theorem sq_sum (a b : Int) : (a + b) * (a + b) = a * a + 2 * (a * b) + b * b := by
 rw [Int.add_mul, Int.mul_add, Int.mul_add, Int.mul_comm b a]; omega
theorem sq2_add (a b c d : Int) : sq2 (a + c) (b + d) = sq2 a b + 2 * (a * c + b * d) + sq2 c d := by
 unfold sq2
 have e1 : (a + c) * (a + c) = a * a + 2 * (a * c) + c * c := by
  rw [Int.add_mul, Int.mul_add, Int.mul_add, Int.mul_comm c a]; omega
 have e2 : (b + d) * (b + d) = b * b + 2 * (b * d) + d * d := by
  rw [Int.add_mul, Int.mul_add, Int.mul_add, Int.mul_comm d b]; omega
 rw [e1, e2]
 omega
theorem far_add {a b c d : Int} (a0 : -1073741823 <= a) (a1 : a <= 1073741823) (b0 : -1073741823 <= b) (b1 : b <= 1073741823) (c0 : -1073741823 <= c) (c1 : c <= 1073741823) (d0 : -1073741823 <= d) (d1 : d <= 1073741823) :
  far (a + c) (b + d) <= far a b + far c d + 2 := by
 have p := far_ok (x := a) (y := b) (by omega) (by omega) (by omega) (by omega)
 have q := far_ok (x := c) (y := d) (by omega) (by omega) (by omega) (by omega)
 obtain ⟨m, em⟩ : ∃ m, far a b = m := ⟨_, rfl⟩
 obtain ⟨n, en⟩ : ∃ n, far c d = n := ⟨_, rfl⟩
 rw [em] at p
 rw [en] at q
 rw [em, en]
 refine far_le (by omega) (by omega) (by omega) (by omega) (by omega) ?_
 have k := dot_le (m := m + 1) (n := n + 1) (by omega) (by omega) (a := a) (b := b) (c := c) (d := d) (by omega) (by omega)
 rw [sq2_add]
 have e : (m + n + 2) * (m + n + 2) = (m + 1) * (m + 1) + 2 * ((m + 1) * (n + 1)) + (n + 1) * (n + 1) := by
  rw [show m + n + 2 = (m + 1) + (n + 1) by omega, sq_sum]
 omega
/-! ### Caps -/
def part (x m k : Int) : Int := (x * m).tdiv k
theorem part_neg (x m k : Int) : part (-x) m k = -part x m k := by unfold part; rw [Int.neg_mul, Int.neg_tdiv]
theorem part_nn {x m k : Int} (hx : 0 <= x) (hm : 0 <= m) (hk : 0 < k) : 0 <= part x m k /\ part x m k * k <= x * m := by
 have h0 : 0 <= x * m := Int.mul_nonneg hx hm
 unfold part
 rw [Int.tdiv_eq_ediv_of_nonneg h0]
 refine ⟨Int.ediv_nonneg h0 (by omega), ?_⟩
 have := Int.emod_add_mul_ediv (x * m) k
 have h2 := Int.emod_nonneg (x * m) (show k ≠ 0 by omega)
 rw [Int.mul_comm k] at this
 omega
theorem part_sq {x m k : Int} (hm : 0 <= m) (hk : 0 < k) : part x m k * part x m k * (k * k) <= x * x * (m * m) := by
 have key : ∀ {x : Int}, 0 <= x -> part x m k * part x m k * (k * k) <= x * x * (m * m) := by
  intro x hx
  obtain ⟨h0, h1⟩ := part_nn hx hm hk
  have := sq_mono (Int.mul_nonneg h0 (by omega)) h1
  rw [show part x m k * k * (part x m k * k) = part x m k * part x m k * (k * k) by rw [Int.mul_assoc, Int.mul_assoc, Int.mul_left_comm k]] at this
  rw [show x * m * (x * m) = x * x * (m * m) by rw [Int.mul_assoc, Int.mul_assoc, Int.mul_left_comm m]] at this
  exact this
 rcases Int.le_total 0 x with h | h
 ·exact key h
 ·have := key (x := -x) (by omega)
  rw [part_neg, sq_neg, sq_neg] at this
  exact this
theorem part_sign {x m k : Int} (hm : 0 <= m) (hk : 0 < k) : (0 <= x -> 0 <= part x m k) /\ (x <= 0 -> part x m k <= 0) := by
 refine ⟨fun h => (part_nn h hm hk).1, fun h => ?_⟩
 have := (part_nn (x := -x) (by omega) hm hk).1
 rw [part_neg] at this
 omega
theorem cap_short {x y m : Int} (h0 : -2147483647 <= x) (h1 : x <= 2147483647) (k0 : -2147483647 <= y) (k1 : y <= 2147483647) (hm : 0 <= m) :
  sq2 (part x m (far x y + 1)) (part y m (far x y + 1)) <= m * m := by
 have f := far_ok h0 h1 k0 k1
 have a := part_sq (x := x) (m := m) (k := far x y + 1) hm (by omega)
 have b := part_sq (x := y) (m := m) (k := far x y + 1) hm (by omega)
 obtain ⟨k, ek⟩ : ∃ k, far x y + 1 = k := ⟨_, rfl⟩
 rw [ek] at a b f ⊢
 have hk : 1 <= k := by omega
 have e : sq2 (part x m k) (part y m k) * (k * k) <= sq2 x y * (m * m) := by
  unfold sq2
  rw [Int.add_mul, Int.add_mul]
  omega
 have e2 : sq2 x y * (m * m) <= k * k * (m * m) := Int.mul_le_mul_of_nonneg_right (by omega) (sq_nn m)
 have e3 : k * k * (m * m) = m * m * (k * k) := Int.mul_comm ..
 have hkk : 0 < k * k := Int.mul_pos (by omega) (by omega)
 exact Int.le_of_mul_le_mul_right (by omega : sq2 (part x m k) (part y m k) * (k * k) <= m * m * (k * k)) hkk
theorem part_le {x m k : Int} (hm : 0 <= m) (hmk : m <= k) (hk : 0 < k) (h0 : -2147483647 <= x) (h1 : x <= 2147483647) : -2147483647 <= part x m k /\ part x m k <= 2147483647 := by
 have key : ∀ {x : Int}, 0 <= x -> x <= 2147483647 -> 0 <= part x m k /\ part x m k <= 2147483647 := by
  intro x hx hx1
  obtain ⟨a, b⟩ := part_nn hx hm hk
  have c : x * m <= x * k := Int.mul_le_mul_of_nonneg_left hmk hx
  exact ⟨a, Int.le_trans (Int.le_of_mul_le_mul_right (Int.le_trans b c) hk) hx1⟩
 rcases Int.le_total 0 x with h | h
 ·have := key h h1; omega
 ·have := key (x := -x) (by omega) (by omega)
  rw [part_neg] at this
  omega
/-! ### Directions -/
theorem dir_eq (n : Int) : (if n.tmod 16 < 0 then n.tmod 16 + 16 else n.tmod 16) = n % 16 := by
 rcases Int.le_total 0 n with h | h
 ·rw [Int.tmod_eq_emod_of_nonneg h]
  split <;> omega
 ·have e : n.tmod 16 = -((-n) % 16) := by
   rw [<- Int.tmod_eq_emod_of_nonneg (show 0 <= -n by omega), Int.neg_tmod]; omega
  rw [e]
  split <;> omega
theorem turn_eq (d b : Int) : (d % 16 + b % 16) % 16 = (d + b) % 16 := by omega
def unitX : List Int := [256, 237, 181, 98, 0, -98, -181, -237, -256, -237, -181, -98, 0, 98, 181, 237]
def unitY : List Int := [0, 98, 181, 237, 256, 237, 181, 98, 0, -98, -181, -237, -256, -237, -181, -98]
def ux (d : Nat) : Int := unitX.getD d 0
def uy (d : Nat) : Int := unitY.getD d 0
theorem units_about : ∀ d, d < 16 -> ux ((d + 8) % 16) = -ux d /\ uy ((d + 8) % 16) = -uy d := by decide
theorem ux_in : ∀ d, d < 16 -> -256 <= ux d /\ ux d <= 256 := by decide
theorem uy_in : ∀ d, d < 16 -> -256 <= uy d /\ uy d <= 256 := by decide
def dot (x y : Int) (d : Nat) : Int := x * ux d + y * uy d
def Best (g : Nat -> Int) (n b : Nat) : Prop := b < n /\ (∀ d, d < n -> g d <= g b) /\ ∀ d, d < b -> g d < g b
theorem Best.one {g : Nat -> Int} {n b c : Nat} (h : Best g n b) (k : Best g n c) : b = c := by
 obtain ⟨h1, h2, h3⟩ := h
 obtain ⟨k1, k2, k3⟩ := k
 rcases Nat.lt_trichotomy b c with l | l | l
 ·have := k3 b l; have := h2 c k1; omega
 ·exact l
 ·have := h3 c l; have := k2 b h1; omega
theorem Best.start (g : Nat -> Int) : Best g 1 0 := ⟨by omega, fun d hd => (by
 obtain rfl : d = 0 := by omega
 exact Int.le_refl _), fun d hd => (by omega)⟩
theorem Best.more {g : Nat -> Int} {n b : Nat} (h : Best g n b) (hc : g b < g n) : Best g (n + 1) n := by
 obtain ⟨h1, h2, h3⟩ := h
 refine ⟨by omega, fun d hd => ?_, fun d hd => ?_⟩
 ·rcases Nat.lt_or_ge d n with k | k
  ·have := h2 d k; omega
  ·obtain rfl : d = n := by omega
   exact Int.le_refl _
 ·have := h2 d hd; omega
theorem Best.less {g : Nat -> Int} {n b : Nat} (h : Best g n b) (hc : ¬ g b < g n) : Best g (n + 1) b := by
 obtain ⟨h1, h2, h3⟩ := h
 refine ⟨by omega, fun d hd => ?_, h3⟩
 rcases Nat.lt_or_ge d n with k | k
 ·exact h2 d k
 ·obtain rfl : d = n := by omega
  omega
theorem best_unit : ∀ d, d < 16 -> Best (dot (ux d) (uy d)) 16 d := by
 have h : ∀ d, d < 16 -> (∀ e, e < 16 -> dot (ux d) (uy d) e <= dot (ux d) (uy d) d) /\ ∀ e, e < 16 -> (e < d -> dot (ux d) (uy d) e < dot (ux d) (uy d) d) := by decide
 exact fun d hd => ⟨hd, (h d hd).1, fun e he => (h d hd).2 e (by omega) he⟩
/-! ### Boxes: the four numbers -/
def okB (ax ay bx byy : Int) : Prop := -2147483647 <= ax /\ ax <= 2147483647 /\ -2147483647 <= ay /\ ay <= 2147483647 /\ -2147483647 <= bx /\ bx <= 2147483647 /\ -2147483647 <= byy /\ byy <= 2147483647 /\ ax <= bx /\ ay <= byy
def mx (a b : Int) : Int := if a < b then b else a
def mn (a b : Int) : Int := if b < a then b else a
theorem meet_in {ax ay bx byy cx cy dx dy px py : Int} : (ax <= px /\ px <= bx /\ ay <= py /\ py <= byy) /\ (cx <= px /\ px <= dx /\ cy <= py /\ py <= dy) ↔
  (mx ax cx <= px /\ px <= mn bx dx /\ mx ay cy <= py /\ py <= mn byy dy) := by
 unfold mx mn
 repeat' split
 all_goals omega
theorem mx_comm (a b : Int) : mx a b = mx b a := by unfold mx; repeat' split; all_goals omega
theorem mn_comm (a b : Int) : mn a b = mn b a := by unfold mn; repeat' split; all_goals omega
end Go.Proofs.YtdljmpjfiggdiaaDoor.Gp
namespace Go.Proofs.YtdljmpjfiggdiaaDoor
open Go.RowKit
open Pu
theorem ret_int {k : IntKind} {a b : Int} (h : a = b) : Ending.returned (.int k a) = .returned (.int k b) := by rw [h]
end Go.Proofs.YtdljmpjfiggdiaaDoor
namespace Go.Proofs.YtdljmpjfiggdiaaDoor
open Go.RowKit
open Pu Gp
theorem isqL_eq (n : Int) : isqF 32 0 n = isqL n := rfl
theorem and15 (n : Int) : bits .and .i64 n 15 = n % 16 := by
 have h15 : (BitVec.ofInt 64 15).toNat = 2 ^ 4 - 1 := by decide
 have key : (BitVec.ofInt 64 n &&& BitVec.ofInt 64 15).toNat = (n % ((2 ^ 64 : Nat) : Int)).toNat % 2 ^ 4 := by
  rw [BitVec.toNat_and, BitVec.toNat_ofInt, h15, Nat.and_two_pow_sub_one_eq_mod]
 show IntKind.i64.wrap ((BitVec.ofInt 64 n &&& BitVec.ofInt 64 15).toNat : Nat) = n % 16
 rw [key, IntKind.wrap_i64]
 omega
theorem tmod_in (n : Int) : -16 < n.tmod 16 /\ n.tmod 16 < 16 := by
 rcases Int.le_total 0 n with h | h
 ·rw [Int.tmod_eq_emod_of_nonneg h]
  omega
 ·have e : n.tmod 16 = -((-n) % 16) := by
   rw [<- Int.tmod_eq_emod_of_nonneg (show 0 <= -n by omega), Int.neg_tmod]; omega
  omega
end Go.Proofs.YtdljmpjfiggdiaaDoor
