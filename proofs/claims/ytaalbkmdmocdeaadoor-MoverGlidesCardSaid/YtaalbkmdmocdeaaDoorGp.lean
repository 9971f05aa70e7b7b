/- Plain integers: lengths, caps, directions, boxes. No program is named here. -/
import Derived.Test.YtaalbkmdmocdeaaDoorPu
namespace Go.Proofs.YtaalbkmdmocdeaaDoor.Gp
open Pu

/-! ### Lengths -/
/-- X X + Y Y -/
def sq2 (x y : Int) : Int := x * x + y * y
theorem sq_nn (x : Int) : 0 ≤ x * x := by
  rcases Int.le_total 0 x with h | h
  · exact Int.mul_nonneg h h
  · exact Int.mul_nonneg_of_nonpos_of_nonpos h h
theorem sq2_nn (x y : Int) : 0 ≤ sq2 x y := Int.add_nonneg (sq_nn x) (sq_nn y)
theorem sq_hi {x : Int} (h0 : -2147483647 ≤ x) (h1 : x ≤ 2147483647) : x * x ≤ 4611686014132420609 := (mul_bd h0 h1 h0 h1).2
theorem sq2_hi {x y : Int} (h0 : -2147483647 ≤ x) (h1 : x ≤ 2147483647) (k0 : -2147483647 ≤ y) (k1 : y ≤ 2147483647) : sq2 x y ≤ 9223372028264841218 := by
  have a := sq_hi h0 h1
  have b := sq_hi k0 k1
  unfold sq2
  omega
/-- The root of n, downwards (n below 2^64). -/
def isqL (n : Int) : Int := isqF 32 0 n
theorem isqL_ok {n : Int} (h0 : 0 ≤ n) (h1 : n < 18446744073709551616) : 0 ≤ isqL n ∧ isqL n * isqL n ≤ n ∧ n < (isqL n + 1) * (isqL n + 1) :=
  isqF_ok 32 0 n (by omega) (by omega) (by
    have : ((0 : Int) + 2 ^ 32) * (0 + 2 ^ 32) = 18446744073709551616 := by decide
    omega)
/-- how far a way leads, not bounded -/
def far (x y : Int) : Int := isqL (sq2 x y)
theorem far_ok {x y : Int} (h0 : -2147483647 ≤ x) (h1 : x ≤ 2147483647) (k0 : -2147483647 ≤ y) (k1 : y ≤ 2147483647) :
    0 ≤ far x y ∧ far x y * far x y ≤ sq2 x y ∧ sq2 x y < (far x y + 1) * (far x y + 1) :=
  isqL_ok (sq2_nn x y) (by have := sq2_hi h0 h1 k0 k1; omega)
/-- what squares say of sizes -/
theorem lt_of_sq {a b : Int} (hb : 0 ≤ b) (h : a * a < b * b) : a < b := by
  rcases Int.lt_or_le a b with k | k
  · exact k
  · have := sq_mono hb k
    omega
theorem le_of_sq {a b : Int} (hb : 0 ≤ b) (h : a * a ≤ b * b) : a ≤ b := by
  rcases Int.lt_or_le b a with k | k
  · have h1 : b * b < a * a := by
      have h2 := Int.mul_le_mul_of_nonneg_left (show b + 1 ≤ a by omega) (show 0 ≤ a by omega)
      have h3 := Int.mul_le_mul_of_nonneg_right (show b + 1 ≤ a by omega) hb
      rw [Int.mul_add] at h2
      rw [Int.add_mul] at h3
      omega
    omega
  · exact k
theorem far_le {x y m : Int} (h0 : -2147483647 ≤ x) (h1 : x ≤ 2147483647) (k0 : -2147483647 ≤ y) (k1 : y ≤ 2147483647) (hm : 0 ≤ m) (h : sq2 x y ≤ m * m) : far x y ≤ m := by
  have f := far_ok h0 h1 k0 k1
  exact le_of_sq hm (by omega)
theorem far_hi {x y : Int} (h0 : -2147483647 ≤ x) (h1 : x ≤ 2147483647) (k0 : -2147483647 ≤ y) (k1 : y ≤ 2147483647) : far x y ≤ 3037000499 := by
  refine far_le h0 h1 k0 k1 (by omega) ?_
  have := sq2_hi h0 h1 k0 k1
  omega
theorem sq_neg (x : Int) : -x * -x = x * x := by rw [Int.neg_mul_neg]
theorem far_turn (x y : Int) : far (-x) y = far x y := by unfold far sq2; rw [sq_neg]
theorem far_swap (x y : Int) : far y x = far x y := by unfold far sq2; rw [Int.add_comm]
/-- Cauchy's. -/
theorem sq2_mul (a b c d : Int) : (a * c + b * d) * (a * c + b * d) + (a * d - b * c) * (a * d - b * c) = sq2 a b * sq2 c d := by
  unfold sq2
  have e1 : (a * c + b * d) * (a * c + b * d) = a * a * (c * c) + 2 * (a * c * (b * d)) + b * b * (d * d) := by
    rw [Int.add_mul, Int.mul_add, Int.mul_add, Int.mul_comm (b * d) (a * c)]
    rw [show a * c * (a * c) = a * a * (c * c) by rw [Int.mul_assoc, Int.mul_assoc, Int.mul_left_comm c a c]]
    rw [show b * d * (b * d) = b * b * (d * d) by rw [Int.mul_assoc, Int.mul_assoc, Int.mul_left_comm d b d]]
    omega
  have e2 : (a * d - b * c) * (a * d - b * c) = a * a * (d * d) - 2 * (a * d * (b * c)) + b * b * (c * c) := by
    rw [Int.sub_mul, Int.mul_sub, Int.mul_sub, Int.mul_comm (b * c) (a * d)]
    rw [show a * d * (a * d) = a * a * (d * d) by rw [Int.mul_assoc, Int.mul_assoc, Int.mul_left_comm d a d]]
    rw [show b * c * (b * c) = b * b * (c * c) by rw [Int.mul_assoc, Int.mul_assoc, Int.mul_left_comm c b c]]
    omega
  have e3 : a * d * (b * c) = a * c * (b * d) := by
    rw [Int.mul_assoc, Int.mul_assoc, Int.mul_left_comm d b c, Int.mul_left_comm c b d, Int.mul_comm d c]
  have e4 : (a * a + b * b) * (c * c + d * d) = a * a * (c * c) + a * a * (d * d) + (b * b * (c * c) + b * b * (d * d)) := by
    rw [Int.add_mul, Int.mul_add, Int.mul_add]
  rw [e1, e2, e3, e4]
  omega
theorem dot_le {a b c d m n : Int} (hm : 0 ≤ m) (hn : 0 ≤ n) (h1 : sq2 a b ≤ m * m) (h2 : sq2 c d ≤ n * n) : a * c + b * d ≤ m * n := by
  refine le_of_sq (Int.mul_nonneg hm hn) ?_
  have e := sq2_mul a b c d
  have s := sq_nn (a * d - b * c)
  have k : sq2 a b * sq2 c d ≤ m * m * (n * n) := Int.mul_le_mul h1 h2 (sq2_nn c d) (sq_nn m)
  have e2 : m * n * (m * n) = m * m * (n * n) := by rw [Int.mul_assoc, Int.mul_assoc, Int.mul_left_comm n m n]
  omega
theorem sq_sum (a b : Int) : (a + b) * (a + b) = a * a + 2 * (a * b) + b * b := by
  rw [Int.add_mul, Int.mul_add, Int.mul_add, Int.mul_comm b a]; omega
theorem sq2_add (a b c d : Int) : sq2 (a + c) (b + d) = sq2 a b + 2 * (a * c + b * d) + sq2 c d := by
  unfold sq2
  have e1 : (a + c) * (a + c) = a * a + 2 * (a * c) + c * c := by
    rw [Int.add_mul, Int.mul_add, Int.mul_add, Int.mul_comm c a]; omega
  have e2 : (b + d) * (b + d) = b * b + 2 * (b * d) + d * d := by
    rw [Int.add_mul, Int.mul_add, Int.mul_add, Int.mul_comm d b]; omega
  rw [e1, e2]
  omega
/-- No way is longer than its parts together, but for what is rounded off. -/
theorem far_add {a b c d : Int} (a0 : -1073741823 ≤ a) (a1 : a ≤ 1073741823) (b0 : -1073741823 ≤ b) (b1 : b ≤ 1073741823) (c0 : -1073741823 ≤ c) (c1 : c ≤ 1073741823) (d0 : -1073741823 ≤ d) (d1 : d ≤ 1073741823) :
    far (a + c) (b + d) ≤ far a b + far c d + 2 := by
  have p := far_ok (x := a) (y := b) (by omega) (by omega) (by omega) (by omega)
  have q := far_ok (x := c) (y := d) (by omega) (by omega) (by omega) (by omega)
  obtain ⟨m, em⟩ : ∃ m, far a b = m := ⟨_, rfl⟩
  obtain ⟨n, en⟩ : ∃ n, far c d = n := ⟨_, rfl⟩
  rw [em] at p
  rw [en] at q
  rw [em, en]
  refine far_le (by omega) (by omega) (by omega) (by omega) (by omega) ?_
  have k := dot_le (m := m + 1) (n := n + 1) (by omega) (by omega) (a := a) (b := b) (c := c) (d := d) (by omega) (by omega)
  rw [sq2_add]
  have e : (m + n + 2) * (m + n + 2) = (m + 1) * (m + 1) + 2 * ((m + 1) * (n + 1)) + (n + 1) * (n + 1) := by
    rw [show m + n + 2 = (m + 1) + (n + 1) by omega, sq_sum]
  omega

/-! ### Caps -/
/-- x m / k, without the rest -/
def part (x m k : Int) : Int := (x * m).tdiv k
theorem part_neg (x m k : Int) : part (-x) m k = -part x m k := by unfold part; rw [Int.neg_mul, Int.neg_tdiv]
theorem part_nn {x m k : Int} (hx : 0 ≤ x) (hm : 0 ≤ m) (hk : 0 < k) : 0 ≤ part x m k ∧ part x m k * k ≤ x * m := by
  have h0 : 0 ≤ x * m := Int.mul_nonneg hx hm
  unfold part
  rw [Int.tdiv_eq_ediv_of_nonneg h0]
  refine ⟨Int.ediv_nonneg h0 (by omega), ?_⟩
  have := Int.emod_add_mul_ediv (x * m) k
  have h2 := Int.emod_nonneg (x * m) (show k ≠ 0 by omega)
  rw [Int.mul_comm k] at this
  omega
theorem part_sq {x m k : Int} (hm : 0 ≤ m) (hk : 0 < k) : part x m k * part x m k * (k * k) ≤ x * x * (m * m) := by
  have key : ∀ {x : Int}, 0 ≤ x → part x m k * part x m k * (k * k) ≤ x * x * (m * m) := by
    intro x hx
    obtain ⟨h0, h1⟩ := part_nn hx hm hk
    have := sq_mono (Int.mul_nonneg h0 (by omega)) h1
    rw [show part x m k * k * (part x m k * k) = part x m k * part x m k * (k * k) by rw [Int.mul_assoc, Int.mul_assoc, Int.mul_left_comm k]] at this
    rw [show x * m * (x * m) = x * x * (m * m) by rw [Int.mul_assoc, Int.mul_assoc, Int.mul_left_comm m]] at this
    exact this
  rcases Int.le_total 0 x with h | h
  · exact key h
  · have := key (x := -x) (by omega)
    rw [part_neg, sq_neg, sq_neg] at this
    exact this
theorem part_sign {x m k : Int} (hm : 0 ≤ m) (hk : 0 < k) : (0 ≤ x → 0 ≤ part x m k) ∧ (x ≤ 0 → part x m k ≤ 0) := by
  refine ⟨fun h => (part_nn h hm hk).1, fun h => ?_⟩
  have := (part_nn (x := -x) (by omega) hm hk).1
  rw [part_neg] at this
  omega
/-- no cap makes a way longer than that -/
theorem cap_short {x y m : Int} (h0 : -2147483647 ≤ x) (h1 : x ≤ 2147483647) (k0 : -2147483647 ≤ y) (k1 : y ≤ 2147483647) (hm : 0 ≤ m) :
    sq2 (part x m (far x y + 1)) (part y m (far x y + 1)) ≤ m * m := by
  have f := far_ok h0 h1 k0 k1
  have a := part_sq (x := x) (m := m) (k := far x y + 1) hm (by omega)
  have b := part_sq (x := y) (m := m) (k := far x y + 1) hm (by omega)
  obtain ⟨k, ek⟩ : ∃ k, far x y + 1 = k := ⟨_, rfl⟩
  rw [ek] at a b f ⊢
  have hk : 1 ≤ k := by omega
  have e : sq2 (part x m k) (part y m k) * (k * k) ≤ sq2 x y * (m * m) := by
    unfold sq2
    rw [Int.add_mul, Int.add_mul]
    omega
  have e2 : sq2 x y * (m * m) ≤ k * k * (m * m) := Int.mul_le_mul_of_nonneg_right (by omega) (sq_nn m)
  have e3 : k * k * (m * m) = m * m * (k * k) := Int.mul_comm ..
  have hkk : 0 < k * k := Int.mul_pos (by omega) (by omega)
  exact Int.le_of_mul_le_mul_right (by omega : sq2 (part x m k) (part y m k) * (k * k) ≤ m * m * (k * k)) hkk
theorem part_le {x m k : Int} (hm : 0 ≤ m) (hmk : m ≤ k) (hk : 0 < k) (h0 : -2147483647 ≤ x) (h1 : x ≤ 2147483647) : -2147483647 ≤ part x m k ∧ part x m k ≤ 2147483647 := by
  have key : ∀ {x : Int}, 0 ≤ x → x ≤ 2147483647 → 0 ≤ part x m k ∧ part x m k ≤ 2147483647 := by
    intro x hx hx1
    obtain ⟨a, b⟩ := part_nn hx hm hk
    have c : x * m ≤ x * k := Int.mul_le_mul_of_nonneg_left hmk hx
    exact ⟨a, Int.le_trans (Int.le_of_mul_le_mul_right (Int.le_trans b c) hk) hx1⟩
  rcases Int.le_total 0 x with h | h
  · have := key h h1; omega
  · have := key (x := -x) (by omega) (by omega)
    rw [part_neg] at this
    omega

/-! ### Directions -/
theorem dir_eq (n : Int) : (if n.tmod 16 < 0 then n.tmod 16 + 16 else n.tmod 16) = n % 16 := by
  rcases Int.le_total 0 n with h | h
  · rw [Int.tmod_eq_emod_of_nonneg h]
    split <;> omega
  · have e : n.tmod 16 = -((-n) % 16) := by
      rw [← Int.tmod_eq_emod_of_nonneg (show 0 ≤ -n by omega), Int.neg_tmod]; omega
    rw [e]
    split <;> omega
theorem turn_eq (d b : Int) : (d % 16 + b % 16) % 16 = (d + b) % 16 := by omega
def unitX : List Int := [256, 237, 181, 98, 0, -98, -181, -237, -256, -237, -181, -98, 0, 98, 181, 237]
def unitY : List Int := [0, 98, 181, 237, 256, 237, 181, 98, 0, -98, -181, -237, -256, -237, -181, -98]
def ux (d : Nat) : Int := unitX.getD d 0
def uy (d : Nat) : Int := unitY.getD d 0
theorem units_about : ∀ d, d < 16 → ux ((d + 8) % 16) = -ux d ∧ uy ((d + 8) % 16) = -uy d := by decide
theorem ux_in : ∀ d, d < 16 → -256 ≤ ux d ∧ ux d ≤ 256 := by decide
theorem uy_in : ∀ d, d < 16 → -256 ≤ uy d ∧ uy d ≤ 256 := by decide
/-- how far a way leads in a direction -/
def dot (x y : Int) (d : Nat) : Int := x * ux d + y * uy d
/-- b is the least of the best ones below n -/
def Best (g : Nat → Int) (n b : Nat) : Prop := b < n ∧ (∀ d, d < n → g d ≤ g b) ∧ ∀ d, d < b → g d < g b
theorem Best.one {g : Nat → Int} {n b c : Nat} (h : Best g n b) (k : Best g n c) : b = c := by
  obtain ⟨h1, h2, h3⟩ := h
  obtain ⟨k1, k2, k3⟩ := k
  rcases Nat.lt_trichotomy b c with l | l | l
  · have := k3 b l; have := h2 c k1; omega
  · exact l
  · have := h3 c l; have := k2 b h1; omega
theorem Best.start (g : Nat → Int) : Best g 1 0 := ⟨by omega, fun d hd => (by
  obtain rfl : d = 0 := by omega
  exact Int.le_refl _), fun d hd => (by omega)⟩
theorem Best.more {g : Nat → Int} {n b : Nat} (h : Best g n b) (hc : g b < g n) : Best g (n + 1) n := by
  obtain ⟨h1, h2, h3⟩ := h
  refine ⟨by omega, fun d hd => ?_, fun d hd => ?_⟩
  · rcases Nat.lt_or_ge d n with k | k
    · have := h2 d k; omega
    · obtain rfl : d = n := by omega
      exact Int.le_refl _
  · have := h2 d hd; omega
theorem Best.less {g : Nat → Int} {n b : Nat} (h : Best g n b) (hc : ¬ g b < g n) : Best g (n + 1) b := by
  obtain ⟨h1, h2, h3⟩ := h
  refine ⟨by omega, fun d hd => ?_, h3⟩
  rcases Nat.lt_or_ge d n with k | k
  · exact h2 d k
  · obtain rfl : d = n := by omega
    omega
/-- the way of a direction is headed there -/
theorem best_unit : ∀ d, d < 16 → Best (dot (ux d) (uy d)) 16 d := by
  have h : ∀ d, d < 16 → (∀ e, e < 16 → dot (ux d) (uy d) e ≤ dot (ux d) (uy d) d) ∧ ∀ e, e < 16 → (e < d → dot (ux d) (uy d) e < dot (ux d) (uy d) d) := by decide
  exact fun d hd => ⟨hd, (h d hd).1, fun e he => (h d hd).2 e (by omega) he⟩

/-! ### Boxes: the four numbers -/
def okB (ax ay bx byy : Int) : Prop := -2147483647 ≤ ax ∧ ax ≤ 2147483647 ∧ -2147483647 ≤ ay ∧ ay ≤ 2147483647 ∧ -2147483647 ≤ bx ∧ bx ≤ 2147483647 ∧ -2147483647 ≤ byy ∧ byy ≤ 2147483647 ∧ ax ≤ bx ∧ ay ≤ byy
def mx (a b : Int) : Int := if a < b then b else a
def mn (a b : Int) : Int := if b < a then b else a
/-- what two boxes have in common -/
theorem meet_in {ax ay bx byy cx cy dx dy px py : Int} : (ax ≤ px ∧ px ≤ bx ∧ ay ≤ py ∧ py ≤ byy) ∧ (cx ≤ px ∧ px ≤ dx ∧ cy ≤ py ∧ py ≤ dy) ↔
    (mx ax cx ≤ px ∧ px ≤ mn bx dx ∧ mx ay cy ≤ py ∧ py ≤ mn byy dy) := by
  unfold mx mn
  repeat' split
  all_goals omega
theorem mx_comm (a b : Int) : mx a b = mx b a := by unfold mx; repeat' split; all_goals omega
theorem mn_comm (a b : Int) : mn a b = mn b a := by unfold mn; repeat' split; all_goals omega
end Go.Proofs.YtaalbkmdmocdeaaDoor.Gp
