/- Plain: digits to the base sixteen, the highest first; what is mixed. No program is named here. -/
namespace Go.Proofs.YtpdgbalhbfpdeaaDoor.Hx

/-- The digit. -/
def dig (n : Nat) : UInt8 := if n < 10 then UInt8.ofNat (48 + n) else UInt8.ofNat (87 + n)
/-- The last k digits of n, the highest first. -/
def hx (n : Nat) : Nat → List UInt8
  | 0 => []
  | k + 1 => dig (n / 16 ^ k % 16) :: hx n k

theorem dig_toNat {n : Nat} (h : n < 16) : (dig n).toNat = if n < 10 then 48 + n else 87 + n := by
  unfold dig
  split
  · rw [UInt8.toNat_ofNat', Nat.mod_eq_of_lt (by omega)]
  · rw [UInt8.toNat_ofNat', Nat.mod_eq_of_lt (by omega)]
theorem dig_inj {a b : Nat} (ha : a < 16) (hb : b < 16) (h : dig a = dig b) : a = b := by
  have e := congrArg UInt8.toNat h
  rw [dig_toNat ha, dig_toNat hb] at e
  split at e <;> split at e <;> omega
theorem hx_length (n k : Nat) : (hx n k).length = k := by
  induction k with
  | zero => rfl
  | succ k ih => simp [hx, ih]
theorem pow_step (k : Nat) : 16 ^ (k + 1) = 16 ^ k * 16 := Nat.pow_succ ..
theorem pow_pos16 (k : Nat) : 0 < 16 ^ k := Nat.pow_pos (by omega)
/-- Noughts ahead change nothing. -/
theorem hx_pad (n m j : Nat) (h : n < 16 ^ m) : hx n (j + m) = List.replicate j 48 ++ hx n m := by
  induction j with
  | zero => simp
  | succ j ih =>
    have e : j + 1 + m = (j + m) + 1 := by omega
    have hz : n / 16 ^ (j + m) = 0 := Nat.div_eq_of_lt (Nat.lt_of_lt_of_le h (Nat.pow_le_pow_right (by omega) (by omega)))
    rw [e, hx, hz, ih, List.replicate_succ]
    rfl
theorem hx_get (n : Nat) : ∀ (k j : Nat) (hj : j < k), (hx n k)[j]'(by rw [hx_length]; exact hj) = dig (n / 16 ^ (k - 1 - j) % 16)
  | k + 1, 0, _ => by simp [hx]
  | k + 1, j + 1, h => by
    have ih := hx_get n k j (by omega)
    simp only [hx, List.getElem_cons_succ]
    rw [ih]
    rw [show k + 1 - 1 - (j + 1) = k - 1 - j by omega]
theorem hx_inj (k : Nat) : ∀ (a b : Nat), hx a k = hx b k → a % 16 ^ k = b % 16 ^ k := by
  induction k with
  | zero => intro a b _; simp [Nat.mod_one]
  | succ k ih =>
    intro a b h
    simp only [hx, List.cons.injEq] at h
    have h1 := dig_inj (Nat.mod_lt _ (by omega)) (Nat.mod_lt _ (by omega)) h.1
    have h2 := ih a b h.2
    rw [Nat.pow_succ, Nat.mod_mul, Nat.mod_mul, h1, h2]
theorem hx16_inj {a b : Nat} (ha : a < 18446744073709551616) (hb : b < 18446744073709551616) (h : hx a 16 = hx b 16) : a = b := by
  have e := hx_inj 16 a b h
  have e16 : (16 : Nat) ^ 16 = 18446744073709551616 := by decide
  rw [e16] at e
  omega
/-- One digit more, from the highest one on. -/
theorem div_step (d k : Nat) (hk : k < 16) : d / 16 ^ (16 - (k + 1)) = d / 16 ^ (16 - k) * 16 + d / 16 ^ (15 - k) % 16 := by
  have e1 : 16 - (k + 1) = 15 - k := by omega
  have e2 : 16 - k = (15 - k) + 1 := by omega
  rw [e1, e2, Nat.pow_succ, ← Nat.div_div_eq_div_mul]
  omega
theorem div_small (d k : Nat) (hd : d < 18446744073709551616) (hk : k < 16) : d / 16 ^ (16 - k) < 1152921504606846976 := by
  have e2 : 16 - k = (15 - k) + 1 := by omega
  rw [e2, Nat.pow_succ, ← Nat.div_div_eq_div_mul]
  have : d / 16 ^ (15 - k) ≤ d := Nat.div_le_self _ _
  omega

/- Mixed. -/
def turn (n k : Nat) : Nat := n ^^^ n / 2 ^ k
theorem turn_inj (k : Nat) {a b : Nat} (hk : 0 < k) (h : turn a k = turn b k) : a = b := by
  unfold turn at h
  rw [← Nat.shiftRight_eq_div_pow, ← Nat.shiftRight_eq_div_pow] at h
  have e : a ^^^ b = a >>> k ^^^ b >>> k := by
    calc a ^^^ b = (a ^^^ a >>> k) ^^^ (a >>> k ^^^ b) := by
          rw [Nat.xor_assoc, ← Nat.xor_assoc (a >>> k), Nat.xor_self, Nat.zero_xor]
      _ = (b ^^^ b >>> k) ^^^ (a >>> k ^^^ b) := by rw [h]
      _ = a >>> k ^^^ b >>> k := by
          rw [Nat.xor_comm b, Nat.xor_comm (a >>> k) b, Nat.xor_assoc, ← Nat.xor_assoc b, Nat.xor_self, Nat.zero_xor, Nat.xor_comm]
  rw [← Nat.shiftRight_xor_distrib, Nat.shiftRight_eq_div_pow] at e
  have hz : a ^^^ b = 0 := by
    apply Nat.eq_zero_of_not_pos
    intro hp
    have hl : (a ^^^ b) / 2 ^ k < a ^^^ b := Nat.div_lt_self hp (Nat.one_lt_two_pow (by omega))
    omega
  have : a ^^^ (a ^^^ b) = a ^^^ 0 := by rw [hz]
  rw [← Nat.xor_assoc, Nat.xor_self, Nat.zero_xor, Nat.xor_zero] at this
  exact this.symm
def first (n : Nat) : Nat := n * 13787848793156543929 % 18446744073709551616
def second (n : Nat) : Nat := n * 10723151780598845931 % 18446744073709551616
def mix (n : Nat) : Nat := turn (second (turn (first (turn n 30)) 27)) 31
theorem turn_lt {n : Nat} (h : n < 18446744073709551616) (k : Nat) : turn n k < 18446744073709551616 := by
  have h2 : n / 2 ^ k < 18446744073709551616 := Nat.lt_of_le_of_lt (Nat.div_le_self _ _) h
  have e : (2 : Nat) ^ 64 = 18446744073709551616 := by decide
  have := Nat.xor_lt_two_pow (n := 64) (by rw [e]; exact h) (by rw [e]; exact h2)
  rwa [e] at this
theorem first_lt (n : Nat) : first n < 18446744073709551616 := by unfold first; exact Nat.mod_lt _ (by omega)
theorem second_lt (n : Nat) : second n < 18446744073709551616 := by unfold second; exact Nat.mod_lt _ (by omega)
theorem mix_lt (n : Nat) : mix n < 18446744073709551616 := by unfold mix; exact turn_lt (second_lt _) 31
theorem key1 (x : Nat) (hx : x < 18446744073709551616) : x * 13787848793156543929 % 18446744073709551616 * 10871156337175269513 % 18446744073709551616 = x := by
  have hc : (13787848793156543929 : Nat) * 10871156337175269513 = 18446744073709551616 * 8125545580553827436 + 1 := by decide +kernel
  generalize (13787848793156543929 : Nat) = c at hc ⊢
  generalize (10871156337175269513 : Nat) = i at hc ⊢
  generalize (8125545580553827436 : Nat) = q at hc
  rw [Nat.mul_mod (x * c % 18446744073709551616) i, Nat.mod_mod, ← Nat.mul_mod, Nat.mul_assoc, hc, Nat.mul_add, Nat.mul_one, Nat.mul_left_comm, Nat.mul_add_mod]
  exact Nat.mod_eq_of_lt hx
theorem mul1_inj {a b : Nat} (ha : a < 18446744073709551616) (hb : b < 18446744073709551616) (h : first a = first b) : a = b := by
  unfold first at h
  rw [← key1 a ha, ← key1 b hb, h]
theorem key2 (x : Nat) (hx : x < 18446744073709551616) : x * 10723151780598845931 % 18446744073709551616 * 3573116690164977347 % 18446744073709551616 = x := by
  have hc : (10723151780598845931 : Nat) * 3573116690164977347 = 18446744073709551616 * 2077064247507883091 + 1 := by decide +kernel
  generalize (10723151780598845931 : Nat) = c at hc ⊢
  generalize (3573116690164977347 : Nat) = i at hc ⊢
  generalize (2077064247507883091 : Nat) = q at hc
  rw [Nat.mul_mod (x * c % 18446744073709551616) i, Nat.mod_mod, ← Nat.mul_mod, Nat.mul_assoc, hc, Nat.mul_add, Nat.mul_one, Nat.mul_left_comm, Nat.mul_add_mod]
  exact Nat.mod_eq_of_lt hx
theorem mul2_inj {a b : Nat} (ha : a < 18446744073709551616) (hb : b < 18446744073709551616) (h : second a = second b) : a = b := by
  unfold second at h
  rw [← key2 a ha, ← key2 b hb, h]
theorem mix_inj {a b : Nat} (ha : a < 18446744073709551616) (hb : b < 18446744073709551616) (h : mix a = mix b) : a = b := by
  unfold mix at h
  have h1 : second (turn (first (turn a 30)) 27) = second (turn (first (turn b 30)) 27) := turn_inj 31 (by omega) h
  have h2 : turn (first (turn a 30)) 27 = turn (first (turn b 30)) 27 := mul2_inj (turn_lt (first_lt _) 27) (turn_lt (first_lt _) 27) h1
  have h3 : first (turn a 30) = first (turn b 30) := turn_inj 27 (by omega) h2
  have h4 : turn a 30 = turn b 30 := mul1_inj (turn_lt ha 30) (turn_lt hb 30) h3
  exact turn_inj 30 (by omega) h4
end Go.Proofs.YtpdgbalhbfpdeaaDoor.Hx
