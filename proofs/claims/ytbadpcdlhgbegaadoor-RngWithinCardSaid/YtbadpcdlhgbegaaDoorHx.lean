/- Plain: a number and itself, shifted. No program is named here. -/
namespace Go.Proofs.YtbadpcdlhgbegaaDoor.Hx

def turn (n k : Nat) : Nat := n ^^^ n / 2 ^ k
theorem turn_lt {n : Nat} (h : n < 18446744073709551616) (k : Nat) : turn n k < 18446744073709551616 := by
  have h2 : n / 2 ^ k < 18446744073709551616 := Nat.lt_of_le_of_lt (Nat.div_le_self _ _) h
  have e : (2 : Nat) ^ 64 = 18446744073709551616 := by decide
  have := Nat.xor_lt_two_pow (n := 64) (by rw [e]; exact h) (by rw [e]; exact h2)
  rwa [e] at this
end Go.Proofs.YtbadpcdlhgbegaaDoor.Hx
