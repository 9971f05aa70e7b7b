/- Plain: what was laid down is taken up; a script's calls. No program is named here. -/
import Derived.Test.YthgjhfooodcfbaaCs
namespace Go.Proofs.Ythgjhfooodcfbaa.Cp

theorem uint_form {n : Nat} (h : n < 18446744073709551616) (rest : List UInt8) : uintS (form n ++ rest) 0 = (n, rest, 0) := by
  unfold uintS
  rw [num_form0 h]
  simp
theorem first_form {b : List UInt8} (h : b.length < 18446744073709551616) (rest : List UInt8) : firstS (b.length : Int) (counted b ++ rest) = (b, (counted b).length, 0) := by
  unfold firstS counted
  rw [List.append_assoc, num_form0 h]
  dsimp only
  rw [if_neg (by simp), if_neg (by omega), if_neg (by simp)]
  simp
theorem bytes_form {b : List UInt8} (h : b.length < 18446744073709551616) (rest : List UInt8) : bytesS (b.length : Int) (counted b ++ rest) 0 = (b, rest, 0) := by
  unfold bytesS
  rw [first_form h]
  simp
theorem byte_form (b : UInt8) (rest : List UInt8) : byteS (b :: rest) 0 = (b, rest, 0) := by
  unfold byteS
  rw [if_neg (by simp)]

/-- The form of one call's thing: of four kinds. -/
def enc (k : Int) (n : Nat) (i : Int) (b : List UInt8) : List UInt8 :=
  if k = 0 then form n else if k = 1 then form (fold i) else if k = 2 then [UInt8.ofNat (n % 256)] else counted b
theorem enc_le (k : Int) {n : Nat} {i : Int} {b : List UInt8} (hn : n < 18446744073709551616) (h1 : -9223372036854775808 ≤ i) (h2 : i ≤ 9223372036854775807) (hb : b.length < 18446744073709551616) : (enc k n i b).length ≤ 10 + b.length := by
  unfold enc counted
  have a := form_ten hn
  have c := form_ten (fold_lt h1 h2)
  have d := form_ten hb
  repeat' split
  all_goals simp
  all_goals omega
end Go.Proofs.Ythgjhfooodcfbaa.Cp
