/- The model's bits, as sums and remainders. No function of the program is named here. -/
import Derived.Test.YthgjhfooodcfbaaCp
import Derived.Laws.DeepNot64
import Derived.Laws.BitsLemmas
import Derived.Lib.EndianBits
namespace Go.Proofs.Ythgjhfooodcfbaa

theorem not64 (n : Int) (h1 : -9223372036854775808 ≤ n) (h2 : n ≤ 9223372036854775807) : bits .xor .i64 (-1) n = -1 - n := by
  show IntKind.i64.wrap ((BitVec.ofInt 64 (-1) ^^^ BitVec.ofInt 64 n).toNat : Int) = _
  have h : BitVec.ofInt 64 (-1) = BitVec.allOnes 64 := by decide
  rw [h, BitVec.allOnes_xor, BitVec.toNat_not, BitVec.toNat_ofInt]
  simp [IntKind.wrap, IntKind.bits, IntKind.signed]
  omega
/-- a group of seven bits; the one that says that more follow -/
theorem and127_u64 (n : Int) (h0 : 0 ≤ n) (h1 : n < 18446744073709551616) : bits .and .u64 n 127 = n % 128 := bits_mask .u64 64 (by decide) wraps_u64 7 (by decide) n h0 h1
theorem and127_u8 (n : Int) (h0 : 0 ≤ n) (h1 : n < 256) : bits .and .u8 n 127 = n % 128 := bits_mask .u8 8 (by decide) wraps_u8 7 (by decide) n h0 h1
theorem or128_u8 (n : Int) (h0 : 0 ≤ n) (h1 : n < 128) : bits .or .u8 n 128 = n + 128 := bits_join_low .u8 8 (by decide) wraps_u8 7 n 128 h0 h1 (by omega) (by decide) (by decide) (by decide)
/-- the group at place i joined to what is there -/
theorem or_group (a g i : Nat) (ha : a < 128 ^ i) (hs : g * 128 ^ i < 18446744073709551616) (hi : i ≤ 9) : bits .or .u64 (a : Int) (IntKind.u64.wrap ((g : Int) * 2 ^ (7 * i))) = ((a + g * 128 ^ i : Nat) : Int) := by
  have hp : (2 : Nat) ^ (7 * i) = 128 ^ i := by rw [Nat.pow_mul]
  have hpi : (2 : Int) ^ (7 * i) = ((128 ^ i : Nat) : Int) := by rw [← hp]; simp
  have hle := Cp.pow9 i hi
  have hw : IntKind.u64.wrap ((g : Int) * 2 ^ (7 * i)) = ((g * 128 ^ i : Nat) : Int) := by
    rw [hpi, ← Int.natCast_mul]
    exact wraps_u64 _ (by omega) (by omega)
  rw [hw]
  have h := bits_join_low .u64 64 (by decide) wraps_u64 (7 * i) (a : Int) ((g * 128 ^ i : Nat) : Int) (by omega) (by rw [hpi]; omega) (by omega) (by omega)
    (by rw [hpi, ← Int.natCast_emod, Nat.mul_mod_left]; rfl) (by omega)
  rw [h]
  omega
end Go.Proofs.Ythgjhfooodcfbaa
