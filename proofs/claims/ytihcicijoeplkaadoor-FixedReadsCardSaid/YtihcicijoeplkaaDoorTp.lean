/- Plain lists of bytes: what the texts of package fixed are. No program is named here. -/
import Derived.Lib.ItoaNum
import Derived.Lib.TrimByte
import Derived.Test.YtihcicijoeplkaaDoorPu
namespace Go.Proofs.YtihcicijoeplkaaDoor.Pu

/-- The last k decimal digits of n. -/
def pad : Nat → Nat → List UInt8
  | 0, _ => []
  | k + 1, n => pad k (n / 10) ++ [UInt8.ofNat (48 + n % 10)]
theorem pad_length : ∀ (k n : Nat), (pad k n).length = k
  | 0, _ => rfl
  | k + 1, n => by rw [pad, List.length_append, pad_length k]; rfl
theorem dec_pad : ∀ (k m n : Nat), 1 ≤ m → n < 10 ^ k → Lib.decDigits (10 ^ k * m + n) = Lib.decDigits m ++ pad k n
  | 0, m, n, _, h => by
    have : n = 0 := by simpa using h
    subst this; simp [pad]
  | k + 1, m, n, hm, h => by
    have hp : 1 ≤ 10 ^ k := Nat.one_le_pow _ _ (by decide)
    have e1 : 10 ^ (k + 1) = 10 * 10 ^ k := by rw [Nat.pow_succ]; omega
    have e2 : 10 ^ (k + 1) * m = 10 * (10 ^ k * m) := by rw [e1, Nat.mul_assoc]
    have e3 : 10 ^ k * 1 ≤ 10 ^ k * m := Nat.mul_le_mul_left _ hm
    generalize 10 ^ (k + 1) * m = A at e2
    have e4 : (A + n) / 10 = 10 ^ k * m + n / 10 := by rw [e2]; omega
    have e5 : (A + n) % 10 = n % 10 := by rw [e2]; omega
    rw [Lib.decDigits, dif_neg (by omega), e4, e5, dec_pad k m (n / 10) hm (by omega), pad, List.append_assoc]
theorem dec_rest {r : Nat} (h : r ≤ 255) : Lib.decDigits (100000000 + r * 390625) = 49 :: pad 8 (r * 390625) := by
  have := dec_pad 8 1 (r * 390625) (by omega) (by omega)
  rw [show 10 ^ 8 * 1 + r * 390625 = 100000000 + r * 390625 by omega, Lib.decDigits_one (show 1 < 10 by omega)] at this
  rw [this]; rfl
/-- What stands behind the point. -/
def tail8 (r : Nat) : List UInt8 := Lib.trimRightB (pad 8 (r * 390625)) 48
/-- A size as text. -/
def sizeL (n : Nat) : List UInt8 := Lib.decDigits (n / 256) ++ if n % 256 = 0 then [] else 46 :: tail8 (n % 256)
/-- A number as text (within the bounds). -/
def printL (x : Int) : List UInt8 := if x < 0 then 45 :: sizeL (-x).toNat else sizeL x.toNat
theorem trimRightB_le (l : List UInt8) (c : UInt8) : (Lib.trimRightB l c).length ≤ l.length := by
  unfold Lib.trimRightB
  have := (List.dropWhile_sublist (l := l.reverse) (· == c)).length_le
  simpa using this
theorem tail8_le (r : Nat) : (tail8 r).length ≤ 8 := by
  have := trimRightB_le (pad 8 (r * 390625)) 48
  rw [pad_length] at this; exact this
theorem dec_le {n : Nat} (h : n ≤ 8388608) : (Lib.decDigits n).length ≤ 7 := by
  rw [Lib.decDigits_length]
  by_cases h0 : n < 10
  · rw [Lib.nDigits_small h0]; omega
  have : ∀ k u, u < 10 ^ (k + 1) → Lib.nDigits u ≤ k + 1 := by
    intro k
    induction k with
    | zero => intro u hu; rw [Lib.nDigits_small (by simpa using hu)]; omega
    | succ k ih =>
      intro u hu
      by_cases hs : u < 10
      · rw [Lib.nDigits_small hs]; omega
      · rw [Lib.nDigits_big hs]
        have := ih (u / 10) (by rw [Nat.pow_succ] at hu; omega)
        omega
  exact this 6 n (by omega)
/-- Reading a text on: the first sign or not, the sign, the whole part, the parts, the place; nothing where it is no such text. -/
def readL : Bool → Int → Int → Int → Int → List UInt8 → Option Int
  | _, sg, wh, pa, _, [] => some (sg * (wh * 256 + pa / 390625))
  | f, sg, wh, pa, pl, b :: l =>
    if b.toNat = 45 ∧ f = true then readL false (-1) wh pa pl l
    else if b.toNat = 46 ∧ pl = 0 then readL false sg wh pa 100000000 l
    else if b.toNat < 48 ∨ 57 < b.toNat ∨ pl = 1 then none
    else if pl = 0 then (if 8388607 < 10 * wh + ((b.toNat : Int) - 48) then none else readL false sg (10 * wh + ((b.toNat : Int) - 48)) pa pl l)
    else readL false sg wh (pa + pl / 10 * ((b.toNat : Int) - 48)) (pl / 10) l
/-- the place: 0, or a power of ten up to the eighth. -/
def Tens (pl : Int) : Prop := pl = 0 ∨ pl = 1 ∨ pl = 10 ∨ pl = 100 ∨ pl = 1000 ∨ pl = 10000 ∨ pl = 100000 ∨ pl = 1000000 ∨ pl = 10000000 ∨ pl = 100000000
theorem Tens.tenth {pl : Int} (h : Tens pl) (h0 : pl ≠ 0) (h1 : pl ≠ 1) : Tens (pl / 10) ∧ 10 * (pl / 10) = pl := by
  unfold Tens at *; omega
theorem Tens.bd {pl : Int} (h : Tens pl) : 0 ≤ pl ∧ pl ≤ 100000000 := by unfold Tens at h; omega
theorem mul_digit {p d : Int} (hp : 0 ≤ p) (h0 : 0 ≤ d) (h9 : d ≤ 9) : 0 ≤ p * d ∧ p * d ≤ 9 * p := by
  refine ⟨Int.mul_nonneg hp h0, ?_⟩
  have := Int.mul_le_mul_of_nonneg_left h9 hp
  omega
def readS (s : List UInt8) : Option Int := readL true 1 0 0 0 s
/-- The number of which the text is. -/
def parseS (l : List UInt8) : Option Int :=
  match readS l with
  | none => none
  | some n => if printL (bnd n) = l then some n else none
end Go.Proofs.YtihcicijoeplkaaDoor.Pu
