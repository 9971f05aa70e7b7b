/- May a map be: the document's answer. -/
import Derived.Test.YtnoaomocdmkigabRc
namespace Go.Proofs.Ytnoaomocdmkigab
open Go.RowKit
open Pu Gp Ap

/-- is the i-th sign reached, and there once -/
def okS (n : Nat) (I : Nat → Bool) (s : ByteArray) (i : Nat) : Bool := byt s i == 35 || (byt s i == 46 || (I i && (byt s i == 42 || (decide (byt s i - 48 ≤ (n : Int)) && decide (fnd s (byt s i) (i + 1) < 0)))))
def allS (n : Nat) (I : Nat → Bool) (s : ByteArray) : Nat → Bool
  | 0 => true
  | k + 1 => allS n I s k && okS n I s k
theorem allS_more {n : Nat} {I : Nat → Bool} {s : ByteArray} : ∀ {k m : Nat}, k ≤ m → allS n I s k = false → allS n I s m = false
  | k, 0, h, e => by obtain rfl : k = 0 := by omega
                     exact e
  | k, m + 1, h, e => by
    by_cases x : k = m + 1
    · subst x; exact e
    · rw [allS, allS_more (k := k) (m := m) (by omega) e]; rfl
theorem allS_congr {n : Nat} {I J : Nat → Bool} {s : ByteArray} (h : ∀ i, I i = J i) : ∀ k, allS n I s k = allS n J s k
  | 0 => rfl
  | k + 1 => by rw [allS, allS, allS_congr h k]; unfold okS; rw [h k]
/-- what Check answers -/
def ChkV (C R : Int) (s : ByteArray) (v : Int) : Prop :=
  (forB C R s = false ∧ v = 61) ∨ (forB C R s = true ∧ mny s < 2 ∧ v = 62) ∨
  (forB C R s = true ∧ 2 ≤ mny s ∧ ∃ (f : Nat) (I : Nat → Bool), fnd s 49 0 = (f : Int) ∧ IsR C.toNat s.size s f I ∧ v = if allS (mny s) I s s.size then 0 else 62)
theorem chkV_one {C R : Int} {s : ByteArray} {v u : Int} (h : ChkV C R s v) (k : ChkV C R s u) : v = u := by
  rcases h with ⟨h1, rfl⟩ | ⟨h1, h2, rfl⟩ | ⟨h1, h2, f, I, h3, h4, rfl⟩ <;> rcases k with ⟨k1, rfl⟩ | ⟨k1, k2, rfl⟩ | ⟨k1, k2, g, J, k3, k4, rfl⟩
  · rfl
  · rw [h1] at k1; cases k1
  · rw [h1] at k1; cases k1
  · rw [h1] at k1; cases k1
  · rfl
  · omega
  · rw [h1] at k1; cases k1
  · omega
  · have e : f = g := by omega
    subst e
    rw [allS_congr (isR_one h4 k4)]
theorem mny_le (s : ByteArray) : ∀ f n, mnyF s f n ≤ n + f
  | 0, n => by simp [mnyF]
  | f + 1, n => by
    rw [mnyF]
    split
    · have := mny_le s f (n + 1); omega
    · omega
theorem mny_one {s : ByteArray} (h : 1 ≤ mny s) : ∃ f : Nat, fnd s 49 0 = (f : Int) ∧ f < s.size := by
  unfold mny at h
  rw [mnyF] at h
  by_cases k : 0 ≤ fnd s (49 + ((0 : Nat) : Int)) 0
  · rcases fnd_spec s 49 0 (by omega) with ⟨e, _⟩ | ⟨f, e, _, h2, _⟩
    · rw [show (49 : Int) + ((0 : Nat) : Int) = 49 by omega, e] at k
      omega
    · exact ⟨f, e, h2⟩
  · rw [if_neg k] at h
    omega
theorem goodN_iff {C R : Int} {s : ByteArray} : ∀ {n : Nat}, goodN C R s n = true → ∀ i, i < n → goodC C R s i = true
  | 0, _, i, hi => by omega
  | n + 1, h, i, hi => by
    rw [goodN, Bool.and_eq_true] at h
    by_cases e : i = n
    · subst e; exact h.2
    · exact goodN_iff h.1 i (by omega)
/-- the signs of a formed map -/
theorem form_sign {C R : Int} {s : ByteArray} (h : forB C R s = true) {i : Nat} (hi : i < s.size) : byt s i = 35 ∨ byt s i = 46 ∨ byt s i = 42 ∨ (49 ≤ byt s i ∧ byt s i ≤ 54) := by
  unfold forB at h
  simp only [Bool.and_eq_true] at h
  have := goodN_iff h.2.1 i hi
  unfold goodC okC at this
  simp only [Bool.or_eq_true, Bool.and_eq_true, beq_iff_eq, decide_eq_true_eq] at this
  omega
theorem form_shape {C R : Int} {s : ByteArray} (h : forB C R s = true) : 3 ≤ C ∧ C ≤ 32 ∧ 3 ≤ R ∧ R ≤ 24 ∧ (s.size : Int) = C * R ∧ s.size ≤ 768 := by
  unfold forB shaB at h
  simp only [Bool.and_eq_true] at h
  obtain ⟨h1, h2, h3, h4, h5⟩ := of_decide_eq_true h.1
  have : C * R ≤ 32 * 24 := Int.mul_le_mul h2 h4 (by omega) (by omega)
  exact ⟨h1, h2, h3, h4, h5, by omega⟩
end Go.Proofs.Ytnoaomocdmkigab
