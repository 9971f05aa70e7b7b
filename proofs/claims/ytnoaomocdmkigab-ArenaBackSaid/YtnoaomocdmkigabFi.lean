/- Signs of a map: the document's find, signs. -/
import Derived.Test.YtnoaomocdmkigabTo
namespace Go.Proofs.Ytnoaomocdmkigab
open Go.RowKit
open Pu Gp Ap

/-- the place of a sign from i on; -1: there is none -/
def fndF (s : ByteArray) (c : Int) : Nat → Nat → Int
  | 0, _ => -1
  | f + 1, i => if byt s i = c then (i : Int) else fndF s c f (i + 1)
def fnd (s : ByteArray) (c : Int) (i : Nat) : Int := fndF s c (s.size - i) i
theorem fnd_end {s : ByteArray} {c : Int} {i : Nat} (h : s.size ≤ i) : fnd s c i = -1 := by
  unfold fnd
  rw [show s.size - i = 0 by omega]
  rfl
theorem fnd_hit {s : ByteArray} {c : Int} {i : Nat} (h : i < s.size) (hc : byt s i = c) : fnd s c i = (i : Int) := by
  unfold fnd
  rw [show s.size - i = (s.size - (i + 1)) + 1 by omega, fndF, if_pos hc]
theorem fnd_miss {s : ByteArray} {c : Int} {i : Nat} (h : i < s.size) (hc : ¬ byt s i = c) : fnd s c i = fnd s c (i + 1) := by
  unfold fnd
  rw [show s.size - i = (s.size - (i + 1)) + 1 by omega, fndF, if_neg hc]
theorem fndF_spec (s : ByteArray) (c : Int) : ∀ (f i : Nat), i + f = s.size → (fndF s c f i = -1 ∧ ∀ j, i ≤ j → j < s.size → byt s j ≠ c) ∨ ∃ k : Nat, fndF s c f i = (k : Int) ∧ i ≤ k ∧ k < s.size ∧ byt s k = c ∧ ∀ j, i ≤ j → j < k → byt s j ≠ c
  | 0, i, h => .inl ⟨rfl, fun j h1 h2 => by omega⟩
  | f + 1, i, h => by
    rw [fndF]
    by_cases hc : byt s i = c
    · rw [if_pos hc]
      exact .inr ⟨i, rfl, Nat.le_refl _, by omega, hc, fun j h1 h2 => by omega⟩
    · rw [if_neg hc]
      rcases fndF_spec s c f (i + 1) (by omega) with ⟨e, h1⟩ | ⟨k, e, h1, h2, h3, h4⟩
      · refine .inl ⟨e, fun j j1 j2 => ?_⟩
        by_cases ej : j = i
        · subst ej; exact hc
        · exact h1 j (by omega) j2
      · refine .inr ⟨k, e, by omega, h2, h3, fun j j1 j2 => ?_⟩
        by_cases ej : j = i
        · subst ej; exact hc
        · exact h4 j (by omega) j2
/-- what is found is the first one -/
theorem fnd_spec (s : ByteArray) (c : Int) (i : Nat) (h : i ≤ s.size) : (fnd s c i = -1 ∧ ∀ j, i ≤ j → j < s.size → byt s j ≠ c) ∨ ∃ k : Nat, fnd s c i = (k : Int) ∧ i ≤ k ∧ k < s.size ∧ byt s k = c ∧ ∀ j, i ≤ j → j < k → byt s j ≠ c :=
  fndF_spec s c (s.size - i) i (by omega)
theorem byt_in (s : ByteArray) (i : Nat) : 0 ≤ byt s i ∧ byt s i ≤ 255 := by
  unfold byt
  have := (s.data.toList.getD i 0).toNat_lt
  omega
/-- is it a sign -/
def okC (c : Int) : Bool := c == 35 || c == 46 || c == 42 || (decide (49 ≤ c) && decide (c ≤ 54))
def sgnsB (s : ByteArray) : Nat → Bool
  | 0 => true
  | n + 1 => sgnsB s n && okC (byt s n)
theorem sgns_more {s : ByteArray} : ∀ {n m : Nat}, n ≤ m → sgnsB s n = false → sgnsB s m = false
  | n, 0, h, k => by obtain rfl : n = 0 := by omega
                     exact k
  | n, m + 1, h, k => by
    by_cases e : n = m + 1
    · subst e; exact k
    · rw [sgnsB, sgns_more (n := n) (m := m) (by omega) k]; rfl
theorem sgns_iff {s : ByteArray} : ∀ {n : Nat}, sgnsB s n = true ↔ ∀ i, i < n → okC (byt s i) = true
  | 0 => ⟨fun _ i h => by omega, fun _ => rfl⟩
  | n + 1 => by
    rw [sgnsB, Bool.and_eq_true, sgns_iff]
    constructor
    · rintro ⟨h1, h2⟩ i hi
      by_cases e : i = n
      · subst e; exact h2
      · exact h1 i (by omega)
    · intro h
      exact ⟨fun i hi => h i (by omega), h n (by omega)⟩
/-- the ways a byte can be a sign, or none, as the tests ask -/
theorem sign_ways (b : Int) : (okC b = true ∧ (b = 35 ∨ b = 46 ∨ b = 42 ∨ ((b != 35) = true ∧ (b != 46) = true ∧ (b != 42) = true ∧ decide (b < 49) = false ∧ decide (54 < b) = false))) ∨
    (okC b = false ∧ (b != 35) = true ∧ (b != 46) = true ∧ (b != 42) = true ∧ (decide (b < 49) = true ∨ (decide (b < 49) = false ∧ decide (54 < b) = true))) := by
  unfold okC
  by_cases h1 : b = 35
  · subst h1; exact .inl ⟨by decide, .inl rfl⟩
  by_cases h2 : b = 46
  · subst h2; exact .inl ⟨by decide, .inr (.inl rfl)⟩
  by_cases h3 : b = 42
  · subst h3; exact .inl ⟨by decide, .inr (.inr (.inl rfl))⟩
  have n1 : (b != 35) = true := by simpa using h1
  have n2 : (b != 46) = true := by simpa using h2
  have n3 : (b != 42) = true := by simpa using h3
  by_cases h4 : b < 49
  · exact .inr ⟨by simp [h1, h2, h3]; omega, n1, n2, n3, .inl (by simpa using h4)⟩
  by_cases h5 : 54 < b
  · exact .inr ⟨by simp [h1, h2, h3]; omega, n1, n2, n3, .inr ⟨by simpa using h4, by simpa using h5⟩⟩
  · exact .inl ⟨by simp; omega, .inr (.inr (.inr ⟨n1, n2, n3, by simpa using h4, by simpa using h5⟩))⟩
end Go.Proofs.Ytnoaomocdmkigab
