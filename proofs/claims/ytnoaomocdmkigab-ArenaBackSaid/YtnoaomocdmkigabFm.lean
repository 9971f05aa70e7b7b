/- Which maps are formed: the document's answer. -/
import Derived.Test.YtnoaomocdmkigabFo
namespace Go.Proofs.Ytnoaomocdmkigab
open Go.RowKit
open Pu Gp Ap

/-- is the i-th cell at the edge -/
def edgB (C R : Int) (i : Nat) : Bool := decide ((i : Int) % C = 0) || decide ((i : Int) / C = 0) || decide ((i : Int) % C = C - 1) || decide ((i : Int) / C = R - 1)
/-- is the i-th sign where it may be -/
def goodC (C R : Int) (s : ByteArray) (i : Nat) : Bool := byt s i == 35 || (!edgB C R i && okC (byt s i))
def goodN (C R : Int) (s : ByteArray) : Nat → Bool
  | 0 => true
  | n + 1 => goodN C R s n && goodC C R s n
def spoN (s : ByteArray) : Nat → Nat
  | 0 => 0
  | n + 1 => spoN s n + if byt s n = 42 then 1 else 0
def shaB (C R : Int) (s : ByteArray) : Bool := decide (3 ≤ C ∧ C ≤ 32 ∧ 3 ≤ R ∧ R ≤ 24 ∧ (s.size : Int) = C * R)
def forB (C R : Int) (s : ByteArray) : Bool := shaB C R s && (goodN C R s s.size && decide (spoN s s.size ≤ 16))
theorem good_more {C R : Int} {s : ByteArray} : ∀ {n m : Nat}, n ≤ m → goodN C R s n = false → goodN C R s m = false
  | n, 0, h, k => by obtain rfl : n = 0 := by omega
                     exact k
  | n, m + 1, h, k => by
    by_cases e : n = m + 1
    · subst e; exact k
    · rw [goodN, good_more (n := n) (m := m) (by omega) k]; rfl
theorem spo_le (s : ByteArray) : ∀ n, spoN s n ≤ n
  | 0 => Nat.le_refl _
  | n + 1 => by
    have := spo_le s n
    rw [spoN]
    split <;> omega
/-- the ways of the edge, as the tests ask -/
theorem edge_ways (C R q m : Int) : ((decide (m = 0) || decide (q = 0) || decide (m = C - 1) || decide (q = R - 1)) = true ∧ ((m == 0) = true ∨ ((m == 0) = false ∧ (q == 0) = true) ∨ ((m == 0) = false ∧ (q == 0) = false ∧ (m == C - 1) = true) ∨ ((m == 0) = false ∧ (q == 0) = false ∧ (m == C - 1) = false ∧ (q == R - 1) = true))) ∨
    ((decide (m = 0) || decide (q = 0) || decide (m = C - 1) || decide (q = R - 1)) = false ∧ (m == 0) = false ∧ (q == 0) = false ∧ (m == C - 1) = false ∧ (q == R - 1) = false) := by
  by_cases h1 : m = 0
  · exact .inl ⟨by simp [h1], .inl (by simpa using h1)⟩
  by_cases h2 : q = 0
  · exact .inl ⟨by simp [h2], .inr (.inl ⟨by simpa using h1, by simpa using h2⟩)⟩
  by_cases h3 : m = C - 1
  · exact .inl ⟨by simp [h3], .inr (.inr (.inl ⟨by simpa using h1, by simpa using h2, by simpa using h3⟩))⟩
  by_cases h4 : q = R - 1
  · exact .inl ⟨by simp [h4], .inr (.inr (.inr ⟨by simpa using h1, by simpa using h2, by simpa using h3, by simpa using h4⟩))⟩
  · exact .inr ⟨by simp [h1, h2, h3, h4], by simpa using h1, by simpa using h2, by simpa using h3, by simpa using h4⟩
end Go.Proofs.Ytnoaomocdmkigab
