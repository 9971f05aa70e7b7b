/- Plain: what a reader answers, and what is left. No program is named here. -/
import Derived.Test.YthgjhfooodcfbaaCp
namespace Go.Proofs.Ythgjhfooodcfbaa.Cp

/-- A number without a sign is taken up: the answer, the bytes that are left, the error. -/
def uintS (bs : List UInt8) (e : Int) : Nat × List UInt8 × Int :=
  if e ≠ 0 then (0, bs, e) else if (num 0 0 bs).2.2 ≠ 0 then (0, bs, (num 0 0 bs).2.2) else ((num 0 0 bs).1, bs.drop (num 0 0 bs).2.1, 0)
def byteS (bs : List UInt8) (e : Int) : UInt8 × List UInt8 × Int :=
  if e ≠ 0 then (0, bs, e) else match bs with | [] => (0, [], 20) | b :: r => (b, r, 0)
/-- What bytes at a place are: they, how many bytes their form has, the error. -/
def firstS (most : Int) (bs : List UInt8) : List UInt8 × Nat × Int :=
  if (num 0 0 bs).2.2 ≠ 0 then ([], 0, (num 0 0 bs).2.2)
  else if most < 0 ∨ most < ((num 0 0 bs).1 : Int) then ([], 0, 22)
  else if bs.length - (num 0 0 bs).2.1 < (num 0 0 bs).1 then ([], 0, 20)
  else ((bs.drop (num 0 0 bs).2.1).take (num 0 0 bs).1, (num 0 0 bs).2.1 + (num 0 0 bs).1, 0)
def bytesS (most : Int) (bs : List UInt8) (e : Int) : List UInt8 × List UInt8 × Int :=
  if e ≠ 0 then ([], bs, e) else if (firstS most bs).2.2 ≠ 0 then ([], bs, (firstS most bs).2.2) else ((firstS most bs).1, bs.drop (firstS most bs).2.1, 0)
theorem num_err (bs : List UInt8) : ((num 0 0 bs).2.2 = 0 ∧ (num 0 0 bs).1 < 18446744073709551616 ∧ (num 0 0 bs).2.1 ≤ bs.length ∧ (num 0 0 bs).2.1 ≤ 10 ∧ 0 < (num 0 0 bs).2.1) ∨
    ((num 0 0 bs).1 = 0 ∧ (num 0 0 bs).2.1 = 0 ∧ ((num 0 0 bs).2.2 = 20 ∨ (num 0 0 bs).2.2 = 21)) := by
  rcases num_facts bs 0 0 (by omega) (by simp) with ⟨h1, h2, h3, h4, h5⟩ | h
  · exact .inl ⟨h1, h2, by omega, h5, h3⟩
  · exact .inr h
theorem first_err (most : Int) (bs : List UInt8) : ((firstS most bs).2.2 = 0 ∧ (firstS most bs).2.1 ≤ bs.length ∧ (firstS most bs).1.length ≤ bs.length) ∨
    ((firstS most bs).1 = [] ∧ (firstS most bs).2.1 = 0 ∧ ((firstS most bs).2.2 = 20 ∨ (firstS most bs).2.2 = 21 ∨ (firstS most bs).2.2 = 22)) := by
  unfold firstS
  rcases num_err bs with ⟨h1, h2, h3, h4, h5⟩ | ⟨h1, h2, h3⟩
  · rw [if_neg (by omega)]
    by_cases hm : most < 0 ∨ most < ((num 0 0 bs).1 : Int)
    · rw [if_pos hm]; right; simp
    · rw [if_neg hm]
      by_cases hl : bs.length - (num 0 0 bs).2.1 < (num 0 0 bs).1
      · rw [if_pos hl]; right; simp
      · rw [if_neg hl]
        left
        refine ⟨rfl, ?_, ?_⟩
        · show (num 0 0 bs).2.1 + (num 0 0 bs).1 ≤ _; omega
        · simp; omega
  · rw [if_pos (by omega)]
    right
    refine ⟨rfl, rfl, ?_⟩
    show (num 0 0 bs).2.2 = 20 ∨ (num 0 0 bs).2.2 = 21 ∨ (num 0 0 bs).2.2 = 22
    omega
end Go.Proofs.Ythgjhfooodcfbaa.Cp
