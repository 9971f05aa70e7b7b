/- Plain: what is taken up has one form. No program is named here. -/
import Derived.Test.YthgjhfooodcfbaaCb
namespace Go.Proofs.Ythgjhfooodcfbaa.Cp

/-- A number that was taken up: nothing, or the bytes that are its form. -/
theorem uint_took (bs : List UInt8) (e : Int) : (uintS bs e).2.1 = bs ∨ ((uintS bs e).1 < 18446744073709551616 ∧ bs = form (uintS bs e).1 ++ (uintS bs e).2.1) := by
  unfold uintS
  by_cases he : e ≠ 0
  · rw [if_pos he]; left; rfl
  · rw [if_neg he]
    rcases num_err bs with ⟨h1, h2, h3, h4, h5⟩ | ⟨h1, h2, h3⟩
    · rw [if_neg (by omega)]
      right
      obtain ⟨n, k, E, hnum⟩ : ∃ n k E, num 0 0 bs = (n, k, E) := ⟨_, _, _, rfl⟩
      rw [hnum] at h1 h2 h3 ⊢
      dsimp only at h1 h2 h3 ⊢
      subst h1
      obtain ⟨e1, e2⟩ := num_one0 hnum
      refine ⟨h2, ?_⟩
      rw [← e2, List.take_append_drop]
    · rw [if_pos (by omega)]; left; rfl
theorem byte_took (bs : List UInt8) (e : Int) : (byteS bs e).2.1 = bs ∨ bs = [(byteS bs e).1] ++ (byteS bs e).2.1 := by
  unfold byteS
  by_cases he : e ≠ 0
  · rw [if_pos he]; left; rfl
  · rw [if_neg he]
    cases bs with
    | nil => left; rfl
    | cons b r => right; rfl
theorem bytes_took (most : Int) (bs : List UInt8) (e : Int) : (bytesS most bs e).2.1 = bs ∨ bs = counted (bytesS most bs e).1 ++ (bytesS most bs e).2.1 := by
  unfold bytesS
  by_cases he : e ≠ 0
  · rw [if_pos he]; left; rfl
  · rw [if_neg he]
    by_cases hf : (firstS most bs).2.2 ≠ 0
    · rw [if_pos hf]; left; rfl
    · rw [if_neg hf]
      right
      unfold firstS at hf ⊢
      rcases num_err bs with ⟨h1, h2, h3, h4, h5⟩ | ⟨h1, h2, h3⟩
      · rw [if_neg (by omega)] at hf ⊢
        by_cases hm : most < 0 ∨ most < ((num 0 0 bs).1 : Int)
        · rw [if_pos hm] at hf; simp at hf
        · rw [if_neg hm] at hf ⊢
          by_cases hl : bs.length - (num 0 0 bs).2.1 < (num 0 0 bs).1
          · rw [if_pos hl] at hf; simp at hf
          · rw [if_neg hl]
            obtain ⟨n, k, E, hnum⟩ : ∃ n k E, num 0 0 bs = (n, k, E) := ⟨_, _, _, rfl⟩
            rw [hnum] at h1 h2 h3 hl ⊢
            dsimp only at h1 h2 h3 hl ⊢
            subst h1
            obtain ⟨e1, e2⟩ := num_one0 hnum
            have hlen : ((bs.drop k).take n).length = n := by simp; omega
            unfold counted
            rw [hlen, ← e2, List.append_assoc, ← List.drop_drop, List.take_append_drop, List.take_append_drop]
      · rw [if_pos (by omega)] at hf
        simp at hf
        omega
/-- What is left is shorter just if something was taken up. -/
theorem took_len {rest rest' x : List UInt8} (h : rest = x ++ rest') : rest'.length + x.length = rest.length := by rw [h]; simp; omega
/-- Behind what was taken up. -/
theorem took_drop {bs rest' x : List UInt8} {t : Nat} (h : bs.drop t = x ++ rest') : rest' = bs.drop (t + x.length) ∧ bs.take t ++ x = bs.take (t + x.length) := by
  have h1 : rest' = (bs.drop t).drop x.length := by rw [h]; simp
  have h2 : x = (bs.drop t).take x.length := by rw [h]; simp
  refine ⟨by rw [h1, List.drop_drop], ?_⟩
  rw [List.take_add]
  rw [← h2]
end Go.Proofs.Ythgjhfooodcfbaa.Cp
