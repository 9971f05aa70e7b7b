/- Plain facts on cells, boxes that touch, ways that are gone step by step, rays. No program is named here. -/
import Derived.Test.YtaalbkmdmocdeaaDoorGp
namespace Go.Proofs.YtaalbkmdmocdeaaDoor.Ap
open Pu Gp

/-! ### Cells -/
/-- n by a cell's side, downwards -/
def dn (n : Int) : Int := n / 4096
theorem dn_eq (n : Int) : (if n < n.tdiv 4096 * 4096 then n.tdiv 4096 - 1 else n.tdiv 4096) = dn n := by
  unfold dn
  rcases Int.le_total 0 n with h | h
  · rw [Int.tdiv_eq_ediv_of_nonneg h]
    split <;> omega
  · have e : n.tdiv 4096 = -((-n) / 4096) := by
      rw [← Int.tdiv_eq_ediv_of_nonneg (show 0 ≤ -n by omega), Int.neg_tdiv]; omega
    rw [e]
    split <;> omega
theorem dn_mono {a b : Int} (h : a ≤ b) : dn a ≤ dn b := by unfold dn; omega
theorem dn_bd {n : Int} (h0 : -2147483647 ≤ n) (h1 : n ≤ 2147483647) : -524288 ≤ dn n ∧ dn n ≤ 524287 := by unfold dn; omega

/-- is one of the cells from (l, t) to (r, b) solid -/
def anyC (sol : Int → Int → Bool) (l t r b : Int) : Bool := (List.range (b - t + 1).toNat).any fun j => (List.range (r - l + 1).toNat).any fun i => sol (l + (i : Int)) (t + (j : Int))
theorem anyC_iff {sol : Int → Int → Bool} {l t r b : Int} : anyC sol l t r b = true ↔ ∃ i j, l ≤ i ∧ i ≤ r ∧ t ≤ j ∧ j ≤ b ∧ sol i j = true := by
  unfold anyC
  rw [List.any_eq_true]
  constructor
  · rintro ⟨j, hj, h⟩
    rw [List.any_eq_true] at h
    obtain ⟨i, hi, h⟩ := h
    rw [List.mem_range] at hi hj
    exact ⟨l + i, t + j, by omega, by omega, by omega, by omega, h⟩
  · rintro ⟨i, j, h1, h2, h3, h4, h⟩
    refine ⟨(j - t).toNat, List.mem_range.2 (by omega), ?_⟩
    rw [List.any_eq_true]
    refine ⟨(i - l).toNat, List.mem_range.2 (by omega), ?_⟩
    rw [show l + ((i - l).toNat : Int) = i by omega, show t + ((j - t).toNat : Int) = j by omega]
    exact h
theorem anyC_false {sol : Int → Int → Bool} {l t r b : Int} (h : ∀ i j, l ≤ i → i ≤ r → t ≤ j → j ≤ b → sol i j = false) : anyC sol l t r b = false := by
  cases k : anyC sol l t r b with
  | false => rfl
  | true =>
    obtain ⟨i, j, h1, h2, h3, h4, h5⟩ := anyC_iff.1 k
    rw [h i j h1 h2 h3 h4] at h5
    cases h5
theorem anyC_not {sol : Int → Int → Bool} {l t r b : Int} (h : anyC sol l t r b = false) {i j : Int} (h1 : l ≤ i) (h2 : i ≤ r) (h3 : t ≤ j) (h4 : j ≤ b) : sol i j = false := by
  cases k : sol i j with
  | false => rfl
  | true =>
    rw [anyC_iff.2 ⟨i, j, h1, h2, h3, h4, k⟩] at h
    cases h
/-- does a box (that may be) touch -/
def tch (sol : Int → Int → Bool) (a b c d : Int) : Bool := anyC sol (dn a) (dn b) (dn c) (dn d)
theorem tch_less {sol : Int → Int → Bool} {a b c d a' b' c' d' : Int} (h : tch sol a b c d = false) (h1 : a ≤ a') (h2 : b ≤ b') (h3 : c' ≤ c) (h4 : d' ≤ d) : tch sol a' b' c' d' = false :=
  anyC_false fun _ _ k1 k2 k3 k4 => anyC_not h (Int.le_trans (dn_mono h1) k1) (Int.le_trans k2 (dn_mono h3)) (Int.le_trans (dn_mono h2) k3) (Int.le_trans k4 (dn_mono h4))

/-! ### A way that is gone step by step -/
/-- the greatest k up to n such that t is false of 1 to k -/
def go (t : Nat → Bool) : Nat → Nat
  | 0 => 0
  | n + 1 => if go t n = n ∧ t (n + 1) = false then n + 1 else go t n
theorem go_le (t : Nat → Bool) : ∀ n, go t n ≤ n
  | 0 => Nat.le_refl _
  | n + 1 => by
    have := go_le t n
    unfold go
    split <;> omega
theorem go_free (t : Nat → Bool) : ∀ n j, 1 ≤ j → j ≤ go t n → t j = false
  | 0, j, h1, h2 => by simp [go] at h2; omega
  | n + 1, j, h1, h2 => by
    unfold go at h2
    split at h2
    · rename_i h
      by_cases hj : j = n + 1
      · subst hj; exact h.2
      · exact go_free t n j h1 (by rw [h.1]; omega)
    · exact go_free t n j h1 h2
theorem go_stop (t : Nat → Bool) : ∀ n, go t n < n → t (go t n + 1) = true
  | 0, h => by omega
  | n + 1, h => by
    unfold go at h ⊢
    split
    · rename_i k; rw [if_pos k] at h; omega
    · rename_i k
      rw [if_neg k] at h
      by_cases e : go t n = n
      · rw [e]
        cases ht : t (n + 1) with
        | true => rfl
        | false => exact absurd ⟨e, ht⟩ k
      · exact go_stop t n (by have := go_le t n; omega)
/-- there is one such number alone -/
theorem go_one {t : Nat → Bool} {n k : Nat} (h1 : k ≤ n) (h2 : ∀ j, 1 ≤ j → j ≤ k → t j = false) (h3 : k < n → t (k + 1) = true) : go t n = k := by
  have a := go_le t n
  rcases Nat.lt_trichotomy (go t n) k with h | h | h
  · have := go_stop t n (by omega)
    rw [h2 _ (by omega) (by omega)] at this
    cases this
  · exact h
  · have := h3 (by omega)
    rw [go_free t n (k + 1) (by omega) (by omega)] at this
    cases this
theorem go_congr {t s : Nat → Bool} {n : Nat} (h : ∀ j, 1 ≤ j → j ≤ n → t j = s j) : go t n = go s n := by
  refine go_one (go_le s n) (fun j h1 h2 => ?_) (fun hk => ?_)
  · have := go_le s n
    rw [h j h1 (by omega)]
    exact go_free s n j h1 h2
  · rw [h _ (by omega) (by omega)]
    exact go_stop s n hk
/-- as far as one of both, where the first one was not stopped -/
theorem go_add {t : Nat → Bool} {m n : Nat} (h : go t m = m) : go t (m + n) = m + go (fun j => t (m + j)) n := by
  refine go_one (by have := go_le (fun j => t (m + j)) n; omega) (fun j h1 h2 => ?_) (fun hk => ?_)
  · by_cases hj : j ≤ m
    · exact go_free t m j h1 (by omega)
    · have := go_free (fun j => t (m + j)) n (j - m) (by omega) (by omega)
      simpa [show m + (j - m) = j by omega] using this
  · have := go_stop (fun j => t (m + j)) n (by omega)
    simpa [Nat.add_assoc] using this
/-- what was stopped stays there -/
theorem go_less {t : Nat → Bool} {m n : Nat} (hmn : m ≤ n) (h : go t m < m) : go t n = go t m :=
  go_one (by have := go_le t m; omega) (fun j h1 h2 => go_free t m j h1 h2) (fun _ => go_stop t m h)

/-! ### Steps -/
def stp (n : Int) : Int := clampf n (-2048) 2048
theorem stp_in (n : Int) : -2048 ≤ stp n ∧ stp n ≤ 2048 := by
  have h1 : bnd (-2048) = -2048 := by decide
  have h2 : bnd 2048 = 2048 := by decide
  unfold stp clampf
  rw [h1, h2]
  repeat' split
  all_goals omega
theorem stp_id {n : Int} (h0 : -2048 ≤ n) (h1 : n ≤ 2048) : stp n = n := by
  have e1 : bnd (-2048) = -2048 := by decide
  have e2 : bnd 2048 = 2048 := by decide
  unfold stp clampf
  rw [e1, e2, bnd_id (n := n) (by omega) (by omega)]
  repeat' split
  all_goals omega
def sgn (n : Int) : Int := if 0 < n then 1 else if n < 0 then -1 else 0
/-- does a body at (x, y) touch -/
def bdy (sol : Int → Int → Bool) (r x y : Int) : Bool := tch sol (subf x r) (subf y r) (addf x r) (addf y r)
/-- how far a body comes on X, on Y -/
def goX (sol : Int → Int → Bool) (r x y s : Int) (n : Nat) : Nat := go (fun j => bdy sol r (addf x (s * (j : Int))) (addf y 0)) n
def goY (sol : Int → Int → Bool) (r x y s : Int) (n : Nat) : Nat := go (fun j => bdy sol r (addf x 0) (addf y (s * (j : Int)))) n
end Go.Proofs.YtaalbkmdmocdeaaDoor.Ap
