/- Plain facts on cells, boxes that touch, ways that are gone step by step, rays. No program is named here. Maps: their blocks; contracts of the document's answer on cells. Boxes that touch: the document's answer. Walls: the program's cells, Solid. -/
import Derived.Test.YtdljmpjfiggdiaaDoorK5a
import Derived.Test.YtdljmpjfiggdiaaDoorK5b
import Derived.Lib.Strings
namespace Go.Proofs.YtdljmpjfiggdiaaDoor.Ap
open Pu Gp

/-! ### Cells -/
/-- n by a cell's side, downwards -/
def dn (n : Int) : Int := n / 4096
theorem dn_eq (n : Int) : (if n < n.tdiv 4096 * 4096 then n.tdiv 4096 - 1 else n.tdiv 4096) = dn n := by
  unfold dn
  rcases Int.le_total 0 n with h | h
  · rw [Int.tdiv_eq_ediv_of_nonneg h]
    split <;> omega
  · have e : n.tdiv 4096 = -((-n) / 4096) := by
      rw [← Int.tdiv_eq_ediv_of_nonneg (show 0 ≤ -n by omega), Int.neg_tdiv]; omega
    rw [e]
    split <;> omega
theorem dn_mono {a b : Int} (h : a ≤ b) : dn a ≤ dn b := by unfold dn; omega
theorem dn_bd {n : Int} (h0 : -2147483647 ≤ n) (h1 : n ≤ 2147483647) : -524288 ≤ dn n ∧ dn n ≤ 524287 := by unfold dn; omega

/-- is one of the cells from (l, t) to (r, b) solid -/
def anyC (sol : Int → Int → Bool) (l t r b : Int) : Bool := (List.range (b - t + 1).toNat).any fun j => (List.range (r - l + 1).toNat).any fun i => sol (l + (i : Int)) (t + (j : Int))
theorem anyC_iff {sol : Int → Int → Bool} {l t r b : Int} : anyC sol l t r b = true ↔ ∃ i j, l ≤ i ∧ i ≤ r ∧ t ≤ j ∧ j ≤ b ∧ sol i j = true := by
  unfold anyC
  rw [List.any_eq_true]
  constructor
  · rintro ⟨j, hj, h⟩
    rw [List.any_eq_true] at h
    obtain ⟨i, hi, h⟩ := h
    rw [List.mem_range] at hi hj
    exact ⟨l + i, t + j, by omega, by omega, by omega, by omega, h⟩
  · rintro ⟨i, j, h1, h2, h3, h4, h⟩
    refine ⟨(j - t).toNat, List.mem_range.2 (by omega), ?_⟩
    rw [List.any_eq_true]
    refine ⟨(i - l).toNat, List.mem_range.2 (by omega), ?_⟩
    rw [show l + ((i - l).toNat : Int) = i by omega, show t + ((j - t).toNat : Int) = j by omega]
    exact h
theorem anyC_false {sol : Int → Int → Bool} {l t r b : Int} (h : ∀ i j, l ≤ i → i ≤ r → t ≤ j → j ≤ b → sol i j = false) : anyC sol l t r b = false := by
  cases k : anyC sol l t r b with
  | false => rfl
  | true =>
    obtain ⟨i, j, h1, h2, h3, h4, h5⟩ := anyC_iff.1 k
    rw [h i j h1 h2 h3 h4] at h5
    cases h5
theorem anyC_not {sol : Int → Int → Bool} {l t r b : Int} (h : anyC sol l t r b = false) {i j : Int} (h1 : l ≤ i) (h2 : i ≤ r) (h3 : t ≤ j) (h4 : j ≤ b) : sol i j = false := by
  cases k : sol i j with
  | false => rfl
  | true =>
    rw [anyC_iff.2 ⟨i, j, h1, h2, h3, h4, k⟩] at h
    cases h
/-- does a box (that may be) touch -/
def tch (sol : Int → Int → Bool) (a b c d : Int) : Bool := anyC sol (dn a) (dn b) (dn c) (dn d)
theorem tch_less {sol : Int → Int → Bool} {a b c d a' b' c' d' : Int} (h : tch sol a b c d = false) (h1 : a ≤ a') (h2 : b ≤ b') (h3 : c' ≤ c) (h4 : d' ≤ d) : tch sol a' b' c' d' = false :=
  anyC_false fun _ _ k1 k2 k3 k4 => anyC_not h (Int.le_trans (dn_mono h1) k1) (Int.le_trans k2 (dn_mono h3)) (Int.le_trans (dn_mono h2) k3) (Int.le_trans k4 (dn_mono h4))

/-! ### A way that is gone step by step -/
/-- the greatest k up to n such that t is false of 1 to k -/
def go (t : Nat → Bool) : Nat → Nat
  | 0 => 0
  | n + 1 => if go t n = n ∧ t (n + 1) = false then n + 1 else go t n
theorem go_le (t : Nat → Bool) : ∀ n, go t n ≤ n
  | 0 => Nat.le_refl _
  | n + 1 => by
    have := go_le t n
    unfold go
    split <;> omega
theorem go_free (t : Nat → Bool) : ∀ n j, 1 ≤ j → j ≤ go t n → t j = false
  | 0, j, h1, h2 => by simp [go] at h2; omega
  | n + 1, j, h1, h2 => by
    unfold go at h2
    split at h2
    · rename_i h
      by_cases hj : j = n + 1
      · subst hj; exact h.2
      · exact go_free t n j h1 (by rw [h.1]; omega)
    · exact go_free t n j h1 h2
theorem go_stop (t : Nat → Bool) : ∀ n, go t n < n → t (go t n + 1) = true
  | 0, h => by omega
  | n + 1, h => by
    unfold go at h ⊢
    split
    · rename_i k; rw [if_pos k] at h; omega
    · rename_i k
      rw [if_neg k] at h
      by_cases e : go t n = n
      · rw [e]
        cases ht : t (n + 1) with
        | true => rfl
        | false => exact absurd ⟨e, ht⟩ k
      · exact go_stop t n (by have := go_le t n; omega)
/-- there is one such number alone -/
theorem go_one {t : Nat → Bool} {n k : Nat} (h1 : k ≤ n) (h2 : ∀ j, 1 ≤ j → j ≤ k → t j = false) (h3 : k < n → t (k + 1) = true) : go t n = k := by
  have a := go_le t n
  rcases Nat.lt_trichotomy (go t n) k with h | h | h
  · have := go_stop t n (by omega)
    rw [h2 _ (by omega) (by omega)] at this
    cases this
  · exact h
  · have := h3 (by omega)
    rw [go_free t n (k + 1) (by omega) (by omega)] at this
    cases this
theorem go_congr {t s : Nat → Bool} {n : Nat} (h : ∀ j, 1 ≤ j → j ≤ n → t j = s j) : go t n = go s n := by
  refine go_one (go_le s n) (fun j h1 h2 => ?_) (fun hk => ?_)
  · have := go_le s n
    rw [h j h1 (by omega)]
    exact go_free s n j h1 h2
  · rw [h _ (by omega) (by omega)]
    exact go_stop s n hk
/-- as far as one of both, where the first one was not stopped -/
theorem go_add {t : Nat → Bool} {m n : Nat} (h : go t m = m) : go t (m + n) = m + go (fun j => t (m + j)) n := by
  refine go_one (by have := go_le (fun j => t (m + j)) n; omega) (fun j h1 h2 => ?_) (fun hk => ?_)
  · by_cases hj : j ≤ m
    · exact go_free t m j h1 (by omega)
    · have := go_free (fun j => t (m + j)) n (j - m) (by omega) (by omega)
      simpa [show m + (j - m) = j by omega] using this
  · have := go_stop (fun j => t (m + j)) n (by omega)
    simpa [Nat.add_assoc] using this
/-- what was stopped stays there -/
theorem go_less {t : Nat → Bool} {m n : Nat} (hmn : m ≤ n) (h : go t m < m) : go t n = go t m :=
  go_one (by have := go_le t m; omega) (fun j h1 h2 => go_free t m j h1 h2) (fun _ => go_stop t m h)

/-! ### Steps -/
def stp (n : Int) : Int := clampf n (-2048) 2048
theorem stp_in (n : Int) : -2048 ≤ stp n ∧ stp n ≤ 2048 := by
  have h1 : bnd (-2048) = -2048 := by decide
  have h2 : bnd 2048 = 2048 := by decide
  unfold stp clampf
  rw [h1, h2]
  repeat' split
  all_goals omega
theorem stp_id {n : Int} (h0 : -2048 ≤ n) (h1 : n ≤ 2048) : stp n = n := by
  have e1 : bnd (-2048) = -2048 := by decide
  have e2 : bnd 2048 = 2048 := by decide
  unfold stp clampf
  rw [e1, e2, bnd_id (n := n) (by omega) (by omega)]
  repeat' split
  all_goals omega
def sgn (n : Int) : Int := if 0 < n then 1 else if n < 0 then -1 else 0
/-- does a body at (x, y) touch -/
def bdy (sol : Int → Int → Bool) (r x y : Int) : Bool := tch sol (subf x r) (subf y r) (addf x r) (addf y r)
/-- how far a body comes on X, on Y -/
def goX (sol : Int → Int → Bool) (r x y s : Int) (n : Nat) : Nat := go (fun j => bdy sol r (addf x (s * (j : Int))) (addf y 0)) n
def goY (sol : Int → Int → Bool) (r x y s : Int) (n : Nat) : Nat := go (fun j => bdy sol r (addf x 0) (addf y (s * (j : Int)))) n
end Go.Proofs.YtdljmpjfiggdiaaDoor.Ap
namespace Go.Proofs.YtdljmpjfiggdiaaDoor
open Go.RowKit
open Pu Gp Ap

/-- a map as a value -/
abbrev ar (C R : Int) (s : ByteArray) : Value := .agg #[.int .i64 C, .int .i64 R, .string s]
/-- the byte at n -/
def byt (s : ByteArray) (n : Nat) : Int := ((s.data.toList.getD n 0).toNat : Int)
theorem data_at (s : ByteArray) (n : Nat) (h : n < s.size) : s.data.toList[n]? = some s[n] := by
  rw [Array.getElem?_toList, Array.getElem?_eq_getElem h]; rfl
theorem byt_at (s : ByteArray) (n : Nat) (h : n < s.size) : ((s[n]'h).toNat : Int) = byt s n := by
  unfold byt
  rw [List.getD_eq_getElem?_getD, data_at s n h]
  rfl
/-- is a cell solid -/
def solB (C R : Int) (s : ByteArray) (col row : Int) : Bool := if col < 0 ∨ C ≤ col ∨ row < 0 ∨ R ≤ row then true else if (s.size : Int) ≤ row * C + col then true else byt s (row * C + col).toNat == 35
theorem sol_out {C R col row : Int} {s : ByteArray} (h : col < 0 ∨ C ≤ col ∨ row < 0 ∨ R ≤ row) : solB C R s col row = true := by unfold solB; rw [if_pos h]
theorem sol_end {C R col row : Int} {s : ByteArray} (h : (s.size : Int) ≤ row * C + col) : solB C R s col row = true := by
  unfold solB
  by_cases k : col < 0 ∨ C ≤ col ∨ row < 0 ∨ R ≤ row
  · rw [if_pos k]
  · rw [if_neg k, if_pos h]
theorem sol_at {C R col row : Int} {s : ByteArray} {k : Nat} (h : ¬ (col < 0 ∨ C ≤ col ∨ row < 0 ∨ R ≤ row)) (hk : row * C + col = (k : Int)) (hs : k < s.size) : solB C R s col row = (byt s k == 35) := by
  unfold solB
  rw [if_neg h, if_neg (by omega), hk]
  rfl
end Go.Proofs.YtdljmpjfiggdiaaDoor
namespace Go.Proofs.YtdljmpjfiggdiaaDoor
open Go.RowKit
open Pu Gp Ap

/-- does a box touch -/
def touB (C R : Int) (s : ByteArray) (a b c d : Int) : Bool := okb a b c d && tch (solB C R s) a b c d
theorem ret_bool {a b : Bool} (h : a = b) : Ending.returned (.bool a) = .returned (.bool b) := by rw [h]
end Go.Proofs.YtdljmpjfiggdiaaDoor
namespace Go.Proofs.YtdljmpjfiggdiaaDoor
open Go.RowKit
open Pu Gp Ap

theorem and4095 (n : Int) : bits .and .i64 n 4095 = n % 4096 := by
  have h15 : (BitVec.ofInt 64 4095).toNat = 2 ^ 12 - 1 := by decide
  have key : (BitVec.ofInt 64 n &&& BitVec.ofInt 64 4095).toNat = (n % ((2 ^ 64 : Nat) : Int)).toNat % 2 ^ 12 := by
    rw [BitVec.toNat_and, BitVec.toNat_ofInt, h15, Nat.and_two_pow_sub_one_eq_mod]
  show IntKind.i64.wrap ((BitVec.ofInt 64 n &&& BitVec.ofInt 64 4095).toNat : Nat) = n % 4096
  rw [key, IntKind.wrap_i64]
  omega
theorem dn_tdiv (n : Int) : (n - n % 4096).tdiv 4096 = dn n := by
  unfold dn
  have e : n - n % 4096 = n / 4096 * 4096 := by omega
  rw [e, Int.mul_tdiv_cancel _ (by omega)]
end Go.Proofs.YtdljmpjfiggdiaaDoor
