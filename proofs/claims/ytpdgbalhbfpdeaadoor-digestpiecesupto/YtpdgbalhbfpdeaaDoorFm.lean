/- Contracts: a number as text to the base sixteen, by the library. -/
import Derived.Test.YtpdgbalhbfpdeaaDoorTb
import Derived.Lib.ItoaWalk
namespace Go.Proofs.YtpdgbalhbfpdeaaDoor
open Go.RowKit

/-- The digits, as the library spells them. -/
def DG : ByteArray := ⟨#[48, 49, 50, 51, 52, 53, 54, 55, 56, 57, 97, 98, 99, 100, 101, 102, 103, 104, 105, 106, 107, 108, 109, 110, 111, 112, 113, 114, 115, 116, 117, 118, 119, 120, 121, 122]⟩

/-- A row of 65 bytes whose last k are digits of d. -/
structure Fill (w : World) (B i d k : Nat) : Prop where
  sum : i + k = 65
  row : ∃ cur : Array Value, w.heap[B]? = some (.cells cur 92 (0, 0)) ∧ cur.size = 65 ∧ ∀ j (hj : j < (Hx.hx d k).length), cur[i + j]? = some (.int .u8 ((Hx.hx d k)[j].toNat : Int))
theorem Fill.put {w : World} {B i d k : Nat} (h : Fill w B (i + 1) d k) (x : Int) (hx : x = ((Hx.dig (d / 16 ^ k % 16)).toNat : Int)) : Fill (w.setCell ⟨B, i, none⟩ (.int .u8 x)) B i d (k + 1) := by
  obtain ⟨hs, cur, hg, hc, hd⟩ := h
  refine ⟨by omega, _, heap_setCell_same w B i cur 92 (.int .u8 x) hg, by simpa using hc, fun j hj => ?_⟩
  rw [Hx.hx_length] at hj
  cases j with
  | zero =>
    rw [Nat.add_zero, Array.getElem?_setIfInBounds_self_of_lt (by omega), hx]
    rfl
  | succ j =>
    rw [Array.getElem?_setIfInBounds_ne (by omega)]
    have := hd j (by rw [Hx.hx_length]; omega)
    rw [show i + (j + 1) = i + 1 + j by omega, this]
    rfl
theorem Fill.cell {w : World} {B i d k : Nat} (h : Fill w B i d k) {j : Nat} (hj : j < 65) : (∃ v, w.cell? ⟨B, j, none⟩ = some v) ∧ w.frozen? ⟨B, j, none⟩ = false := by
  obtain ⟨_, cur, hg, hc, _⟩ := h
  have hlt : j < cur.size := by omega
  exact ⟨⟨cur[j], by rw [cell_of_row _ _ _ _ _ _ hg, Array.getElem?_eq_getElem hlt]⟩, frozen_of_row w B j cur _ hg⟩
theorem Fill.rd {w : World} {B i d k : Nat} (h : Fill w B i d k) : Rd w (some ⟨B, i, none⟩) k k (Hx.hx d k) := by
  obtain ⟨hs, cur, hg, hc, hd⟩ := h
  refine ⟨Hx.hx_length d k, Nat.le_refl _, by unfold maxLen; omega, fun a ha _ => (by cases ha; rfl), fun h => (by cases h), fun a ha j hj => ?_⟩
  cases ha
  rw [cell_of_row _ _ _ _ _ _ hg]
  exact hd j hj
theorem and15 (n : Int) (h0 : 0 ≤ n) (h1 : n < 18446744073709551616) : bits .and .u64 n 15 = n % 16 := bits_mask .u64 64 (by decide) wraps_u64 4 (by decide) n h0 h1

theorem dg_all : ∀ x : Fin 16, DG.data.getD x.val 0 = Hx.dig x.val := by decide
theorem dg_at {x : Nat} (h : x < 16) (hs : x < DG.size) : (DG[x]'hs).toNat = (Hx.dig x).toNat := by
  have e := dg_all ⟨x, h⟩
  have e2 : DG.data.getD x 0 = DG[x]'hs := by
    rw [Array.getD, dif_pos (show x < DG.data.size from hs)]
    rfl
  rw [← e2, e]
theorem cut65 (B i k : Nat) (h : i + 1 + k = 65) (W : World) :
    (Instr.sliceAt 92 (.pointer (some ⟨B, 0, none⟩)) (some (.int .i64 (i : Int))) none none).run Tryd.prog W = .ok (.slice (some ⟨B, i, none⟩) (k + 1) (k + 1)) W := by
  have hal : Tryd.prog.arrayLen 92 = 65 := by simp [Program.arrayLen, Tryd.underlying92]
  have hel : Tryd.prog.elem 92 = 5 := by simp [Program.elem, Tryd.underlying92]
  have hso : (sizeOf 5).run Tryd.prog W = .ok 1 W := Tryd.sizeOf5 W
  rw [run_sliceAt_array_l W 92 ⟨B, 0, none⟩ (by rw [hal, hel]; exact Tryd.underlying92) .i64 (i : Int) (by omega) (by rw [hal]; omega), hel, hso, hal]
  simp only [Result.andThen_ok, slicedAt, Int.toNat_natCast]
  rw [if_neg (by omega), show 65 - i = k + 1 by omega, add_plain]
  simp

set_option maxHeartbeats 1000000 in
set_option maxRecDepth 100000 in
theorem formatBits_any (d : Nat) (u : Int) (hu : u = (d : Int)) (hd : d < 18446744073709551616) (w : World) (ht : Tab w) :
    Calls Tryd.prog 44 #[.slice none 0 0, .int .u64 u, .int .i64 16, .bool false, .bool false] w fun e w' => ∃ (t : ByteArray) (m : Nat), e = .returned (.tuple #[.slice none 0 0, .string t]) ∧ t.data.toList = Hx.hx d m ∧ 1 ≤ m ∧ m ≤ 16 ∧ d < 16 ^ m ∧ Still w w' := by
  have HU := hid hu
  have u0 : 0 ≤ u := by omega
  have u1 : u < 18446744073709551616 := by omega
  clear hu
  go_enter Tryd.func44, Tryd.ntmps44
  go_name_bytes PN hPN
  clear hPN
  go_name_bytes SM hSM
  have eSM : SM = DG := by rw [← hSM]; rfl
  subst eSM
  clear hSM
  have hD : DG.size = 36 := rfl
  go_wp2_with (first | (go_at_call 59; refine (power16 _).mono ?_; rintro e w' ⟨rfl, rfl⟩) | (go_at_call 60; refine (zeros _ (ht.still (Still.alloc _ _))).mono ?_; rintro e w' ⟨rfl, rfl⟩))
  have hfill : Fill (w.alloc (.cells Tryd.zeroCells92 92)) w.heap.size 65 d 0 := ⟨rfl, _, heap_alloc_new w _, by kernel_rfl, fun j hj => absurd hj (by simp [Hx.hx])⟩
  have hst0 : Still w (w.alloc (.cells Tryd.zeroCells92 92)) := Still.alloc w _
  go_loopw [1, 13] (fun vu vi wr => ∃ (k i : Nat) (a : Int), k ≤ 15 ∧ vu = .int .u64 a ∧ vi = .int .i64 (i : Int) ∧ 0 ≤ a ∧ a < 18446744073709551616 ∧ Hid (a = ((d / 16 ^ k : Nat) : Int)) ∧ Fill wr w.heap.size i d k ∧ Still w wr) (fun vu _ _ => (intOf vu).toNat)
  case atStart => exact ⟨0, 65, u, by omega, rfl, rfl, u0, u1, by show _ = _; rw [HU.out]; simp, hfill, hst0⟩
  case round =>
    obtain ⟨k, i, a, hk, rfl, rfl, a0, a1, HA, hf, hst⟩ := hrel
    obtain ⟨i, rfl⟩ : ∃ j, i = j + 1 := ⟨i - 1, by have := hf.sum; omega⟩
    have hi : i + 1 + k = 65 := hf.sum
    have hm := and15 a a0 a1
    obtain ⟨⟨v, hv⟩, hfz⟩ := hf.cell (j := i) (by omega)
    have hsl := cut65 w.heap.size i k hi
    by_cases hge : 16 ≤ a
    · have hx : ((DG[(a % 16).toNat]'(by rw [hD]; omega)).toNat : Int) = ((Hx.dig (d / 16 ^ k % 16)).toNat : Int) := by
        rw [dg_at (by omega)]
        have := HA.out
        rw [show (a % 16).toNat = d / 16 ^ k % 16 by omega]
      have R := hf.put _ hx
      have R2 := hst.setCell ⟨w.heap.size, i, none⟩ (.int .u8 ((DG[(a % 16).toNat]'(by rw [hD]; omega)).toNat : Int)) (.inr (Nat.le_refl _))
      have HK : Hid (a / 16 = ((d / 16 ^ (k + 1) : Nat) : Int)) := by
        show _ = _
        rw [HA.out, Nat.pow_succ, ← Nat.div_div_eq_div_mul]; omega
      have hk' : k + 1 ≤ 15 := by
        apply Nat.le_of_lt_succ
        apply Nat.lt_of_not_ge
        intro hc
        have h1 := HA.out
        have h2 : k = 15 := by omega
        rw [h2] at h1
        have h3 : d / 16 ^ 15 < 16 := by
          rw [Nat.div_lt_iff_lt_mul (Nat.pow_pos (by omega))]
          have : (16 : Nat) * 16 ^ 15 = 18446744073709551616 := by decide
          omega
        omega
      clear hx
      go_wp2
      exact ⟨⟨k + 1, i, _, hk', rfl, rfl, by omega, by omega, HK, R, R2⟩, by simp [intOf]; omega⟩
    · have hx : ((DG[a.toNat]'(by rw [hD]; omega)).toNat : Int) = ((Hx.dig (d / 16 ^ k % 16)).toNat : Int) := by
        rw [dg_at (by omega)]
        have := HA.out
        rw [show a.toNat = d / 16 ^ k % 16 by omega]
      have R := hf.put _ hx
      have R2 := hst.setCell ⟨w.heap.size, i, none⟩ (.int .u8 ((DG[a.toNat]'(by rw [hD]; omega)).toNat : Int)) (.inr (Nat.le_refl _))
      have hcv := run_string (P := Tryd.prog) _ 32 5 9 Tryd.underlying32 Tryd.underlying5 Tryd.underlying9 R.rd
      have hdm : d < 16 ^ (k + 1) := by
        have h1 := HA.out
        rw [Nat.pow_succ, Nat.mul_comm, ← Nat.div_lt_iff_lt_mul (Nat.pow_pos (by omega))]
        omega
      have HDM := hid hdm
      clear hx hdm
      go_wp2
      go_ret2
      exact ⟨_, k + 1, rfl, rfl, by omega, by omega, HDM.out, R2⟩
end Go.Proofs.YtpdgbalhbfpdeaaDoor
