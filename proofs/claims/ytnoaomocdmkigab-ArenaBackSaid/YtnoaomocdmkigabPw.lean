/- The program's Print. -/
import Derived.Test.YtnoaomocdmkigabBu
import Derived.Test.YtnoaomocdmkigabBh
namespace Go.Proofs.Ytnoaomocdmkigab
open Go.RowKit
open Pu Gp Ap

set_option maxHeartbeats 4000000 in
theorem print_any (C R : Int) (s : ByteArray) (w : World) :
    Calls Try.prog 7 #[ar C R s] w fun e w' => ∃ v, e = .returned (.tuple #[.string (prtT C R s v), .int .i64 v]) ∧ ChkV C R s v ∧ Still w w' := by
  have p := newA_ab w C R s
  go_enter Try.func7, Try.ntmps7
  obtain ⟨c0, c1, c2, cf⟩ := p.cells
  go_wp2_with fail
  refine (mapcheck_any C R s _).mono ?_
  rintro e w1 ⟨v, rfl, hv, h1⟩
  have p1 := p.still h1
  have HS1 := hid ((Still.alloc w (.cells #[.int .i64 C, .int .i64 R, .string s] 23)).trans h1)
  clear p h1 c0 c1 c2 cf
  obtain ⟨c0, c1, c2, cf⟩ := p1.cells
  have HV := hid hv
  by_cases h0 : v = 0
  · subst h0
    obtain ⟨q1, q2, q3, q4, q5, q6⟩ := form_shape (chkV_ok hv)
    obtain ⟨c, rfl⟩ : ∃ c : Nat, C = c := ⟨C.toNat, by omega⟩
    obtain ⟨r, rfl⟩ : ∃ r : Nat, R = r := ⟨R.toNat, by omega⟩
    have q7 : s.size = c * r := by exact_mod_cast q5
    have HL := hid (block_lt p1)
    have b2 := Bld.fresh w1
    have p2 := p1.still (Still.alloc w1 (.cells #[.pointer none, .slice none 0 0] 56))
    have HS2 := hid (HS1.out.trans (Still.alloc w1 (.cells #[.pointer none, .slice none 0 0] 56)))
    clear hv q5 p1 HS1 c0 c1 c2 cf
    obtain ⟨c0, c1, c2, cf⟩ := p2.cells
    go_wp2_with fail
    clear c0 c1 c2 cf
    go_loopw [14] (fun u wr => ∃ i : Nat, i ≤ r ∧ u = .int .i64 (i : Int) ∧ Bld wr w1.heap.size w1.heap.size (prtB s c i) ∧ Ab wr w.heap.size (c : Int) (r : Int) s ∧ Still w wr) (fun u _ => r - (intOf u).toNat)
    case atStart => exact ⟨0, by omega, rfl, b2, p2, HS2.out⟩
    case round =>
      obtain ⟨i, hi, rfl, b3, p3, hs⟩ := hrel
      have HS3 := hid hs
      clear hs b2 p2 HS2
      obtain ⟨c0, c1, c2, cf⟩ := p3.cells
      have ez : i < r → (prtB s c i).size = i * (c + 1) := fun h => prtB_size (s := s) (C := c) (i := i) (by
        rw [q7, Nat.mul_comm c r]
        exact Nat.mul_le_mul_right c (by omega))
      by_cases hlt : i < r
      · obtain ⟨x, ex⟩ : ∃ x, i * c = x := ⟨_, rfl⟩
        have x1 : (i : Int) * (c : Int) = (x : Int) := by rw [← ex]; exact (Int.natCast_mul i c).symm
        have x3 : (i + 1) * c = x + c := by rw [Nat.succ_mul, ex]
        have x2 : ((i : Int) + 1) * (c : Int) = ((x + c : Nat) : Int) := by rw [← x3]; exact (Int.natCast_mul (i + 1) c).symm
        have x4 : x + c ≤ s.size := by
          rw [← x3, q7, Nat.mul_comm c r]
          exact Nat.mul_le_mul_right c (by omega)
        have x5 : (prtB s c i).size ≤ 4096 := by
          rw [ez hlt]
          have : i * (c + 1) ≤ 24 * 33 := Nat.mul_le_mul (by omega) (by omega)
          omega
        have HF := hid (show prtB s c i ++ s.extract x (x + c) ++ ⟨#[10]⟩ = prtB s c (i + 1) by rw [prtB, ex, x3])
        obtain ⟨T, eT⟩ : ∃ T, prtB s c i = T := ⟨_, rfl⟩
        obtain ⟨y, ey⟩ : ∃ y, x + c = y := ⟨_, rfl⟩
        have y1 : x ≤ y := by omega
        have y2 : y ≤ x + 32 := by omega
        rw [eT] at x5 HF b3
        rw [ey] at HF x2 x4
        clear eT ez ex x3 q7 ey
        have sz : (s.extract x y).size ≤ 32 := by rw [ByteArray.size_extract]; omega
        go_wp2_with fail
        refine (write_any _ _ T (s.extract x y) _ b3 (by omega)).mono ?_
        rintro e w4 ⟨rfl, b4, h4⟩
        have p4 := p3.below h4 HL.out
        have HS4 := hid (still_below HS3.out h4 (Nat.le_of_lt HL.out))
        clear b3 p3 HS3 h4 c0 c1 c2 cf
        go_wp2_with fail
        refine (write_any _ _ (T ++ s.extract x y) ⟨#[10]⟩ _ b4 (by rw [ByteArray.size_append]; show _ + 1 ≤ _; omega)).mono ?_
        rintro e w5 ⟨rfl, b5, h5⟩
        have p5 := p4.below h5 HL.out
        have HS5 := hid (still_below HS4.out h5 (Nat.le_of_lt HL.out))
        rw [HF.out] at b5
        clear b4 p4 HS4 h5
        go_wp2_with fail
        go_roundw
        case rel => exact ⟨i + 1, by omega, by go_num, b5, p5, HS5.out⟩
        case measure => simp [intOf]; omega
      · have HF := hid (show prtB s c i = prtT (c : Int) (r : Int) s 0 by
          unfold prtT
          rw [if_pos rfl, show i = r by omega]
          rfl)
        go_wp2_with fail
        refine (string_any _ _ _ _ b3).mono ?_
        rintro e w4 ⟨rfl, h4⟩
        have HS4 := hid (still_below HS3.out h4 (Nat.le_of_lt HL.out))
        clear h4 b3 p3 HS3 c0 c1 c2 cf
        go_wp2_with fail
        go_ret2
        exact ⟨0, by rw [← HF.out]; rfl, HV.out, HS4.out⟩
  · have hv' : (v != 0) = true := by simpa using h0
    have HT := hid (show prtT C R s v = ByteArray.empty by unfold prtT; rw [if_neg h0])
    clear hv h0
    go_wp2_with fail
    go_ret2
    exact ⟨v, by rw [HT.out]; rfl, HV.out, HS1.out⟩
end Go.Proofs.Ytnoaomocdmkigab
