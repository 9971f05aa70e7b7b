/- Texts of maps: the document's row, Print. -/
import Derived.Test.YtnoaomocdmkigaaSd
namespace Go.Proofs.Ytnoaomocdmkigaa
open Go.RowKit
open Pu Gp Ap

theorem rrow_no (t : ByteArray) (hz : t.size ≤ 281474976710656) (h : fnd t 10 0 = -1) (w : World) : Calls Try.prog 43 #[.string t] w fun e w' => e = .returned (.tuple #[.string t, .bool false]) ∧ w' = w := by
  have HC : Hid (∀ u : World, Calls Try.prog 39 #[.string t, .int .u8 10, .int .i64 0] u fun e w' => e = .returned (.int .i64 (-1)) ∧ w' = u) := hid (fun u => by
    have k := rfind_any t 10 0 hz (by omega) u
    rw [h] at k
    exact k)
  clear h
  go_enter Try.func43, Try.ntmps43
  go_wp2_with (go_at_call 39; refine (HC.out _).mono ?_; rintro e w' ⟨he, hw⟩; rw [he, hw]; clear he hw w')
  go_ret2
  exact ⟨rfl, rfl⟩
theorem rrow_yes (t : ByteArray) (hz : t.size ≤ 281474976710656) (k : Nat) (h : fnd t 10 0 = (k : Int)) (hk : k < t.size) (w : World) : Calls Try.prog 43 #[.string t] w fun e w' => e = .returned (.tuple #[.string (t.extract 0 k), .bool true]) ∧ w' = w := by
  have HC : Hid (∀ u : World, Calls Try.prog 39 #[.string t, .int .u8 10, .int .i64 0] u fun e w' => e = .returned (.int .i64 (k : Int)) ∧ w' = u) := hid (fun u => by
    have q := rfind_any t 10 0 hz (by omega) u
    rw [h] at q
    exact q)
  clear h
  have hk' : ((k : Nat) : Int) ≤ (t.size : Int) := by omega
  go_enter Try.func43, Try.ntmps43
  go_wp2_with (go_at_call 39; refine (HC.out _).mono ?_; rintro e w' ⟨he, hw⟩; rw [he, hw]; clear he hw w')
  go_ret2
  exact ⟨rfl, rfl⟩
/-- the text of the first rows -/
def prtB (s : ByteArray) (C : Nat) : Nat → ByteArray
  | 0 => ByteArray.empty
  | i + 1 => prtB s C i ++ s.extract (i * C) ((i + 1) * C) ++ ⟨#[10]⟩
theorem prtB_size {s : ByteArray} {C : Nat} : ∀ {i : Nat}, i * C ≤ s.size → (prtB s C i).size = i * (C + 1)
  | 0, _ => by simp [prtB]
  | i + 1, h => by
    have e : (i + 1) * C = i * C + C := Nat.succ_mul i C
    have e2 : (i + 1) * (C + 1) = i * (C + 1) + (C + 1) := Nat.succ_mul i (C + 1)
    have := prtB_size (s := s) (C := C) (i := i) (by omega)
    rw [prtB, ByteArray.size_append, ByteArray.size_append, this, ByteArray.size_extract]
    rw [show (⟨#[10]⟩ : ByteArray).size = 1 from rfl]
    omega
theorem chkV_ok {C R : Int} {s : ByteArray} (h : ChkV C R s 0) : forB C R s = true := by
  rcases h with ⟨_, e⟩ | ⟨_, _, e⟩ | ⟨h, _⟩
  · cases e
  · cases e
  · exact h
theorem chkV_in {C R : Int} {s : ByteArray} {v : Int} (h : ChkV C R s v) : v = 0 ∨ v = 61 ∨ v = 62 := by
  rcases h with ⟨_, e⟩ | ⟨_, _, e⟩ | ⟨_, _, f, I, _, _, e⟩
  · exact .inr (.inl e)
  · exact .inr (.inr e)
  · rw [e]
    split
    · exact .inl rfl
    · exact .inr (.inr rfl)
def prtT (C R : Int) (s : ByteArray) (v : Int) : ByteArray := if v = 0 then prtB s C.toNat R.toNat else ByteArray.empty
set_option maxHeartbeats 4000000 in
theorem rprint_any (C R : Int) (s : ByteArray) (hz : s.size ≤ 281474976710656) (w : World) :
    Calls Try.prog 14 #[ar C R s] w fun e w' => ∃ v, e = .returned (.tuple #[.string (prtT C R s v), .int .i64 v]) ∧ ChkV C R s v ∧ Still w w' := by
  have p := newA_ab w C R s
  go_enter Try.func14, Try.ntmps14
  obtain ⟨c0, c1, c2, cf⟩ := p.cells
  go_wp2_with fail
  refine (rmapcheck_any C R s hz _).mono ?_
  rintro e w1 ⟨v, rfl, hv, h1⟩
  have p1 := p.still h1
  have HS1 := hid ((Still.alloc w (.cells #[.int .i64 C, .int .i64 R, .string s] 24)).trans h1)
  clear p h1 c0 c1 c2 cf
  obtain ⟨c0, c1, c2, cf⟩ := p1.cells
  have HV := hid hv
  by_cases h0 : v = 0
  · subst h0
    obtain ⟨q1, q2, q3, q4, q5, q6⟩ := form_shape (chkV_ok hv)
    obtain ⟨c, rfl⟩ : ∃ c : Nat, C = c := ⟨C.toNat, by omega⟩
    obtain ⟨r, rfl⟩ : ∃ r : Nat, R = r := ⟨R.toNat, by omega⟩
    have q7 : s.size = c * r := by exact_mod_cast q5
    clear hv q5
    go_wp2_with fail
    go_loop [5, 6] (fun v u => ∃ i : Nat, i ≤ r ∧ u = .int .i64 (i : Int) ∧ v = .string (prtB s c i)) (fun _ u => r - (intOf u).toNat)
    case atStart => exact ⟨0, by omega, rfl, rfl⟩
    case round =>
      obtain ⟨i, hi, rfl, rfl⟩ := hrel
      by_cases hlt : i < r
      · obtain ⟨x, ex⟩ : ∃ x, i * c = x := ⟨_, rfl⟩
        have x1 : (i : Int) * (c : Int) = (x : Int) := by rw [← ex]; exact (Int.natCast_mul i c).symm
        have x3 : (i + 1) * c = x + c := by rw [Nat.succ_mul, ex]
        have x2 : ((i : Int) + 1) * (c : Int) = ((x + c : Nat) : Int) := by rw [← x3]; exact (Int.natCast_mul (i + 1) c).symm
        have x4 : x + c ≤ s.size := by
          rw [← x3, q7, Nat.mul_comm c r]
          exact Nat.mul_le_mul_right c (by omega)
        have ez := prtB_size (s := s) (C := c) (i := i) (by omega)
        have x5 : (prtB s c i).size ≤ 4096 := by
          rw [ez]
          have : i * (c + 1) ≤ 24 * 33 := Nat.mul_le_mul (by omega) (by omega)
          omega
        have HF := hid (show prtB s c i ++ s.extract x (x + c) ++ ⟨#[10]⟩ = prtB s c (i + 1) by rw [prtB, ex, x3])
        obtain ⟨T, eT⟩ : ∃ T, prtB s c i = T := ⟨_, rfl⟩
        obtain ⟨y, ey⟩ : ∃ y, x + c = y := ⟨_, rfl⟩
        have y1 : x ≤ y := by omega
        have y2 : y ≤ x + 32 := by omega
        rw [eT] at x5 HF ⊢
        rw [ey] at HF x2 x4
        clear eT ez ex x3 q7 ey
        go_wp2_with fail
        go_round
        case rel => exact ⟨i + 1, by omega, by go_num, by rw [← HF.out]⟩
        case measure => simp [intOf]; omega
      · have HF := hid (show prtB s c i = prtT (c : Int) (r : Int) s 0 by
          unfold prtT
          rw [if_pos rfl, show i = r by omega]
          rfl)
        go_wp2_with fail
        go_ret2
        exact ⟨0, by rw [← HF.out]; rfl, HV.out, HS1.out⟩
  · have hv' : (v != 0) = true := by simpa using h0
    have HT := hid (show prtT C R s v = ByteArray.empty by unfold prtT; rw [if_neg h0])
    clear hv h0
    go_wp2_with fail
    go_ret2
    exact ⟨v, by rw [HT.out]; rfl, HV.out, HS1.out⟩
end Go.Proofs.Ytnoaomocdmkigaa
