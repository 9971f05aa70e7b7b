/- Which maps are formed, how many starts they have: the document's answer. -/
import Derived.Test.YtnoaomocdmkigaaFi
namespace Go.Proofs.Ytnoaomocdmkigaa
open Go.RowKit
open Pu Gp Ap

/-- how many starts there are without a gap, from the n-th on (f at most) -/
def mnyF (s : ByteArray) : Nat → Nat → Nat
  | 0, n => n
  | f + 1, n => if 0 ≤ fnd s (49 + (n : Int)) 0 then mnyF s f (n + 1) else n
def mny (s : ByteArray) : Nat := mnyF s 6 0
theorem rmany_any (C R : Int) (s : ByteArray) (hz : s.size ≤ 281474976710656) (w : World) : Calls Try.prog 37 #[ar C R s] w fun e w' => e = .returned (.int .i64 (mny s : Nat)) ∧ Still w w' := by
  obtain ⟨T, eT⟩ : ∃ T, T = mny s := ⟨_, rfl⟩
  have HT := hid (show T = mnyF s 6 0 from eT)
  rw [← eT]
  clear eT
  have p := newA_ab w C R s
  obtain ⟨c0, c1, c2, cf⟩ := p.cells
  simp only [newA] at c0 c1 c2 cf
  go_enter Try.func37, Try.ntmps37
  go_wp2_with fail
  go_loop [3] (fun v => ∃ n : Nat, n ≤ 6 ∧ v = .int .i64 (n : Int) ∧ T = mnyF s (6 - n) n) (fun v => 6 - (intOf v).toNat)
  case atStart => exact ⟨0, by omega, rfl, HT.out⟩
  case round =>
    obtain ⟨n, hn, rfl, hf⟩ := hrel
    by_cases hlt : n < 6
    · rw [show 6 - n = (6 - (n + 1)) + 1 by omega, mnyF] at hf
      have hd := fnd_spec s (49 + (n : Int)) 0 (by omega)
      obtain ⟨F, eF⟩ : ∃ F, fnd s (49 + (n : Int)) 0 = F := ⟨_, rfl⟩
      have HC : Hid (∀ u : World, Calls Try.prog 39 #[.string s, .int .u8 (49 + (n : Int)), .int .i64 0] u fun e w' => e = .returned (.int .i64 F) ∧ w' = u) := hid (fun u => by
        have h := rfind_any s (49 + (n : Int)) 0 hz (by omega) u
        rw [eF] at h
        exact h)
      rw [eF] at hf
      have wr8 : IntKind.u8.wrap (49 + (n : Int)) = 49 + (n : Int) := by rw [IntKind.wrap_u8]; omega
      clear hd eF
      by_cases hF : 0 ≤ F
      · rw [if_pos hF] at hf
        have HF := hid hf
        clear hf
        go_wp2_with (go_at_call 39; refine (HC.out _).mono ?_; rintro e w' ⟨he, hw⟩; rw [he, hw]; clear he hw w')
        go_round
        case rel => exact ⟨n + 1, by omega, by go_num, HF.out⟩
        case measure => simp [intOf]; omega
      · rw [if_neg hF] at hf
        have HF := hid (show ((n : Nat) : Int) = (T : Nat) by rw [hf])
        have hF' : decide (0 ≤ F) = false := decide_eq_false hF
        clear hf
        go_wp2_with (go_at_call 39; refine (HC.out _).mono ?_; rintro e w' ⟨he, hw⟩; rw [he, hw]; clear he hw w')
        go_ret
        exact ⟨ret_int HF.out, Still.alloc w _⟩
    · obtain rfl : n = 6 := by omega
      have HF := hid (show ((6 : Nat) : Int) = (T : Nat) by rw [hf]; rfl)
      clear hf
      go_wp2_with fail
      go_ret
      exact ⟨ret_int HF.out, Still.alloc w _⟩
end Go.Proofs.Ytnoaomocdmkigaa
