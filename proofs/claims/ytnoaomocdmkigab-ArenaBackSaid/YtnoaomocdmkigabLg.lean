/- The law on texts and maps, there and back. -/
import Derived.Test.YtnoaomocdmkigabOa
import Derived.Test.YtnoaomocdmkigabPw
import Derived.Test.YtnoaomocdmkigabBk
namespace Go.Proofs.Ytnoaomocdmkigab
open Go.RowKit
open Pu Gp Ap

set_option maxHeartbeats 8000000 in
set_option maxRecDepth 100000 in
theorem back_law (C R : Int) (s t : ByteArray) (_hC : C ≤ 9223372036854775807) (_hz : s.size ≤ 140737488355328) (hz : t.size ≤ 140737488355328) (w : World) :
    Calls Try.prog 3 #[ar C R s, .string t] w fun e w' => e = .returned (.bool true) ∧ Still w w' := by
  have a0 := newA_ab w C R s
  have HS0 := hid (Still.alloc w (.cells #[.int .i64 C, .int .i64 R, .string s] 23))
  have H1 := hid (fun u => parse_any t (by omega) u)
  have g1 := guard_ar
  have k1 := neq_ar C R s
  go_enter Try.func3, Try.ntmps3
  go_wp2_with fail
  refine (awake_any _).mono ?_
  rintro e w1 ⟨rfl, h1⟩
  have a1 := a0.still h1
  have HS1 := hid (HS0.out.trans h1)
  clear a0 HS0 h1
  obtain ⟨c0, c1, c2, cf⟩ := a1.cells
  go_wp2_with fail
  refine (print_any C R s _).mono ?_
  rintro e w2 ⟨v, rfl, hv, h2⟩
  have a2 := a1.still h2
  have HS2 := hid (HS1.out.trans h2)
  clear a1 HS1 h2 c0 c1 c2 cf
  by_cases h0 : v = 0
  · subst h0
    have HB := hid (prs_back hv)
    have HZ := hid (show (prtB s C.toNat R.toNat).size ≤ 281474976710656 by
      rcases prs_back hv with ⟨_, _, _, _, e, _⟩ | ⟨h, _⟩
      · cases e
      · omega)
    have eT : prtT C R s 0 = prtB s C.toNat R.toNat := by unfold prtT; rw [if_pos rfl]
    rw [eT]
    obtain ⟨T, eT2⟩ : ∃ T, prtB s C.toNat R.toNat = T := ⟨_, rfl⟩
    rw [eT2] at HB HZ ⊢
    clear eT eT2 hv
    go_wp2_with fail
    refine (parse_any T HZ.out _).mono ?_
    rintro e w3 ⟨C1, R1, S1, v1, n1, rfl, hp, h3⟩
    obtain ⟨rfl, rfl, rfl, rfl, rfl⟩ := prsV_one hp HB.out
    have A3 := Still.alloc w3 (.cells #[.int .i64 C1, .int .i64 R1, .string S1] 23)
    have a3 := (a2.still h3).still A3
    have b3 := newA_ab w3 C1 R1 S1
    have HS3 := hid ((HS2.out.trans h3).trans A3)
    clear a2 HS2 h3 A3 hp HB
    obtain ⟨c0, c1, c2, cf⟩ := a3.cells
    obtain ⟨d0, d1, d2, df⟩ := b3.cells
    go_wp2_with fail
    clear a3 b3 c0 c1 c2 cf d0 d1 d2 df
    refine (H1.out _).mono ?_
    rintro e w4 ⟨C2, R2, S2, v2, n2, rfl, hp, h4⟩
    have A4 := Still.alloc w4 (.cells #[.int .i64 C2, .int .i64 R2, .string S2] 23)
    have a4 := newA_ab w4 C2 R2 S2
    have HS4 := hid ((HS3.out.trans h4).trans A4)
    clear HS3 h4 A4
    by_cases q0 : v2 = 0
    · subst q0
      obtain ⟨q1, q2⟩ := prt_back hp
      have HQ := hid q1
      have HP := hid (show prtT C2 R2 S2 0 = t by unfold prtT; rw [if_pos rfl]; exact q2)
      clear hp q1 q2
      obtain ⟨e0, e1, e2, ef⟩ := a4.cells
      go_wp2_with fail
      refine (print_any C2 R2 S2 _).mono ?_
      rintro e w5 ⟨v5, rfl, hv5, h5⟩
      obtain rfl := chkV_one hv5 HQ.out
      have HS5 := hid (HS4.out.trans h5)
      clear hv5 h5 HS4 e0 e1 e2 ef a4
      rw [HP.out]
      go_wp2_with fail
      go_ret
      exact ⟨rfl, HS5.out⟩
    · clear hp
      go_wp2_with fail
      go_ret
      exact ⟨rfl, HS4.out⟩
  · clear hv
    have HS3 := hid HS2.out
    clear a2 HS2
    go_wp2_with fail
    refine (H1.out _).mono ?_
    rintro e w4 ⟨C2, R2, S2, v2, n2, rfl, hp, h4⟩
    have A4 := Still.alloc w4 (.cells #[.int .i64 C2, .int .i64 R2, .string S2] 23)
    have a4 := newA_ab w4 C2 R2 S2
    have HS4 := hid ((HS3.out.trans h4).trans A4)
    clear HS3 h4 A4
    by_cases q0 : v2 = 0
    · subst q0
      obtain ⟨q1, q2⟩ := prt_back hp
      have HQ := hid q1
      have HP := hid (show prtT C2 R2 S2 0 = t by unfold prtT; rw [if_pos rfl]; exact q2)
      clear hp q1 q2
      obtain ⟨e0, e1, e2, ef⟩ := a4.cells
      go_wp2_with fail
      refine (print_any C2 R2 S2 _).mono ?_
      rintro e w5 ⟨v5, rfl, hv5, h5⟩
      obtain rfl := chkV_one hv5 HQ.out
      have HS5 := hid (HS4.out.trans h5)
      clear hv5 h5 HS4 e0 e1 e2 ef a4
      rw [HP.out]
      go_wp2_with fail
      go_ret
      exact ⟨rfl, HS5.out⟩
    · clear hp
      go_wp2_with fail
      go_ret
      exact ⟨rfl, HS4.out⟩
end Go.Proofs.Ytnoaomocdmkigab
