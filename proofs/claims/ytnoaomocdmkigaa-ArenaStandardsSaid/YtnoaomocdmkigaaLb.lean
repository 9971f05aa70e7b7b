/- The laws on the standard maps, and on texts of maps. -/
import Derived.Test.YtnoaomocdmkigaaOa
namespace Go.Proofs.Ytnoaomocdmkigaa
open Go.RowKit
open Pu Gp Ap

set_option maxHeartbeats 4000000 in
theorem standards_law (n : Int) (w : World) : Calls Try.prog 3 #[.int .i64 n] w fun e w' => e = .returned (.bool true) ∧ Still w w' := by
  have H1 := hid (fun u => astd_any n u)
  have H2 := hid (fun u => rstd_any n u)
  have HK := hid (std_chk n)
  obtain ⟨C, eC⟩ : ∃ C, stdC n = C := ⟨_, rfl⟩
  obtain ⟨R, eR⟩ : ∃ R, stdR n = R := ⟨_, rfl⟩
  obtain ⟨S, eS⟩ : ∃ S, stdS n = S := ⟨_, rfl⟩
  have hE : stdE n = 0 ∨ stdE n = 1 := by
    unfold stdE
    split
    · exact .inl rfl
    · exact .inr rfl
  obtain ⟨E, eE⟩ : ∃ E, stdE n = E := ⟨_, rfl⟩
  rw [eC, eR, eS, eE] at H1 H2 HK
  rw [eE] at hE
  clear eC eR eS eE
  have HM := hid (fun (h : E = 0) u => mapcheck_any C R S u)
  go_enter Try.func3, Try.ntmps3
  go_wp2_with fail
  refine (awake_any _).mono ?_
  rintro e w1 ⟨rfl, h1⟩
  go_wp2_with fail
  refine (H1.out _).mono ?_
  rintro e w2 ⟨rfl, h2⟩
  have A2 := Still.alloc w2 (.cells #[.int .i64 C, .int .i64 R, .string S] 24)
  have a2 := newA_ab w2 C R S
  have HS2 := hid ((h1.trans h2).trans A2)
  clear h1 h2 A2
  go_wp2_with fail
  refine (H2.out _).mono ?_
  rintro e w3 ⟨rfl, h3⟩
  have A3 := Still.alloc w3 (.cells #[.int .i64 C, .int .i64 R, .string S] 24)
  have a3 := (a2.still h3).still A3
  have b3 := newA_ab w3 C R S
  have HS3 := hid ((HS2.out.trans h3).trans A3)
  clear h3 A3 a2 HS2
  obtain ⟨c0, c1, c2, cf⟩ := a3.cells
  have k1 := eql_ar C R S
  have g1 := guard_ar
  rcases hE with rfl | rfl
  · go_wp2_with fail
    refine (mapcheck_any C R S _).mono ?_
    rintro e w4 ⟨v, rfl, hv, h4⟩
    obtain rfl := chkV_one hv (HK.out (by first | exact trivial | rfl))
    have a4 := a3.still h4
    have b4 := b3.still h4
    have HS4 := hid (HS3.out.trans h4)
    clear a3 b3 h4 HS3 c0 c1 c2 cf hv
    obtain ⟨c0, c1, c2, cf⟩ := a4.cells
    obtain ⟨d0, d1, d2, df⟩ := b4.cells
    go_wp2_with fail
    go_ret
    exact ⟨rfl, HS4.out⟩
  · obtain ⟨d0, d1, d2, df⟩ := b3.cells
    go_wp2_with fail
    go_ret
    exact ⟨rfl, HS3.out⟩
set_option maxHeartbeats 4000000 in
theorem reads_law (s : ByteArray) (hz : s.size ≤ 140737488355328) (w : World) : Calls Try.prog 5 #[.string s] w fun e w' => e = .returned (.bool true) ∧ Still w w' := by
  have H1 := hid (fun u => parse_any s (by omega) u)
  have H2 := hid (fun u => rparse_any s (by omega) u)
  go_enter Try.func5, Try.ntmps5
  go_wp2_with fail
  refine (awake_any _).mono ?_
  rintro e w1 ⟨rfl, h1⟩
  go_wp2_with fail
  refine (H1.out _).mono ?_
  rintro e w2 ⟨C, R, S, v, n, rfl, hp, h2⟩
  have A2 := Still.alloc w2 (.cells #[.int .i64 C, .int .i64 R, .string S] 24)
  have a2 := newA_ab w2 C R S
  have HS2 := hid ((h1.trans h2).trans A2)
  clear h1 h2 A2
  go_wp2_with fail
  refine (H2.out _).mono ?_
  rintro e w3 ⟨C', R', S', v', n', rfl, hp', h3⟩
  obtain ⟨rfl, rfl, rfl, rfl, rfl⟩ := prsV_one hp hp'
  have A3 := Still.alloc w3 (.cells #[.int .i64 C, .int .i64 R, .string S] 24)
  have a3 := (a2.still h3).still A3
  have b3 := newA_ab w3 C R S
  have HS3 := hid ((HS2.out.trans h3).trans A3)
  clear h3 A3 a2 HS2 hp hp'
  obtain ⟨c0, c1, c2, cf⟩ := a3.cells
  obtain ⟨d0, d1, d2, df⟩ := b3.cells
  have k1 := eql_ar C R S
  have g1 := guard_ar
  go_wp2_with fail
  go_ret
  exact ⟨rfl, HS3.out⟩
end Go.Proofs.Ytnoaomocdmkigaa
