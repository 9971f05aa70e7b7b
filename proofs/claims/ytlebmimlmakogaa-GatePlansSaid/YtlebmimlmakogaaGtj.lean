/- Stage 21, the law GatePlans. -/
import Derived.Test.YtlebmimlmakogaaGth
namespace Go.Proofs.Ytlebmimlmakogaa
open Go.RowKit
set_option maxRecDepth 100000

theorem plT_in (x a h l : Int) (hm : MayL a h l) : h ≤ plT x a h l ∧ plT x a h l ≤ h + 4 ∧ (plT x a h l > h → plT x a h l ≤ x ∧ plT x a h l ≤ a + 1 - l) ∧ (plT x a h l ≥ x ∨ plT x a h l ≥ a + 1 - l ∨ plT x a h l - h = 4) := by
  obtain ⟨_, _, _, _, _, _⟩ := hm
  unfold plT
  omega
set_option maxHeartbeats 8000000 in
theorem plans21_law (a b : Int) (so : Option Addr) (m c : Nat) (O : List OqG) (ld bd lg : Int) (w : World) (hr : RdG KQg w so m O) : Calls Try.prog 5 #[.int .i64 a, .int .i64 b, .slice so m c, .int .i64 ld, .int .i64 bd, .int .i64 lg] w fun e w' => e = .returned (.bool true) ∧ Still w w' := by
  have h48 := hr.2.1
  by_cases hm : 2 ≤ a ∧ a ≤ 6 ∧ 0 ≤ b ∧ b < a
  · obtain ⟨n, rfl⟩ : ∃ n : Nat, a = (n : Int) := ⟨a.toNat, by omega⟩
    obtain ⟨s, rfl⟩ : ∃ s : Nat, b = (s : Int) := ⟨b.toNat, by omega⟩
    have HT := hid (told_yes n s (by omega) so m c O w hr)
    obtain ⟨p, ep⟩ : ∃ p, w.heap.size + 1 = p := ⟨_, rfl⟩
    rw [ep] at HT
    clear hr hm ep
    go_enter Try.func5, Try.ntmps5
    go_wp2_with fail
    refine HT.out.mono ?_
    rintro e w1 ⟨he, g, L, hg, hk, hs⟩
    rw [he]
    have HG := hid hg
    have HS := hid hs
    clear he hg hk hs HT
    by_cases c0 : ld ≥ 0
    · by_cases c1 : ld ≤ 1099511627776
      · by_cases c2 : bd ≥ 0
        · by_cases c3 : bd ≤ 48
          · by_cases c4 : bd ≤ ld
            · by_cases c5 : lg ≥ 1
              · by_cases c6 : lg < 48
                · obtain ⟨h, eh⟩ : ∃ h, ld - bd = h := ⟨_, rfl⟩
                  have hw1 : IntKind.i64.wrap (ld - bd) = h := by rw [IntKind.wrap_i64] <;> omega
                  have hm : MayL ld h lg := by refine ⟨?_, ?_, ?_, ?_, ?_, ?_⟩ <;> omega
                  have HPl := hid (gplan_yes HG.out ld h lg hm)
                  have hin := plT_in (lea s L) ld h lg hm
                  obtain ⟨x, ex⟩ : ∃ x, lea s L = x := ⟨_, rfl⟩
                  rw [ex] at HPl hin
                  obtain ⟨U, eU⟩ : ∃ U, plT x ld h lg = U := ⟨_, rfl⟩
                  rw [eU] at HPl hin
                  have HEx := hid ex
                  obtain ⟨m0, m1, m2, m3, m4, m5⟩ := hm
                  obtain ⟨i0, i1, i2, i3⟩ := hin
                  have hw2 : IntKind.i64.wrap (ld + 1) = ld + 1 := by rw [IntKind.wrap_i64] <;> omega
                  have hw3 : IntKind.i64.wrap (ld + 1 - lg) = ld + 1 - lg := by rw [IntKind.wrap_i64] <;> omega
                  have hw4 : IntKind.i64.wrap (U - h) = U - h := by rw [IntKind.wrap_i64] <;> omega
                  have hw5 : IntKind.i64.wrap (ld - U) = ld - U := by rw [IntKind.wrap_i64] <;> omega
                  have u0 : ¬ U - h < 0 := by omega
                  have u1 : ¬ U - h > 4 := by omega
                  obtain ⟨v, ev⟩ : ∃ v, (ld - U == 48) = v := ⟨_, rfl⟩
                  rw [ev] at HPl
                  have HI2 := hid i2
                  have HI3 := hid i3
                  clear eh ex eU i2 i3
                  go_wp2_with fail
                  refine HPl.out.mono ?_
                  rintro e w2 ⟨he, hs2⟩
                  rw [he]
                  have r1 : Pn (w2.alloc (.cells #[.int .i64 U, .bool v] plTy)) w2.heap.size U v := heap_alloc_new w2 _
                  have hs3 := hs2.trans (Still.alloc w2 (.cells #[.int .i64 U, .bool v] plTy))
                  have HL := hid (gleast_any (HG.out.still hs3))
                  rw [HEx.out] at HL
                  have HR1 := hid r1
                  have HS3 := hid (HS.out.trans hs3)
                  clear he hs2 hs3 r1 HPl HG HS HEx
                  go_wp2_with fail
                  refine HL.out.mono ?_
                  rintro e w3 ⟨he, hs4⟩
                  rw [he]
                  obtain ⟨d0, d1, df⟩ := (HR1.out.still hs4).cells
                  have HS4 := hid (HS3.out.trans hs4)
                  clear he hs4 HL HR1 HS3
                  by_cases t0 : U - h > 0
                  · have t1 : ¬ U > x := by have := HI2.out (by omega); omega
                    have t2 : ¬ U > ld + 1 - lg := by have := HI2.out (by omega); omega
                    by_cases t3 : U ≥ x
                    · go_wp2_with fail
                      go_ret
                      exact ⟨by cases v <;> rfl, HS4.out⟩
                    · by_cases t4 : U ≥ ld + 1 - lg
                      · go_wp2_with fail
                        go_ret
                        exact ⟨by cases v <;> rfl, HS4.out⟩
                      · have t5 : (U - h == 4) = true := beq_iff_eq.2 (by have := HI3.out; omega)
                        go_wp2_with fail
                        go_ret
                        exact ⟨by cases v <;> rfl, HS4.out⟩
                  · skip
                    by_cases t3 : U ≥ x
                    · go_wp2_with fail
                      go_ret
                      exact ⟨by cases v <;> rfl, HS4.out⟩
                    · by_cases t4 : U ≥ ld + 1 - lg
                      · go_wp2_with fail
                        go_ret
                        exact ⟨by cases v <;> rfl, HS4.out⟩
                      · have t5 : (U - h == 4) = true := beq_iff_eq.2 (by have := HI3.out; omega)
                        go_wp2_with fail
                        go_ret
                        exact ⟨by cases v <;> rfl, HS4.out⟩
                · have e6 : decide (lg < 48) = false := decide_eq_false c6
                  go_wp2_with fail
                  go_ret
                  exact ⟨rfl, HS.out⟩
              · have e5 : decide (lg ≥ 1) = false := decide_eq_false c5
                go_wp2_with fail
                go_ret
                exact ⟨rfl, HS.out⟩
            · have e4 : decide (bd ≤ ld) = false := decide_eq_false c4
              go_wp2_with fail
              go_ret
              exact ⟨rfl, HS.out⟩
          · have e3 : decide (bd ≤ 48) = false := decide_eq_false c3
            go_wp2_with fail
            go_ret
            exact ⟨rfl, HS.out⟩
        · have e2 : decide (bd ≥ 0) = false := decide_eq_false c2
          go_wp2_with fail
          go_ret
          exact ⟨rfl, HS.out⟩
      · have e1 : decide (ld ≤ 1099511627776) = false := decide_eq_false c1
        go_wp2_with fail
        go_ret
        exact ⟨rfl, HS.out⟩
    · have e0 : decide (ld ≥ 0) = false := decide_eq_false c0
      go_wp2_with fail
      go_ret
      exact ⟨rfl, HS.out⟩
  · have HT := hid (told_no a b hm so m c h48 w)
    clear hr hm
    go_enter Try.func5, Try.ntmps5
    go_wp2_with fail
    refine HT.out.mono ?_
    rintro e w' ⟨he, hw⟩
    rw [he, hw]
    clear he hw w' HT
    go_wp2_with fail
    go_ret
    exact ⟨rfl, Fr.refl _ _⟩
end Go.Proofs.Ytlebmimlmakogaa
