/- The program's Lay. -/
import Derived.Test.YtcmgghfjakphmaaLke
namespace Go.Proofs.Ytcmgghfjakphmaa
open Go.RowKit
open Wp Vp Lp
set_option maxRecDepth 100000
set_option linter.unusedVariables false
set_option linter.unusedSimpArgs false

set_option maxHeartbeats 4000000 in
theorem lmay_any (p : Nat) (ko : Option Addr) (kc mb B : Nat) (s : Ln) (c : Cc) (hO : s.O.length ≤ 1152921504606846976) (w : World) (h : Lkk w B p mb ko kc s) : Calls Try.prog 17 #[.pointer (some ⟨p, 0, none⟩), kmv c] w fun e w' => e = .returned (.bool (okL s.se s.O.length c)) ∧ Still w w' := by
  have A0 := Still.alloc w (.cells (kmc c) 47)
  have p0 := newCc_b w c
  obtain ⟨_, c1, _, c3, _, _, _, _, _, _, _⟩ := (h.still A0).cells
  obtain ⟨g, eg⟩ : ∃ g, w.heap.size = g := ⟨_, rfl⟩
  unfold newCc at p0
  obtain ⟨W, eW⟩ : ∃ W, w.alloc (.cells (kmc c) 47) = W := ⟨_, rfl⟩
  rw [eW] at A0 p0 c1 c3
  rw [eg] at p0
  obtain ⟨d0, d1, d2, d3, d4, d5, d6, df⟩ := p0.cells
  have HS := hid A0
  have HC := hid (fun w => vcheck_any c.v c.a c.b c.c w)
  have HE : Hid (okL s.se s.O.length c = ((c.pe == s.se) && ((c.sq == (s.O.length : Int) + 1) && (decide (1 ≤ c.fr) && (decide (c.fr ≤ 1099511627776) && (chkO c.v c.a c.b c.c == 0)))))) := hid rfl
  have q1 := Cl.cell c1
  have q3 := Cl.cell c3
  have r0 := Cl.cell d0
  have r1 := Cl.cell d1
  have r2 := Cl.cell d2
  have r3 := Cl.cell d3
  have r4 := Cl.cell d4
  have r5 := Cl.cell d5
  have r6 := Cl.cell d6
  have hne := Aft.here W
  have hw : IntKind.i64.wrap ((s.O.length : Int) + 1) = (s.O.length : Int) + 1 := wr64 (by omega) (by omega)
  obtain ⟨M, eM⟩ : ∃ b, okL s.se s.O.length c = b := ⟨_, rfl⟩
  obtain ⟨r, er⟩ : ∃ r, chkO c.v c.a c.b c.c = r := ⟨_, rfl⟩
  rw [eM, er] at HE
  rw [eM]
  rw [er] at HC
  clear eM er A0 p0 h d0 d1 d2 d3 d4 d5 d6 df c1 c3
  cases b0 : (c.pe == s.se) with
  | false =>
    go_enter Try.func17, Try.ntmps17
    go_wp2_with fail
    refine region_all (by kernel_rfl) (by kernel_rfl) ?_
    repeat (go_big_quiet_step ((go_at_call 26; exact Calls.cl (HC.out _))))
    refine wpQuiet_nil ?_
    intro w3 h3
    go_wp2_with fail
    go_ret
    exact ⟨by rw [HE.out]; simp [b0], HS.out.trans h3⟩
  | true =>
    cases b1 : (c.sq == (s.O.length : Int) + 1) with
    | false =>
      go_enter Try.func17, Try.ntmps17
      go_wp2_with fail
      refine region_all (by kernel_rfl) (by kernel_rfl) ?_
      repeat (go_big_quiet_step ((go_at_call 26; exact Calls.cl (HC.out _))))
      refine wpQuiet_nil ?_
      intro w3 h3
      go_wp2_with fail
      go_ret
      exact ⟨by rw [HE.out]; simp [b0, b1], HS.out.trans h3⟩
    | true =>
      by_cases b2 : 1 ≤ c.fr
      · have d2 : decide (1 ≤ c.fr) = true := by simpa using b2
        by_cases b3 : c.fr ≤ 1099511627776
        · have d3 : decide (c.fr ≤ 1099511627776) = true := by simpa using b3
          go_enter Try.func17, Try.ntmps17
          go_wp2_with fail
          refine region_all (by kernel_rfl) (by kernel_rfl) ?_
          repeat (go_big_quiet_step ((go_at_call 26; exact Calls.cl (HC.out _))))
          refine wpQuiet_nil ?_
          intro w3 h3
          go_wp2_with fail
          go_ret
          exact ⟨by rw [HE.out]; simp [b0, b1, d2, d3], HS.out.trans h3⟩
        · have d3 : decide (c.fr ≤ 1099511627776) = false := by simpa using b3
          go_enter Try.func17, Try.ntmps17
          go_wp2_with fail
          refine region_all (by kernel_rfl) (by kernel_rfl) ?_
          repeat (go_big_quiet_step ((go_at_call 26; exact Calls.cl (HC.out _))))
          refine wpQuiet_nil ?_
          intro w3 h3
          go_wp2_with fail
          go_ret
          exact ⟨by rw [HE.out]; simp [b0, b1, d2, d3], HS.out.trans h3⟩
      · have d2 : decide (1 ≤ c.fr) = false := by simpa using b2
        go_enter Try.func17, Try.ntmps17
        go_wp2_with fail
        refine region_all (by kernel_rfl) (by kernel_rfl) ?_
        repeat (go_big_quiet_step ((go_at_call 26; exact Calls.cl (HC.out _))))
        refine wpQuiet_nil ?_
        intro w3 h3
        go_wp2_with fail
        go_ret
        exact ⟨by rw [HE.out]; simp [b0, b1, d2], HS.out.trans h3⟩
end Go.Proofs.Ytcmgghfjakphmaa
