/- The program's refusal. -/
import Derived.Test.YtcmgghfjakphmaaLkj
namespace Go.Proofs.Ytcmgghfjakphmaa
open Go.RowKit
open Wp Vp Lp
set_option maxRecDepth 100000
set_option linter.unusedVariables false
set_option linter.unusedSimpArgs false

theorem chkD_b (d : Dg) : chkD d = if okD d = true then 0 else 162 := rfl
set_option maxHeartbeats 8000000 in
theorem lref_any (p : Nat) (ko : Option Addr) (kc mb B : Nat) (s : Ln) (d : Dg) (co : Option Addr) (cn cp : Nat) (lead : Int) (hO : s.O.length ≤ 1152921504606846976) (hal : s.ak ≤ s.O.length) (hn : d.cs.length = cn) (hg : s.G.length ≤ 1099511627776) (w : World) (h : Lkk w B p mb ko kc s) (hr : SrG KCc w co cp d.cs) : Calls Try.prog 18 #[.pointer (some ⟨p, 0, none⟩), dgv d co cn cp, .int .i64 lead] w fun e w' => e = .returned (.int .i64 (refE s d lead)) ∧ Still w w' := by
  have A0 := Still.alloc w (.cells (dgc d co cn cp) 51)
  have p0 := newDg_b w d co cn cp
  have L0 := h.still A0
  have r0 := hr.still A0
  obtain ⟨g, eg⟩ : ∃ g, w.heap.size = g := ⟨_, rfl⟩
  unfold newDg at p0
  obtain ⟨W, eW⟩ : ∃ W, w.alloc (.cells (dgc d co cn cp) 51) = W := ⟨_, rfl⟩
  rw [eW] at A0 p0 L0 r0
  rw [eg] at p0
  obtain ⟨d0, d1, d2, d3, d4, d5, d6, d7, df⟩ := p0.cells
  have HS := hid A0
  have HL := hid L0
  have HP := hid p0
  have HC := hid (wchk16_any d co cn cp W (by have := r0.rd; rw [hn] at this; exact this))
  rw [chkD_b] at HC
  have HR := hid r0
  have HN := hid hn
  have HE : Hid (refE s d lead = if okD d = true then (if d.ss = s.ss then (if d.fr = s.ot ∧ d.to = s.se then (if d.kd = 1 ∧ (s.G.length : Int) + 1 < d.fi then 182 else if brkB s d lead = true then 183 else 0) else 181) else 180) else 162) := hid rfl
  have HBk : Hid (brkB s d lead = (decide ((s.O.length : Int) < d.ak) || ((d.kd == 1) && (decide (lead < d.mrk - 48) || (latB s d || misB s.mq d.mrk s.G (frs s d)))))) := hid rfl
  have HOk : Hid (okD d = true → _) := hid (fun e => okD_parts (d := d) e)
  have HCs : Hid (okD d = true → ∀ c ∈ d.cs, 1 ≤ c.fr ∧ c.fr ≤ 1099511627776) := hid (fun e c hc => by
    obtain ⟨i, hi, rfl⟩ := mem_cc hc
    have := okD_cs e i hi
    omega)
  clear A0 p0 L0 r0 h hr hn
  cases hk : okD d with
  | false =>
    rw [hk] at HC HE
    go_enter Try.func18, Try.ntmps18
    go_wp2_with fail
    refine HC.out.mono ?_
    rintro e w1 ⟨he, h1⟩
    rw [he]
    have HS1 := hid h1
    clear he h1 HC d0 d1 d2 d3 d4 d5 d6 d7 df eW
    go_wp2_with fail
    go_ret
    exact ⟨by rw [HE.out]; simp [], HS.out.trans HS1.out⟩
  | true =>
    rw [hk] at HC HE HOk HCs
    have hpt := HOk.out rfl
    have HCs2 := hid (HCs.out rfl)
    clear HOk HCs
    cases b1 : (d.ss == s.ss) with
    | false =>
      have n1 : Hid (d.ss ≠ s.ss) := hid (by simpa using b1)
      have y1 : (d.ss != s.ss) = true := by rw [bne, b1]; rfl
      go_enter Try.func18, Try.ntmps18
      go_wp2_with fail
      refine HC.out.mono ?_
      rintro e w1 ⟨he, h1⟩
      rw [he]
      have HS1 := hid h1
      clear he h1 HC d0 d1 d2 d3 d4 d5 d6 d7 df eW
      go_wp2_with fail
      obtain ⟨d0, d1, d2, d3, d4, d5, d6, d7, df⟩ := (HP.out.still HS1.out).cells
      obtain ⟨c0, c1, c2, c3, c4, c5, c6, c7, c8, c9, cf⟩ := (HL.out.still HS1.out).cells
      have q0 := Cl.cell d0
      have q1 := Cl.cell d1
      have q2 := Cl.cell d2
      have q3 := Cl.cell d3
      have q5 := Cl.cell d5
      have q7 := Cl.cell d7
      have r0 := Cl.cell c0
      have r1 := Cl.cell c1
      have r2 := Cl.cell c2
      have r3 := Cl.cell c3
      have r5 := Cl.cell c5
      have hne := Aft.here w1
      clear d0 d1 d2 d3 d4 d5 d6 d7 df c0 c1 c2 c3 c4 c5 c6 c7 c8 c9 cf
      refine region_all (by kernel_rfl) (by kernel_rfl) ?_
      repeat (go_big_quiet_step (rfl))
      refine wpQuiet_nil ?_
      intro w2 h2
      have HS2 := hid (HS1.out.trans h2)
      clear h2 q0 q1 q2 q3 q5 q7 r0 r1 r2 r3 r5 hne
      go_wp2_with fail
      go_ret
      exact ⟨by rw [HE.out]; simp [n1.out], HS.out.trans HS2.out⟩
    | true =>
      have n1 : Hid (d.ss = s.ss) := hid (by simpa using b1)
      have y1 : (d.ss != s.ss) = false := by rw [bne, b1]; rfl
      cases b2 : (d.fr == s.ot) with
      | false =>
        have n2 : Hid (d.fr ≠ s.ot) := hid (by simpa using b2)
        have y2 : (d.fr != s.ot) = true := by rw [bne, b2]; rfl
        go_enter Try.func18, Try.ntmps18
        go_wp2_with fail
        refine HC.out.mono ?_
        rintro e w1 ⟨he, h1⟩
        rw [he]
        have HS1 := hid h1
        clear he h1 HC d0 d1 d2 d3 d4 d5 d6 d7 df eW
        go_wp2_with fail
        obtain ⟨d0, d1, d2, d3, d4, d5, d6, d7, df⟩ := (HP.out.still HS1.out).cells
        obtain ⟨c0, c1, c2, c3, c4, c5, c6, c7, c8, c9, cf⟩ := (HL.out.still HS1.out).cells
        have q0 := Cl.cell d0
        have q1 := Cl.cell d1
        have q2 := Cl.cell d2
        have q3 := Cl.cell d3
        have q5 := Cl.cell d5
        have q7 := Cl.cell d7
        have r0 := Cl.cell c0
        have r1 := Cl.cell c1
        have r2 := Cl.cell c2
        have r3 := Cl.cell c3
        have r5 := Cl.cell c5
        have hne := Aft.here w1
        clear d0 d1 d2 d3 d4 d5 d6 d7 df c0 c1 c2 c3 c4 c5 c6 c7 c8 c9 cf
        refine region_all (by kernel_rfl) (by kernel_rfl) ?_
        repeat (go_big_quiet_step (rfl))
        refine wpQuiet_nil ?_
        intro w2 h2
        have HS2 := hid (HS1.out.trans h2)
        clear h2 q0 q1 q2 q3 q5 q7 r0 r1 r2 r3 r5 hne
        go_wp2_with fail
        obtain ⟨d0, d1, d2, d3, d4, d5, d6, d7, df⟩ := (HP.out.still HS2.out).cells
        obtain ⟨c0, c1, c2, c3, c4, c5, c6, c7, c8, c9, cf⟩ := (HL.out.still HS2.out).cells
        have q0 := Cl.cell d0
        have q1 := Cl.cell d1
        have q2 := Cl.cell d2
        have q3 := Cl.cell d3
        have q5 := Cl.cell d5
        have q7 := Cl.cell d7
        have r0 := Cl.cell c0
        have r1 := Cl.cell c1
        have r2 := Cl.cell c2
        have r3 := Cl.cell c3
        have r5 := Cl.cell c5
        have hne := Aft.here w2
        clear d0 d1 d2 d3 d4 d5 d6 d7 df c0 c1 c2 c3 c4 c5 c6 c7 c8 c9 cf
        refine region_all (by kernel_rfl) (by kernel_rfl) ?_
        repeat (go_big_quiet_step (rfl))
        refine wpQuiet_nil ?_
        intro w3 h3
        have HS3 := hid (HS2.out.trans h3)
        clear h3 q0 q1 q2 q3 q5 q7 r0 r1 r2 r3 r5 hne
        go_wp2_with fail
        go_ret
        exact ⟨by rw [HE.out]; simp [n1.out, n2.out], HS.out.trans HS3.out⟩
      | true =>
        have n2 : Hid (d.fr = s.ot) := hid (by simpa using b2)
        have y2 : (d.fr != s.ot) = false := by rw [bne, b2]; rfl
        cases b3 : (d.to == s.se) with
        | false =>
          have n3 : Hid (d.to ≠ s.se) := hid (by simpa using b3)
          have y3 : (d.to != s.se) = true := by rw [bne, b3]; rfl
          go_enter Try.func18, Try.ntmps18
          go_wp2_with fail
          refine HC.out.mono ?_
          rintro e w1 ⟨he, h1⟩
          rw [he]
          have HS1 := hid h1
          clear he h1 HC d0 d1 d2 d3 d4 d5 d6 d7 df eW
          go_wp2_with fail
          obtain ⟨d0, d1, d2, d3, d4, d5, d6, d7, df⟩ := (HP.out.still HS1.out).cells
          obtain ⟨c0, c1, c2, c3, c4, c5, c6, c7, c8, c9, cf⟩ := (HL.out.still HS1.out).cells
          have q0 := Cl.cell d0
          have q1 := Cl.cell d1
          have q2 := Cl.cell d2
          have q3 := Cl.cell d3
          have q5 := Cl.cell d5
          have q7 := Cl.cell d7
          have r0 := Cl.cell c0
          have r1 := Cl.cell c1
          have r2 := Cl.cell c2
          have r3 := Cl.cell c3
          have r5 := Cl.cell c5
          have hne := Aft.here w1
          clear d0 d1 d2 d3 d4 d5 d6 d7 df c0 c1 c2 c3 c4 c5 c6 c7 c8 c9 cf
          refine region_all (by kernel_rfl) (by kernel_rfl) ?_
          repeat (go_big_quiet_step (rfl))
          refine wpQuiet_nil ?_
          intro w2 h2
          have HS2 := hid (HS1.out.trans h2)
          clear h2 q0 q1 q2 q3 q5 q7 r0 r1 r2 r3 r5 hne
          go_wp2_with fail
          obtain ⟨d0, d1, d2, d3, d4, d5, d6, d7, df⟩ := (HP.out.still HS2.out).cells
          obtain ⟨c0, c1, c2, c3, c4, c5, c6, c7, c8, c9, cf⟩ := (HL.out.still HS2.out).cells
          have q0 := Cl.cell d0
          have q1 := Cl.cell d1
          have q2 := Cl.cell d2
          have q3 := Cl.cell d3
          have q5 := Cl.cell d5
          have q7 := Cl.cell d7
          have r0 := Cl.cell c0
          have r1 := Cl.cell c1
          have r2 := Cl.cell c2
          have r3 := Cl.cell c3
          have r5 := Cl.cell c5
          have hne := Aft.here w2
          clear d0 d1 d2 d3 d4 d5 d6 d7 df c0 c1 c2 c3 c4 c5 c6 c7 c8 c9 cf
          refine region_all (by kernel_rfl) (by kernel_rfl) ?_
          repeat (go_big_quiet_step (rfl))
          refine wpQuiet_nil ?_
          intro w3 h3
          have HS3 := hid (HS2.out.trans h3)
          clear h3 q0 q1 q2 q3 q5 q7 r0 r1 r2 r3 r5 hne
          go_wp2_with fail
          go_ret
          exact ⟨by rw [HE.out]; simp [n1.out, n2.out, n3.out], HS.out.trans HS3.out⟩
        | true =>
          have n3 : Hid (d.to = s.se) := hid (by simpa using b3)
          have y3 : (d.to != s.se) = false := by rw [bne, b3]; rfl
          cases b4 : (d.kd == 1) with
          | false =>
            have n4 : Hid (d.kd ≠ 1) := hid (by simpa using b4)
            by_cases b5 : (s.O.length : Int) < d.ak
            · have e5 : decide ((s.O.length : Int) < d.ak) = true := by simpa using b5
              go_enter Try.func18, Try.ntmps18
              go_wp2_with fail
              refine HC.out.mono ?_
              rintro e w1 ⟨he, h1⟩
              rw [he]
              have HS1 := hid h1
              clear he h1 HC d0 d1 d2 d3 d4 d5 d6 d7 df eW
              go_wp2_with fail
              obtain ⟨d0, d1, d2, d3, d4, d5, d6, d7, df⟩ := (HP.out.still HS1.out).cells
              obtain ⟨c0, c1, c2, c3, c4, c5, c6, c7, c8, c9, cf⟩ := (HL.out.still HS1.out).cells
              have q0 := Cl.cell d0
              have q1 := Cl.cell d1
              have q2 := Cl.cell d2
              have q3 := Cl.cell d3
              have q5 := Cl.cell d5
              have q7 := Cl.cell d7
              have r0 := Cl.cell c0
              have r1 := Cl.cell c1
              have r2 := Cl.cell c2
              have r3 := Cl.cell c3
              have r5 := Cl.cell c5
              have hne := Aft.here w1
              clear d0 d1 d2 d3 d4 d5 d6 d7 df c0 c1 c2 c3 c4 c5 c6 c7 c8 c9 cf
              refine region_all (by kernel_rfl) (by kernel_rfl) ?_
              repeat (go_big_quiet_step (rfl))
              refine wpQuiet_nil ?_
              intro w2 h2
              have HS2 := hid (HS1.out.trans h2)
              clear h2 q0 q1 q2 q3 q5 q7 r0 r1 r2 r3 r5 hne
              go_wp2_with fail
              obtain ⟨d0, d1, d2, d3, d4, d5, d6, d7, df⟩ := (HP.out.still HS2.out).cells
              obtain ⟨c0, c1, c2, c3, c4, c5, c6, c7, c8, c9, cf⟩ := (HL.out.still HS2.out).cells
              have q0 := Cl.cell d0
              have q1 := Cl.cell d1
              have q2 := Cl.cell d2
              have q3 := Cl.cell d3
              have q5 := Cl.cell d5
              have q7 := Cl.cell d7
              have r0 := Cl.cell c0
              have r1 := Cl.cell c1
              have r2 := Cl.cell c2
              have r3 := Cl.cell c3
              have r5 := Cl.cell c5
              have hne := Aft.here w2
              clear d0 d1 d2 d3 d4 d5 d6 d7 df c0 c1 c2 c3 c4 c5 c6 c7 c8 c9 cf
              refine region_all (by kernel_rfl) (by kernel_rfl) ?_
              repeat (go_big_quiet_step (rfl))
              refine wpQuiet_nil ?_
              intro w3 h3
              have HS3 := hid (HS2.out.trans h3)
              clear h3 q0 q1 q2 q3 q5 q7 r0 r1 r2 r3 r5 hne
              go_wp2_with fail
              obtain ⟨d0, d1, d2, d3, d4, d5, d6, d7, df⟩ := (HP.out.still HS3.out).cells
              obtain ⟨c0, c1, c2, c3, c4, c5, c6, c7, c8, c9, cf⟩ := (HL.out.still HS3.out).cells
              have q0 := Cl.cell d0
              have q1 := Cl.cell d1
              have q2 := Cl.cell d2
              have q3 := Cl.cell d3
              have q5 := Cl.cell d5
              have q7 := Cl.cell d7
              have r0 := Cl.cell c0
              have r1 := Cl.cell c1
              have r2 := Cl.cell c2
              have r3 := Cl.cell c3
              have r5 := Cl.cell c5
              have hne := Aft.here w3
              clear d0 d1 d2 d3 d4 d5 d6 d7 df c0 c1 c2 c3 c4 c5 c6 c7 c8 c9 cf
              refine region_all (by kernel_rfl) (by kernel_rfl) ?_
              repeat (go_big_quiet_step (rfl))
              refine wpQuiet_nil ?_
              intro w4 h4
              have HS4 := hid (HS3.out.trans h4)
              clear h4 q0 q1 q2 q3 q5 q7 r0 r1 r2 r3 r5 hne
              go_wp2_with fail
              obtain ⟨d0, d1, d2, d3, d4, d5, d6, d7, df⟩ := (HP.out.still HS4.out).cells
              obtain ⟨c0, c1, c2, c3, c4, c5, c6, c7, c8, c9, cf⟩ := (HL.out.still HS4.out).cells
              have q0 := Cl.cell d0
              have q1 := Cl.cell d1
              have q2 := Cl.cell d2
              have q3 := Cl.cell d3
              have q5 := Cl.cell d5
              have q7 := Cl.cell d7
              have r0 := Cl.cell c0
              have r1 := Cl.cell c1
              have r2 := Cl.cell c2
              have r3 := Cl.cell c3
              have r5 := Cl.cell c5
              have hne := Aft.here w4
              clear d0 d1 d2 d3 d4 d5 d6 d7 df c0 c1 c2 c3 c4 c5 c6 c7 c8 c9 cf
              refine region_all (by kernel_rfl) (by kernel_rfl) ?_
              repeat (go_big_quiet_step (rfl))
              refine wpQuiet_nil ?_
              intro w5 h5
              have HS5 := hid (HS4.out.trans h5)
              clear h5 q0 q1 q2 q3 q5 q7 r0 r1 r2 r3 r5 hne
              go_wp2_with fail
              go_ret
              exact ⟨by rw [HE.out]; simp [n1.out, n2.out, n3.out, n4.out, HBk.out, e5], HS.out.trans HS5.out⟩
            · have e5 : decide ((s.O.length : Int) < d.ak) = false := by simpa using b5
              go_enter Try.func18, Try.ntmps18
              go_wp2_with fail
              refine HC.out.mono ?_
              rintro e w1 ⟨he, h1⟩
              rw [he]
              have HS1 := hid h1
              clear he h1 HC d0 d1 d2 d3 d4 d5 d6 d7 df eW
              go_wp2_with fail
              obtain ⟨d0, d1, d2, d3, d4, d5, d6, d7, df⟩ := (HP.out.still HS1.out).cells
              obtain ⟨c0, c1, c2, c3, c4, c5, c6, c7, c8, c9, cf⟩ := (HL.out.still HS1.out).cells
              have q0 := Cl.cell d0
              have q1 := Cl.cell d1
              have q2 := Cl.cell d2
              have q3 := Cl.cell d3
              have q5 := Cl.cell d5
              have q7 := Cl.cell d7
              have r0 := Cl.cell c0
              have r1 := Cl.cell c1
              have r2 := Cl.cell c2
              have r3 := Cl.cell c3
              have r5 := Cl.cell c5
              have hne := Aft.here w1
              clear d0 d1 d2 d3 d4 d5 d6 d7 df c0 c1 c2 c3 c4 c5 c6 c7 c8 c9 cf
              refine region_all (by kernel_rfl) (by kernel_rfl) ?_
              repeat (go_big_quiet_step (rfl))
              refine wpQuiet_nil ?_
              intro w2 h2
              have HS2 := hid (HS1.out.trans h2)
              clear h2 q0 q1 q2 q3 q5 q7 r0 r1 r2 r3 r5 hne
              go_wp2_with fail
              obtain ⟨d0, d1, d2, d3, d4, d5, d6, d7, df⟩ := (HP.out.still HS2.out).cells
              obtain ⟨c0, c1, c2, c3, c4, c5, c6, c7, c8, c9, cf⟩ := (HL.out.still HS2.out).cells
              have q0 := Cl.cell d0
              have q1 := Cl.cell d1
              have q2 := Cl.cell d2
              have q3 := Cl.cell d3
              have q5 := Cl.cell d5
              have q7 := Cl.cell d7
              have r0 := Cl.cell c0
              have r1 := Cl.cell c1
              have r2 := Cl.cell c2
              have r3 := Cl.cell c3
              have r5 := Cl.cell c5
              have hne := Aft.here w2
              clear d0 d1 d2 d3 d4 d5 d6 d7 df c0 c1 c2 c3 c4 c5 c6 c7 c8 c9 cf
              refine region_all (by kernel_rfl) (by kernel_rfl) ?_
              repeat (go_big_quiet_step (rfl))
              refine wpQuiet_nil ?_
              intro w3 h3
              have HS3 := hid (HS2.out.trans h3)
              clear h3 q0 q1 q2 q3 q5 q7 r0 r1 r2 r3 r5 hne
              go_wp2_with fail
              obtain ⟨d0, d1, d2, d3, d4, d5, d6, d7, df⟩ := (HP.out.still HS3.out).cells
              obtain ⟨c0, c1, c2, c3, c4, c5, c6, c7, c8, c9, cf⟩ := (HL.out.still HS3.out).cells
              have q0 := Cl.cell d0
              have q1 := Cl.cell d1
              have q2 := Cl.cell d2
              have q3 := Cl.cell d3
              have q5 := Cl.cell d5
              have q7 := Cl.cell d7
              have r0 := Cl.cell c0
              have r1 := Cl.cell c1
              have r2 := Cl.cell c2
              have r3 := Cl.cell c3
              have r5 := Cl.cell c5
              have hne := Aft.here w3
              clear d0 d1 d2 d3 d4 d5 d6 d7 df c0 c1 c2 c3 c4 c5 c6 c7 c8 c9 cf
              refine region_all (by kernel_rfl) (by kernel_rfl) ?_
              repeat (go_big_quiet_step (rfl))
              refine wpQuiet_nil ?_
              intro w4 h4
              have HS4 := hid (HS3.out.trans h4)
              clear h4 q0 q1 q2 q3 q5 q7 r0 r1 r2 r3 r5 hne
              go_wp2_with fail
              obtain ⟨d0, d1, d2, d3, d4, d5, d6, d7, df⟩ := (HP.out.still HS4.out).cells
              obtain ⟨c0, c1, c2, c3, c4, c5, c6, c7, c8, c9, cf⟩ := (HL.out.still HS4.out).cells
              have q0 := Cl.cell d0
              have q1 := Cl.cell d1
              have q2 := Cl.cell d2
              have q3 := Cl.cell d3
              have q5 := Cl.cell d5
              have q7 := Cl.cell d7
              have r0 := Cl.cell c0
              have r1 := Cl.cell c1
              have r2 := Cl.cell c2
              have r3 := Cl.cell c3
              have r5 := Cl.cell c5
              have hne := Aft.here w4
              clear d0 d1 d2 d3 d4 d5 d6 d7 df c0 c1 c2 c3 c4 c5 c6 c7 c8 c9 cf
              refine region_all (by kernel_rfl) (by kernel_rfl) ?_
              repeat (go_big_quiet_step (rfl))
              refine wpQuiet_nil ?_
              intro w5 h5
              have HS5 := hid (HS4.out.trans h5)
              clear h5 q0 q1 q2 q3 q5 q7 r0 r1 r2 r3 r5 hne
              obtain ⟨d0, d1, d2, d3, d4, d5, d6, d7, df⟩ := (HP.out.still HS5.out).cells
              go_wp2_with fail
              go_ret
              exact ⟨by rw [HE.out]; simp [n1.out, n2.out, n3.out, n4.out, HBk.out, e5, b4], HS.out.trans HS5.out⟩
          | true =>
            have n4 : Hid (d.kd = 1) := hid (by simpa using b4)
            by_cases b6 : (s.G.length : Int) + 1 < d.fi
            · have e6 : decide ((s.G.length : Int) + 1 < d.fi) = true := by simpa using b6
              go_enter Try.func18, Try.ntmps18
              go_wp2_with fail
              refine HC.out.mono ?_
              rintro e w1 ⟨he, h1⟩
              rw [he]
              have HS1 := hid h1
              clear he h1 HC d0 d1 d2 d3 d4 d5 d6 d7 df eW
              go_wp2_with fail
              obtain ⟨d0, d1, d2, d3, d4, d5, d6, d7, df⟩ := (HP.out.still HS1.out).cells
              obtain ⟨c0, c1, c2, c3, c4, c5, c6, c7, c8, c9, cf⟩ := (HL.out.still HS1.out).cells
              have q0 := Cl.cell d0
              have q1 := Cl.cell d1
              have q2 := Cl.cell d2
              have q3 := Cl.cell d3
              have q5 := Cl.cell d5
              have q7 := Cl.cell d7
              have r0 := Cl.cell c0
              have r1 := Cl.cell c1
              have r2 := Cl.cell c2
              have r3 := Cl.cell c3
              have r5 := Cl.cell c5
              have hne := Aft.here w1
              clear d0 d1 d2 d3 d4 d5 d6 d7 df c0 c1 c2 c3 c4 c5 c6 c7 c8 c9 cf
              refine region_all (by kernel_rfl) (by kernel_rfl) ?_
              repeat (go_big_quiet_step (rfl))
              refine wpQuiet_nil ?_
              intro w2 h2
              have HS2 := hid (HS1.out.trans h2)
              clear h2 q0 q1 q2 q3 q5 q7 r0 r1 r2 r3 r5 hne
              go_wp2_with fail
              obtain ⟨d0, d1, d2, d3, d4, d5, d6, d7, df⟩ := (HP.out.still HS2.out).cells
              obtain ⟨c0, c1, c2, c3, c4, c5, c6, c7, c8, c9, cf⟩ := (HL.out.still HS2.out).cells
              have q0 := Cl.cell d0
              have q1 := Cl.cell d1
              have q2 := Cl.cell d2
              have q3 := Cl.cell d3
              have q5 := Cl.cell d5
              have q7 := Cl.cell d7
              have r0 := Cl.cell c0
              have r1 := Cl.cell c1
              have r2 := Cl.cell c2
              have r3 := Cl.cell c3
              have r5 := Cl.cell c5
              have hne := Aft.here w2
              clear d0 d1 d2 d3 d4 d5 d6 d7 df c0 c1 c2 c3 c4 c5 c6 c7 c8 c9 cf
              refine region_all (by kernel_rfl) (by kernel_rfl) ?_
              repeat (go_big_quiet_step (rfl))
              refine wpQuiet_nil ?_
              intro w3 h3
              have HS3 := hid (HS2.out.trans h3)
              clear h3 q0 q1 q2 q3 q5 q7 r0 r1 r2 r3 r5 hne
              go_wp2_with fail
              obtain ⟨d0, d1, d2, d3, d4, d5, d6, d7, df⟩ := (HP.out.still HS3.out).cells
              obtain ⟨c0, c1, c2, c3, c4, c5, c6, c7, c8, c9, cf⟩ := (HL.out.still HS3.out).cells
              have q0 := Cl.cell d0
              have q1 := Cl.cell d1
              have q2 := Cl.cell d2
              have q3 := Cl.cell d3
              have q5 := Cl.cell d5
              have q7 := Cl.cell d7
              have r0 := Cl.cell c0
              have r1 := Cl.cell c1
              have r2 := Cl.cell c2
              have r3 := Cl.cell c3
              have r5 := Cl.cell c5
              have hne := Aft.here w3
              clear d0 d1 d2 d3 d4 d5 d6 d7 df c0 c1 c2 c3 c4 c5 c6 c7 c8 c9 cf
              refine region_all (by kernel_rfl) (by kernel_rfl) ?_
              repeat (go_big_quiet_step (rfl))
              refine wpQuiet_nil ?_
              intro w4 h4
              have HS4 := hid (HS3.out.trans h4)
              clear h4 q0 q1 q2 q3 q5 q7 r0 r1 r2 r3 r5 hne
              go_wp2_with fail
              go_ret
              exact ⟨by rw [HE.out]; simp [n1.out, n2.out, n3.out, n4.out, b6], HS.out.trans HS4.out⟩
            · have e6 : decide ((s.G.length : Int) + 1 < d.fi) = false := by simpa using b6
              by_cases b5 : (s.O.length : Int) < d.ak
              · have e5 : decide ((s.O.length : Int) < d.ak) = true := by simpa using b5
                go_enter Try.func18, Try.ntmps18
                go_wp2_with fail
                refine HC.out.mono ?_
                rintro e w1 ⟨he, h1⟩
                rw [he]
                have HS1 := hid h1
                clear he h1 HC d0 d1 d2 d3 d4 d5 d6 d7 df eW
                go_wp2_with fail
                obtain ⟨d0, d1, d2, d3, d4, d5, d6, d7, df⟩ := (HP.out.still HS1.out).cells
                obtain ⟨c0, c1, c2, c3, c4, c5, c6, c7, c8, c9, cf⟩ := (HL.out.still HS1.out).cells
                have q0 := Cl.cell d0
                have q1 := Cl.cell d1
                have q2 := Cl.cell d2
                have q3 := Cl.cell d3
                have q5 := Cl.cell d5
                have q7 := Cl.cell d7
                have r0 := Cl.cell c0
                have r1 := Cl.cell c1
                have r2 := Cl.cell c2
                have r3 := Cl.cell c3
                have r5 := Cl.cell c5
                have hne := Aft.here w1
                clear d0 d1 d2 d3 d4 d5 d6 d7 df c0 c1 c2 c3 c4 c5 c6 c7 c8 c9 cf
                refine region_all (by kernel_rfl) (by kernel_rfl) ?_
                repeat (go_big_quiet_step (rfl))
                refine wpQuiet_nil ?_
                intro w2 h2
                have HS2 := hid (HS1.out.trans h2)
                clear h2 q0 q1 q2 q3 q5 q7 r0 r1 r2 r3 r5 hne
                go_wp2_with fail
                obtain ⟨d0, d1, d2, d3, d4, d5, d6, d7, df⟩ := (HP.out.still HS2.out).cells
                obtain ⟨c0, c1, c2, c3, c4, c5, c6, c7, c8, c9, cf⟩ := (HL.out.still HS2.out).cells
                have q0 := Cl.cell d0
                have q1 := Cl.cell d1
                have q2 := Cl.cell d2
                have q3 := Cl.cell d3
                have q5 := Cl.cell d5
                have q7 := Cl.cell d7
                have r0 := Cl.cell c0
                have r1 := Cl.cell c1
                have r2 := Cl.cell c2
                have r3 := Cl.cell c3
                have r5 := Cl.cell c5
                have hne := Aft.here w2
                clear d0 d1 d2 d3 d4 d5 d6 d7 df c0 c1 c2 c3 c4 c5 c6 c7 c8 c9 cf
                refine region_all (by kernel_rfl) (by kernel_rfl) ?_
                repeat (go_big_quiet_step (rfl))
                refine wpQuiet_nil ?_
                intro w3 h3
                have HS3 := hid (HS2.out.trans h3)
                clear h3 q0 q1 q2 q3 q5 q7 r0 r1 r2 r3 r5 hne
                go_wp2_with fail
                obtain ⟨d0, d1, d2, d3, d4, d5, d6, d7, df⟩ := (HP.out.still HS3.out).cells
                obtain ⟨c0, c1, c2, c3, c4, c5, c6, c7, c8, c9, cf⟩ := (HL.out.still HS3.out).cells
                have q0 := Cl.cell d0
                have q1 := Cl.cell d1
                have q2 := Cl.cell d2
                have q3 := Cl.cell d3
                have q5 := Cl.cell d5
                have q7 := Cl.cell d7
                have r0 := Cl.cell c0
                have r1 := Cl.cell c1
                have r2 := Cl.cell c2
                have r3 := Cl.cell c3
                have r5 := Cl.cell c5
                have hne := Aft.here w3
                clear d0 d1 d2 d3 d4 d5 d6 d7 df c0 c1 c2 c3 c4 c5 c6 c7 c8 c9 cf
                refine region_all (by kernel_rfl) (by kernel_rfl) ?_
                repeat (go_big_quiet_step (rfl))
                refine wpQuiet_nil ?_
                intro w4 h4
                have HS4 := hid (HS3.out.trans h4)
                clear h4 q0 q1 q2 q3 q5 q7 r0 r1 r2 r3 r5 hne
                go_wp2_with fail
                obtain ⟨d0, d1, d2, d3, d4, d5, d6, d7, df⟩ := (HP.out.still HS4.out).cells
                obtain ⟨c0, c1, c2, c3, c4, c5, c6, c7, c8, c9, cf⟩ := (HL.out.still HS4.out).cells
                have q0 := Cl.cell d0
                have q1 := Cl.cell d1
                have q2 := Cl.cell d2
                have q3 := Cl.cell d3
                have q5 := Cl.cell d5
                have q7 := Cl.cell d7
                have r0 := Cl.cell c0
                have r1 := Cl.cell c1
                have r2 := Cl.cell c2
                have r3 := Cl.cell c3
                have r5 := Cl.cell c5
                have hne := Aft.here w4
                clear d0 d1 d2 d3 d4 d5 d6 d7 df c0 c1 c2 c3 c4 c5 c6 c7 c8 c9 cf
                refine region_all (by kernel_rfl) (by kernel_rfl) ?_
                repeat (go_big_quiet_step (rfl))
                refine wpQuiet_nil ?_
                intro w5 h5
                have HS5 := hid (HS4.out.trans h5)
                clear h5 q0 q1 q2 q3 q5 q7 r0 r1 r2 r3 r5 hne
                go_wp2_with fail
                go_ret
                exact ⟨by rw [HE.out]; simp [n1.out, n2.out, n3.out, n4.out, b6, HBk.out, e5], HS.out.trans HS5.out⟩
              · have e5 : decide ((s.O.length : Int) < d.ak) = false := by simpa using b5
                have hq : (0 ≤ d.mrk ∧ d.mrk ≤ 1099511627776) ∧ (1 ≤ d.fi ∧ d.fi ≤ 1099511627776) ∧ d.cs.length ≤ 336 := by
                  rcases hpt.2.2 with ⟨_, q1, q2, q3, _⟩ | ⟨q, _⟩
                  · exact ⟨q1, q2, q3⟩
                  · have := n4.out; omega
                have HRu : Hid (∀ u, Still W u → Calls Try.prog 28 #[.pointer (some ⟨p, 0, none⟩), dgv d co cn cp, .int .i64 lead] u fun e w' => e = .returned (.bool (decide (lead < d.mrk - 48) || latB s d)) ∧ Still u w') := hid (fun u hu => lruns_any p ko kc mb B s d co cn cp lead hO hal hq.1 ⟨hpt.2.1.1, by omega⟩ u (HL.out.still hu))
                have HMi : Hid (∀ u, Still W u → Calls Try.prog 29 #[.pointer (some ⟨p, 0, none⟩), dgv d co cn cp] u fun e w' => e = .returned (.bool (misB s.mq d.mrk s.G (frs s d))) ∧ Still u w') := hid (fun u hu => lmis_any p ko kc mb B s d co cn cp HN.out hg ⟨by omega, by omega⟩ (by have := HN.out; omega) hq.1 HCs2.out u (HL.out.still hu) (HR.out.still hu))
                have HB2 : Hid (brkB s d lead = ((decide (lead < d.mrk - 48) || latB s d) || misB s.mq d.mrk s.G (frs s d))) := hid (by rw [HBk.out, e5, b4]; simp [Bool.or_assoc])
                obtain ⟨m1, em1⟩ : ∃ b, (decide (lead < d.mrk - 48) || latB s d) = b := ⟨_, rfl⟩
                obtain ⟨m2, em2⟩ : ∃ b, misB s.mq d.mrk s.G (frs s d) = b := ⟨_, rfl⟩
                rw [em1] at HRu HB2
                rw [em2] at HMi HB2
                clear em1 em2 hq hpt
                cases m1 with
                | true =>
                  go_enter Try.func18, Try.ntmps18
                  go_wp2_with fail
                  refine HC.out.mono ?_
                  rintro e w1 ⟨he, h1⟩
                  rw [he]
                  have HS1 := hid h1
                  clear he h1 HC d0 d1 d2 d3 d4 d5 d6 d7 df eW
                  go_wp2_with fail
                  obtain ⟨d0, d1, d2, d3, d4, d5, d6, d7, df⟩ := (HP.out.still HS1.out).cells
                  obtain ⟨c0, c1, c2, c3, c4, c5, c6, c7, c8, c9, cf⟩ := (HL.out.still HS1.out).cells
                  have q0 := Cl.cell d0
                  have q1 := Cl.cell d1
                  have q2 := Cl.cell d2
                  have q3 := Cl.cell d3
                  have q5 := Cl.cell d5
                  have q7 := Cl.cell d7
                  have r0 := Cl.cell c0
                  have r1 := Cl.cell c1
                  have r2 := Cl.cell c2
                  have r3 := Cl.cell c3
                  have r5 := Cl.cell c5
                  have hne := Aft.here w1
                  clear d0 d1 d2 d3 d4 d5 d6 d7 df c0 c1 c2 c3 c4 c5 c6 c7 c8 c9 cf
                  refine region_all (by kernel_rfl) (by kernel_rfl) ?_
                  repeat (go_big_quiet_step (rfl))
                  refine wpQuiet_nil ?_
                  intro w2 h2
                  have HS2 := hid (HS1.out.trans h2)
                  clear h2 q0 q1 q2 q3 q5 q7 r0 r1 r2 r3 r5 hne
                  go_wp2_with fail
                  obtain ⟨d0, d1, d2, d3, d4, d5, d6, d7, df⟩ := (HP.out.still HS2.out).cells
                  obtain ⟨c0, c1, c2, c3, c4, c5, c6, c7, c8, c9, cf⟩ := (HL.out.still HS2.out).cells
                  have q0 := Cl.cell d0
                  have q1 := Cl.cell d1
                  have q2 := Cl.cell d2
                  have q3 := Cl.cell d3
                  have q5 := Cl.cell d5
                  have q7 := Cl.cell d7
                  have r0 := Cl.cell c0
                  have r1 := Cl.cell c1
                  have r2 := Cl.cell c2
                  have r3 := Cl.cell c3
                  have r5 := Cl.cell c5
                  have hne := Aft.here w2
                  clear d0 d1 d2 d3 d4 d5 d6 d7 df c0 c1 c2 c3 c4 c5 c6 c7 c8 c9 cf
                  refine region_all (by kernel_rfl) (by kernel_rfl) ?_
                  repeat (go_big_quiet_step (rfl))
                  refine wpQuiet_nil ?_
                  intro w3 h3
                  have HS3 := hid (HS2.out.trans h3)
                  clear h3 q0 q1 q2 q3 q5 q7 r0 r1 r2 r3 r5 hne
                  go_wp2_with fail
                  obtain ⟨d0, d1, d2, d3, d4, d5, d6, d7, df⟩ := (HP.out.still HS3.out).cells
                  obtain ⟨c0, c1, c2, c3, c4, c5, c6, c7, c8, c9, cf⟩ := (HL.out.still HS3.out).cells
                  have q0 := Cl.cell d0
                  have q1 := Cl.cell d1
                  have q2 := Cl.cell d2
                  have q3 := Cl.cell d3
                  have q5 := Cl.cell d5
                  have q7 := Cl.cell d7
                  have r0 := Cl.cell c0
                  have r1 := Cl.cell c1
                  have r2 := Cl.cell c2
                  have r3 := Cl.cell c3
                  have r5 := Cl.cell c5
                  have hne := Aft.here w3
                  clear d0 d1 d2 d3 d4 d5 d6 d7 df c0 c1 c2 c3 c4 c5 c6 c7 c8 c9 cf
                  refine region_all (by kernel_rfl) (by kernel_rfl) ?_
                  repeat (go_big_quiet_step (rfl))
                  refine wpQuiet_nil ?_
                  intro w4 h4
                  have HS4 := hid (HS3.out.trans h4)
                  clear h4 q0 q1 q2 q3 q5 q7 r0 r1 r2 r3 r5 hne
                  go_wp2_with fail
                  obtain ⟨d0, d1, d2, d3, d4, d5, d6, d7, df⟩ := (HP.out.still HS4.out).cells
                  obtain ⟨c0, c1, c2, c3, c4, c5, c6, c7, c8, c9, cf⟩ := (HL.out.still HS4.out).cells
                  have q0 := Cl.cell d0
                  have q1 := Cl.cell d1
                  have q2 := Cl.cell d2
                  have q3 := Cl.cell d3
                  have q5 := Cl.cell d5
                  have q7 := Cl.cell d7
                  have r0 := Cl.cell c0
                  have r1 := Cl.cell c1
                  have r2 := Cl.cell c2
                  have r3 := Cl.cell c3
                  have r5 := Cl.cell c5
                  have hne := Aft.here w4
                  clear d0 d1 d2 d3 d4 d5 d6 d7 df c0 c1 c2 c3 c4 c5 c6 c7 c8 c9 cf
                  refine region_all (by kernel_rfl) (by kernel_rfl) ?_
                  repeat (go_big_quiet_step (rfl))
                  refine wpQuiet_nil ?_
                  intro w5 h5
                  have HS5 := hid (HS4.out.trans h5)
                  clear h5 q0 q1 q2 q3 q5 q7 r0 r1 r2 r3 r5 hne
                  obtain ⟨d0, d1, d2, d3, d4, d5, d6, d7, df⟩ := (HP.out.still HS5.out).cells
                  go_wp2_with fail
                  refine (HRu.out _ HS5.out).mono ?_
                  rintro e w6 ⟨he, h6⟩
                  rw [he]
                  have HS6 := hid (HS5.out.trans h6)
                  clear he h6 d0 d1 d2 d3 d4 d5 d6 d7 df
                  go_wp2_with fail
                  go_ret
                  exact ⟨by rw [HE.out]; simp [n1.out, n2.out, n3.out, n4.out, b6, HB2.out], HS.out.trans HS6.out⟩
                | false =>
                  cases m2 with
                  | true =>
                    go_enter Try.func18, Try.ntmps18
                    go_wp2_with fail
                    refine HC.out.mono ?_
                    rintro e w1 ⟨he, h1⟩
                    rw [he]
                    have HS1 := hid h1
                    clear he h1 HC d0 d1 d2 d3 d4 d5 d6 d7 df eW
                    go_wp2_with fail
                    obtain ⟨d0, d1, d2, d3, d4, d5, d6, d7, df⟩ := (HP.out.still HS1.out).cells
                    obtain ⟨c0, c1, c2, c3, c4, c5, c6, c7, c8, c9, cf⟩ := (HL.out.still HS1.out).cells
                    have q0 := Cl.cell d0
                    have q1 := Cl.cell d1
                    have q2 := Cl.cell d2
                    have q3 := Cl.cell d3
                    have q5 := Cl.cell d5
                    have q7 := Cl.cell d7
                    have r0 := Cl.cell c0
                    have r1 := Cl.cell c1
                    have r2 := Cl.cell c2
                    have r3 := Cl.cell c3
                    have r5 := Cl.cell c5
                    have hne := Aft.here w1
                    clear d0 d1 d2 d3 d4 d5 d6 d7 df c0 c1 c2 c3 c4 c5 c6 c7 c8 c9 cf
                    refine region_all (by kernel_rfl) (by kernel_rfl) ?_
                    repeat (go_big_quiet_step (rfl))
                    refine wpQuiet_nil ?_
                    intro w2 h2
                    have HS2 := hid (HS1.out.trans h2)
                    clear h2 q0 q1 q2 q3 q5 q7 r0 r1 r2 r3 r5 hne
                    go_wp2_with fail
                    obtain ⟨d0, d1, d2, d3, d4, d5, d6, d7, df⟩ := (HP.out.still HS2.out).cells
                    obtain ⟨c0, c1, c2, c3, c4, c5, c6, c7, c8, c9, cf⟩ := (HL.out.still HS2.out).cells
                    have q0 := Cl.cell d0
                    have q1 := Cl.cell d1
                    have q2 := Cl.cell d2
                    have q3 := Cl.cell d3
                    have q5 := Cl.cell d5
                    have q7 := Cl.cell d7
                    have r0 := Cl.cell c0
                    have r1 := Cl.cell c1
                    have r2 := Cl.cell c2
                    have r3 := Cl.cell c3
                    have r5 := Cl.cell c5
                    have hne := Aft.here w2
                    clear d0 d1 d2 d3 d4 d5 d6 d7 df c0 c1 c2 c3 c4 c5 c6 c7 c8 c9 cf
                    refine region_all (by kernel_rfl) (by kernel_rfl) ?_
                    repeat (go_big_quiet_step (rfl))
                    refine wpQuiet_nil ?_
                    intro w3 h3
                    have HS3 := hid (HS2.out.trans h3)
                    clear h3 q0 q1 q2 q3 q5 q7 r0 r1 r2 r3 r5 hne
                    go_wp2_with fail
                    obtain ⟨d0, d1, d2, d3, d4, d5, d6, d7, df⟩ := (HP.out.still HS3.out).cells
                    obtain ⟨c0, c1, c2, c3, c4, c5, c6, c7, c8, c9, cf⟩ := (HL.out.still HS3.out).cells
                    have q0 := Cl.cell d0
                    have q1 := Cl.cell d1
                    have q2 := Cl.cell d2
                    have q3 := Cl.cell d3
                    have q5 := Cl.cell d5
                    have q7 := Cl.cell d7
                    have r0 := Cl.cell c0
                    have r1 := Cl.cell c1
                    have r2 := Cl.cell c2
                    have r3 := Cl.cell c3
                    have r5 := Cl.cell c5
                    have hne := Aft.here w3
                    clear d0 d1 d2 d3 d4 d5 d6 d7 df c0 c1 c2 c3 c4 c5 c6 c7 c8 c9 cf
                    refine region_all (by kernel_rfl) (by kernel_rfl) ?_
                    repeat (go_big_quiet_step (rfl))
                    refine wpQuiet_nil ?_
                    intro w4 h4
                    have HS4 := hid (HS3.out.trans h4)
                    clear h4 q0 q1 q2 q3 q5 q7 r0 r1 r2 r3 r5 hne
                    go_wp2_with fail
                    obtain ⟨d0, d1, d2, d3, d4, d5, d6, d7, df⟩ := (HP.out.still HS4.out).cells
                    obtain ⟨c0, c1, c2, c3, c4, c5, c6, c7, c8, c9, cf⟩ := (HL.out.still HS4.out).cells
                    have q0 := Cl.cell d0
                    have q1 := Cl.cell d1
                    have q2 := Cl.cell d2
                    have q3 := Cl.cell d3
                    have q5 := Cl.cell d5
                    have q7 := Cl.cell d7
                    have r0 := Cl.cell c0
                    have r1 := Cl.cell c1
                    have r2 := Cl.cell c2
                    have r3 := Cl.cell c3
                    have r5 := Cl.cell c5
                    have hne := Aft.here w4
                    clear d0 d1 d2 d3 d4 d5 d6 d7 df c0 c1 c2 c3 c4 c5 c6 c7 c8 c9 cf
                    refine region_all (by kernel_rfl) (by kernel_rfl) ?_
                    repeat (go_big_quiet_step (rfl))
                    refine wpQuiet_nil ?_
                    intro w5 h5
                    have HS5 := hid (HS4.out.trans h5)
                    clear h5 q0 q1 q2 q3 q5 q7 r0 r1 r2 r3 r5 hne
                    obtain ⟨d0, d1, d2, d3, d4, d5, d6, d7, df⟩ := (HP.out.still HS5.out).cells
                    go_wp2_with fail
                    refine (HRu.out _ HS5.out).mono ?_
                    rintro e w6 ⟨he, h6⟩
                    rw [he]
                    have HS6 := hid (HS5.out.trans h6)
                    clear he h6 d0 d1 d2 d3 d4 d5 d6 d7 df
                    obtain ⟨d0, d1, d2, d3, d4, d5, d6, d7, df⟩ := (HP.out.still HS6.out).cells
                    go_wp2_with fail
                    refine (HMi.out _ HS6.out).mono ?_
                    rintro e w7 ⟨he, h7⟩
                    rw [he]
                    have HS7 := hid (HS6.out.trans h7)
                    clear he h7 d0 d1 d2 d3 d4 d5 d6 d7 df
                    go_wp2_with fail
                    go_ret
                    exact ⟨by rw [HE.out]; simp [n1.out, n2.out, n3.out, n4.out, b6, HB2.out], HS.out.trans HS7.out⟩
                  | false =>
                    go_enter Try.func18, Try.ntmps18
                    go_wp2_with fail
                    refine HC.out.mono ?_
                    rintro e w1 ⟨he, h1⟩
                    rw [he]
                    have HS1 := hid h1
                    clear he h1 HC d0 d1 d2 d3 d4 d5 d6 d7 df eW
                    go_wp2_with fail
                    obtain ⟨d0, d1, d2, d3, d4, d5, d6, d7, df⟩ := (HP.out.still HS1.out).cells
                    obtain ⟨c0, c1, c2, c3, c4, c5, c6, c7, c8, c9, cf⟩ := (HL.out.still HS1.out).cells
                    have q0 := Cl.cell d0
                    have q1 := Cl.cell d1
                    have q2 := Cl.cell d2
                    have q3 := Cl.cell d3
                    have q5 := Cl.cell d5
                    have q7 := Cl.cell d7
                    have r0 := Cl.cell c0
                    have r1 := Cl.cell c1
                    have r2 := Cl.cell c2
                    have r3 := Cl.cell c3
                    have r5 := Cl.cell c5
                    have hne := Aft.here w1
                    clear d0 d1 d2 d3 d4 d5 d6 d7 df c0 c1 c2 c3 c4 c5 c6 c7 c8 c9 cf
                    refine region_all (by kernel_rfl) (by kernel_rfl) ?_
                    repeat (go_big_quiet_step (rfl))
                    refine wpQuiet_nil ?_
                    intro w2 h2
                    have HS2 := hid (HS1.out.trans h2)
                    clear h2 q0 q1 q2 q3 q5 q7 r0 r1 r2 r3 r5 hne
                    go_wp2_with fail
                    obtain ⟨d0, d1, d2, d3, d4, d5, d6, d7, df⟩ := (HP.out.still HS2.out).cells
                    obtain ⟨c0, c1, c2, c3, c4, c5, c6, c7, c8, c9, cf⟩ := (HL.out.still HS2.out).cells
                    have q0 := Cl.cell d0
                    have q1 := Cl.cell d1
                    have q2 := Cl.cell d2
                    have q3 := Cl.cell d3
                    have q5 := Cl.cell d5
                    have q7 := Cl.cell d7
                    have r0 := Cl.cell c0
                    have r1 := Cl.cell c1
                    have r2 := Cl.cell c2
                    have r3 := Cl.cell c3
                    have r5 := Cl.cell c5
                    have hne := Aft.here w2
                    clear d0 d1 d2 d3 d4 d5 d6 d7 df c0 c1 c2 c3 c4 c5 c6 c7 c8 c9 cf
                    refine region_all (by kernel_rfl) (by kernel_rfl) ?_
                    repeat (go_big_quiet_step (rfl))
                    refine wpQuiet_nil ?_
                    intro w3 h3
                    have HS3 := hid (HS2.out.trans h3)
                    clear h3 q0 q1 q2 q3 q5 q7 r0 r1 r2 r3 r5 hne
                    go_wp2_with fail
                    obtain ⟨d0, d1, d2, d3, d4, d5, d6, d7, df⟩ := (HP.out.still HS3.out).cells
                    obtain ⟨c0, c1, c2, c3, c4, c5, c6, c7, c8, c9, cf⟩ := (HL.out.still HS3.out).cells
                    have q0 := Cl.cell d0
                    have q1 := Cl.cell d1
                    have q2 := Cl.cell d2
                    have q3 := Cl.cell d3
                    have q5 := Cl.cell d5
                    have q7 := Cl.cell d7
                    have r0 := Cl.cell c0
                    have r1 := Cl.cell c1
                    have r2 := Cl.cell c2
                    have r3 := Cl.cell c3
                    have r5 := Cl.cell c5
                    have hne := Aft.here w3
                    clear d0 d1 d2 d3 d4 d5 d6 d7 df c0 c1 c2 c3 c4 c5 c6 c7 c8 c9 cf
                    refine region_all (by kernel_rfl) (by kernel_rfl) ?_
                    repeat (go_big_quiet_step (rfl))
                    refine wpQuiet_nil ?_
                    intro w4 h4
                    have HS4 := hid (HS3.out.trans h4)
                    clear h4 q0 q1 q2 q3 q5 q7 r0 r1 r2 r3 r5 hne
                    go_wp2_with fail
                    obtain ⟨d0, d1, d2, d3, d4, d5, d6, d7, df⟩ := (HP.out.still HS4.out).cells
                    obtain ⟨c0, c1, c2, c3, c4, c5, c6, c7, c8, c9, cf⟩ := (HL.out.still HS4.out).cells
                    have q0 := Cl.cell d0
                    have q1 := Cl.cell d1
                    have q2 := Cl.cell d2
                    have q3 := Cl.cell d3
                    have q5 := Cl.cell d5
                    have q7 := Cl.cell d7
                    have r0 := Cl.cell c0
                    have r1 := Cl.cell c1
                    have r2 := Cl.cell c2
                    have r3 := Cl.cell c3
                    have r5 := Cl.cell c5
                    have hne := Aft.here w4
                    clear d0 d1 d2 d3 d4 d5 d6 d7 df c0 c1 c2 c3 c4 c5 c6 c7 c8 c9 cf
                    refine region_all (by kernel_rfl) (by kernel_rfl) ?_
                    repeat (go_big_quiet_step (rfl))
                    refine wpQuiet_nil ?_
                    intro w5 h5
                    have HS5 := hid (HS4.out.trans h5)
                    clear h5 q0 q1 q2 q3 q5 q7 r0 r1 r2 r3 r5 hne
                    obtain ⟨d0, d1, d2, d3, d4, d5, d6, d7, df⟩ := (HP.out.still HS5.out).cells
                    go_wp2_with fail
                    refine (HRu.out _ HS5.out).mono ?_
                    rintro e w6 ⟨he, h6⟩
                    rw [he]
                    have HS6 := hid (HS5.out.trans h6)
                    clear he h6 d0 d1 d2 d3 d4 d5 d6 d7 df
                    obtain ⟨d0, d1, d2, d3, d4, d5, d6, d7, df⟩ := (HP.out.still HS6.out).cells
                    go_wp2_with fail
                    refine (HMi.out _ HS6.out).mono ?_
                    rintro e w7 ⟨he, h7⟩
                    rw [he]
                    have HS7 := hid (HS6.out.trans h7)
                    clear he h7 d0 d1 d2 d3 d4 d5 d6 d7 df
                    go_wp2_with fail
                    go_ret
                    exact ⟨by rw [HE.out]; simp [n1.out, n2.out, n3.out, n4.out, b6, HB2.out], HS.out.trans HS7.out⟩
end Go.Proofs.Ytcmgghfjakphmaa
