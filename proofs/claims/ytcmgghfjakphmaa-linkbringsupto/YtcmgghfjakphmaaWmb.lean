/- The program's Check of a datagram. -/
import Derived.Test.YtcmgghfjakphmaaWma
namespace Go.Proofs.Ytcmgghfjakphmaa
open Go.RowKit
open Wp Vp
set_option maxRecDepth 100000
set_option linter.unusedVariables false

theorem trn_four (d : Dg) : trnB d = (wiB d.mrk 0 1099511627776 && (wiB d.fi 1 1099511627776 && (decide (d.cs.length ≤ 336) && allC d.fr d.fi d.cs))) := by
  unfold trnB
  rw [wiB_and, wiB_and, Bool.eq_iff_iff]
  simp only [Bool.and_eq_true, decide_eq_true_eq]
  constructor
  · rintro ⟨h1, h2, h3, h4, h5, h6⟩
    exact ⟨⟨h1, h2⟩, ⟨h3, h4⟩, h5, h6⟩
  · rintro ⟨⟨h1, h2⟩, ⟨h3, h4⟩, h5, h6⟩
    exact ⟨h1, h2, h3, h4, h5, h6⟩
theorem all_no {f fi : Int} {L : List Cc} {i : Nat} (hi : i < L.length) (h : okC f fi i (cc L i) = false) : allC f fi L = false := by
  cases hb : allC f fi L with
  | false => rfl
  | true => rw [allC_iff.1 hb i hi] at h; cases h
set_option maxHeartbeats 2000000 in
theorem turn16_any (d : Dg) (co : Option Addr) (cn cp : Nat) (w : World) (hr : RdG KCc w co cn d.cs) : Calls Try.prog 43 #[dgv d co cn cp] w fun e w' => e = .returned (.bool (trnB d)) ∧ Still w w' := by
  have A0 := Still.alloc w (.cells (dgc d co cn cp) 51)
  have p := newDg_b w d co cn cp
  have hr0 := hr.still A0
  obtain ⟨W, eW⟩ : ∃ W, w.alloc (.cells (dgc d co cn cp) 51) = W := ⟨_, rfl⟩
  obtain ⟨g, eg⟩ : ∃ g, w.heap.size = g := ⟨_, rfl⟩
  unfold newDg at p
  rw [eW] at A0 p hr0
  rw [eg] at p
  have HS := hid A0
  have HP := hid p
  have HR := hid hr0
  have hln := hr.1
  have HE := hid (trn_four d)
  have H0 := hid (fun w => wi6_any d.mrk 0 1099511627776 w)
  have H1 := hid (fun w => wiI_any d.fi 1 1099511627776 w)
  obtain ⟨_, _, c2, _, c4, c5, c6, _, cf⟩ := p.cells
  clear p hr hr0 A0 cf
  have HF : Hid (wiB d.fi 1 1099511627776 = true → 1 ≤ d.fi ∧ d.fi ≤ 1099511627776) := hid (fun h => by unfold wiB at h; simpa using h)
  obtain ⟨M, eM⟩ : ∃ b, trnB d = b := ⟨_, rfl⟩
  obtain ⟨b0, e0⟩ : ∃ b, wiB d.mrk 0 1099511627776 = b := ⟨_, rfl⟩
  obtain ⟨b1, e1⟩ : ∃ b, wiB d.fi 1 1099511627776 = b := ⟨_, rfl⟩
  rw [eM, e0, e1] at HE
  rw [eM]
  rw [e0] at H0
  rw [e1] at H1 HF
  clear eM e0 e1
  cases b0 with
  | false =>
    go_enter Try.func43, Try.ntmps43
    go_wp2_with fail
    refine (H0.out _).mono ?_
    rintro e w1 ⟨rfl, rfl⟩
    go_wp2_with fail
    go_ret
    exact ⟨by rw [HE.out]; rfl, HS.out⟩
  | true =>
    cases b1 with
    | false =>
      go_enter Try.func43, Try.ntmps43
      go_wp2_with fail
      refine (H0.out _).mono ?_
      rintro e w1 ⟨rfl, rfl⟩
      go_wp2_with fail
      refine (H1.out _).mono ?_
      rintro e w2 ⟨rfl, rfl⟩
      go_wp2_with fail
      go_ret
      exact ⟨by rw [HE.out]; rfl, HS.out⟩
    | true =>
      by_cases h3 : 336 < cn
      · have h3' : (336 : Int) < (cn : Int) := by omega
        have HD := hid (show decide (d.cs.length ≤ 336) = false by simp; omega)
        clear hln
        go_enter Try.func43, Try.ntmps43
        go_wp2_with fail
        refine (H0.out _).mono ?_
        rintro e w1 ⟨rfl, rfl⟩
        go_wp2_with fail
        refine (H1.out _).mono ?_
        rintro e w2 ⟨rfl, rfl⟩
        go_wp2_with fail
        go_ret
        exact ⟨by rw [HE.out, HD.out]; rfl, HS.out⟩
      · have h3' : ¬ (336 : Int) < (cn : Int) := by omega
        have HD := hid (show decide (d.cs.length ≤ 336) = true by simp; omega)
        have HN := hid hln
        obtain ⟨hf1, hf2⟩ := HF.out rfl
        clear hln HF
        go_enter Try.func43, Try.ntmps43
        go_wp2_with fail
        refine (H0.out _).mono ?_
        rintro e w1 ⟨rfl, rfl⟩
        go_wp2_with fail
        refine (H1.out _).mono ?_
        rintro e w2 ⟨rfl, rfl⟩
        clear H0 H1
        go_wp2_with fail
        go_loopw [24] (fun u24 wr => ∃ i : Nat, i ≤ cn ∧ u24 = .int .i64 (i : Int) ∧ Hid (∀ j, j < i → okC d.fr d.fi j (cc d.cs j) = true) ∧ Hid (Still w2 wr)) (fun u24 _ => cn - (intOf u24).toNat)
        case atStart => exact ⟨0, by omega, rfl, hid (fun j hj => by omega), hid (Fr.refl _ _)⟩
        case round =>
          obtain ⟨i, hi, rfl, HA, HL⟩ := hrel
          clear c2 c4 c5 c6
          by_cases hin : i < cn
          · have hlt : (i : Int) < (cn : Int) := by omega
            obtain ⟨B, o, eco⟩ := HR.out.at (by omega)
            subst eco
            obtain ⟨k0, k1, k2, k3, k4, k5, k6⟩ := rdCc (HR.out.still HL.out) hin
            have HX := hid (okC_three d.fr d.fi i (cc d.cs i))
            obtain ⟨⟨fr, pe, sq, v, a, b, c⟩, ex⟩ : ∃ x, cc d.cs i = x := ⟨_, rfl⟩
            rw [ex] at HX k0 k1 k2 k3 k4 k5 k6
            have HOK : Hid (okC d.fr d.fi i ⟨fr, pe, sq, v, a, b, c⟩ = true → ∀ j, j < i + 1 → okC d.fr d.fi j (cc d.cs j) = true) := hid (fun h j hj => by
              by_cases e : j = i
              · rw [e, ex]; exact h
              · exact HA.out j (by omega))
            have HNO : Hid (okC d.fr d.fi i ⟨fr, pe, sq, v, a, b, c⟩ = false → allC d.fr d.fi d.cs = false) := hid (fun h => all_no (by rw [HN.out]; exact hin) (by rw [ex]; exact h))
            have HC := hid (fun w => cmay16_any ⟨fr, pe, sq, v, a, b, c⟩ w)
            have HB := hid (newCc_b wr ⟨fr, pe, sq, v, a, b, c⟩)
            have HLa := hid (HL.out.trans (Still.alloc wr (.cells (kmc ⟨fr, pe, sq, v, a, b, c⟩) 47)))
            obtain ⟨r2, er2⟩ : ∃ r, cmOk ⟨fr, pe, sq, v, a, b, c⟩ = r := ⟨_, rfl⟩
            rw [er2] at HX HC
            obtain ⟨_, _, c2, _, _, c5, _, _, _⟩ := (HP.out.still HLa.out).cells
            clear er2 ex
            have hwr : IntKind.i64.wrap (d.fi + (i : Int)) = d.fi + (i : Int) := wr64 (by omega) (by omega)
            by_cases q0 : pe = d.fr
            · subst q0
              by_cases q1 : sq = d.fi + (i : Int)
              · subst q1
                cases r2 with
                | true =>
                  go_wp2_with fail
                  refine (HC.out _).mono ?_
                  rintro e w3 ⟨rfl, h3⟩
                  have HL3 := hid (HLa.out.trans h3)
                  clear h3
                  go_wp2_with fail
                  go_roundw
                  case rel => exact ⟨i + 1, by omega, by go_num, hid (HOK.out (by rw [HX.out]; simp)), HL3⟩
                  case measure => simp [intOf]; omega
                | false =>
                  go_wp2_with fail
                  refine (HC.out _).mono ?_
                  rintro e w3 ⟨rfl, h3⟩
                  have HL3 := hid (HLa.out.trans h3)
                  clear h3
                  go_wp2_with fail
                  go_ret
                  exact ⟨by rw [HE.out, HD.out, HNO.out (by rw [HX.out]; simp)]; rfl, HS.out.trans HL3.out⟩
              · have q1 : (sq == d.fi + (i : Int)) = false := by simpa using q1
                have HX2 : Hid (okC d.fr d.fi i ⟨fr, d.fr, sq, v, a, b, c⟩ = false) := hid (by rw [HX.out]; simp only [q1]; simp)
                go_wp2_with fail
                go_ret
                exact ⟨by rw [HE.out, HD.out, HNO.out HX2.out]; rfl, HS.out.trans HLa.out⟩
            · have q0 : (pe == d.fr) = false := by simpa using q0
              have HX2 : Hid (okC d.fr d.fi i ⟨fr, pe, sq, v, a, b, c⟩ = false) := hid (by rw [HX.out]; simp only [q0]; simp)
              go_wp2_with fail
              go_ret
              exact ⟨by rw [HE.out, HD.out, HNO.out HX2.out]; rfl, HS.out.trans HLa.out⟩
          · have hnl : ¬ (i : Int) < (cn : Int) := by omega
            have HT : Hid (allC d.fr d.fi d.cs = true) := hid (allC_iff.2 (fun j hj => HA.out j (by rw [HN.out] at hj; omega)))
            go_wp2_with fail
            go_ret
            exact ⟨by rw [HE.out, HD.out, HT.out]; rfl, HS.out.trans HL.out⟩
set_option maxHeartbeats 2000000 in
theorem parts16_any (d : Dg) (co : Option Addr) (cn cp : Nat) (w : World) (hr : RdG KCc w co cn d.cs) : Calls Try.prog 37 #[dgv d co cn cp] w fun e w' => e = .returned (.bool (Wp.prtB d)) ∧ Still w w' := by
  have A0 := Still.alloc w (.cells (dgc d co cn cp) 51)
  have p := newDg_b w d co cn cp
  have hr0 := hr.still A0
  obtain ⟨c0, c1, c2, c3, c4, c5, c6, c7, cf⟩ := p.cells
  have HS := hid A0
  have HC := hid (turn16_any d co cn cp _ hr0)
  have HN := hid hr.1
  have HP : Hid (Wp.prtB d = if d.kd = 1 then trnB d else if d.kd = 2 then nonB d else false) := hid rfl
  have HU : Hid (nonB d = ((d.mrk == 0) && ((d.fi == 0) && ((cn : Int) == 0)))) := hid (by
    unfold nonB
    rw [hr.1, Bool.eq_iff_iff]
    simp)
  clear p hr hr0 A0 cf
  by_cases k1 : d.kd = 1
  · have k1' : (d.kd == 1) = true := by simpa using k1
    rw [if_pos k1] at HP
    rw [HP.out]
    obtain ⟨b, eb⟩ : ∃ b, trnB d = b := ⟨_, rfl⟩
    rw [eb] at HC ⊢
    clear eb HP HU k1
    go_enter Try.func37, Try.ntmps37
    go_wp2_with fail
    refine HC.out.mono ?_
    rintro e w1 ⟨rfl, h1⟩
    have HS1 := hid (HS.out.trans h1)
    clear h1
    go_wp2_with fail
    go_ret
    exact ⟨rfl, HS1.out⟩
  · have k1' : (d.kd == 1) = false := by simpa using k1
    rw [if_neg k1] at HP
    by_cases k2 : d.kd = 2
    · have k2' : (d.kd == 2) = true := by simpa using k2
      rw [if_pos k2] at HP
      rw [HP.out, HU.out]
      clear HP HU k1 k2 HC
      by_cases q0 : (d.mrk == 0) = true
      · by_cases q1 : (d.fi == 0) = true
        · go_enter Try.func37, Try.ntmps37
          go_wp2_with fail
          go_ret
          exact ⟨by rw [q0, q1]; rfl, HS.out⟩
        · have q1 : (d.fi == 0) = false := by simpa using q1
          go_enter Try.func37, Try.ntmps37
          go_wp2_with fail
          go_ret
          exact ⟨by rw [q0, q1]; rfl, HS.out⟩
      · have q0 : (d.mrk == 0) = false := by simpa using q0
        go_enter Try.func37, Try.ntmps37
        go_wp2_with fail
        go_ret
        exact ⟨by rw [q0]; rfl, HS.out⟩
    · have k2' : (d.kd == 2) = false := by simpa using k2
      rw [if_neg k2] at HP
      rw [HP.out]
      clear HP HU k1 k2 HC
      go_enter Try.func37, Try.ntmps37
      go_wp2_with fail
      go_ret
      exact ⟨rfl, HS.out⟩
set_option maxHeartbeats 2000000 in
theorem wchk16_any (d : Dg) (co : Option Addr) (cn cp : Nat) (w : World) (hr : RdG KCc w co cn d.cs) : Calls Try.prog 27 #[dgv d co cn cp] w fun e w' => e = .returned (.int .i64 (chkD d)) ∧ Still w w' := by
  have A0 := Still.alloc w (.cells (dgc d co cn cp) 51)
  have p := newDg_b w d co cn cp
  have hr0 := hr.still A0
  obtain ⟨W, eW⟩ : ∃ W, w.alloc (.cells (dgc d co cn cp) 51) = W := ⟨_, rfl⟩
  obtain ⟨g, eg⟩ : ∃ g, w.heap.size = g := ⟨_, rfl⟩
  unfold newDg at p
  rw [eW] at A0 p hr0
  rw [eg] at p
  have HR := hid hr0
  have HS := hid A0
  have HPb := hid p
  obtain ⟨c0, c1, c2, c3, c4, c5, c6, c7, cf⟩ := p.cells
  have H0 := hid (fun w => seat16_any d co cn cp w)
  have H1 : Hid (∀ u, Still W u → Calls Try.prog 37 #[dgv d co cn cp] u fun e w' => e = .returned (.bool (Wp.prtB d)) ∧ Still u w') := hid (fun u hu => parts16_any d co cn cp u (HR.out.still hu))
  have H2 := hid (fun w => wiI_any d.ak 0 1099511627776 w)
  have HE : Hid (chkD d = if (seatB d && (Wp.prtB d && wiB d.ak 0 1099511627776)) = true then 0 else 162) := hid (by
    unfold chkD okD ackB
    rw [wiB_and])
  clear p hr hr0 A0 cf
  obtain ⟨M, eM⟩ : ∃ b, chkD d = b := ⟨_, rfl⟩
  obtain ⟨b0, e0⟩ : ∃ b, seatB d = b := ⟨_, rfl⟩
  obtain ⟨b1, e1⟩ : ∃ b, Wp.prtB d = b := ⟨_, rfl⟩
  obtain ⟨b2, e2⟩ : ∃ b, wiB d.ak 0 1099511627776 = b := ⟨_, rfl⟩
  rw [eM, e0, e1, e2] at HE
  rw [eM]
  rw [e0] at H0
  rw [e1] at H1
  rw [e2] at H2
  clear eM e0 e1 e2
  cases b0 with
  | false =>
    go_enter Try.func27, Try.ntmps27
    go_wp2_with fail
    refine (H0.out _).mono ?_
    rintro e w1 ⟨rfl, h1⟩
    have HS1 := hid h1
    clear h1 c0 c1 c2 c3 c4 c5 c6 c7
    go_wp2_with fail
    go_ret
    exact ⟨by rw [HE.out]; rfl, HS.out.trans HS1.out⟩
  | true =>
    cases b1 with
    | false =>
      go_enter Try.func27, Try.ntmps27
      go_wp2_with fail
      refine (H0.out _).mono ?_
      rintro e w1 ⟨rfl, h1⟩
      have HS1 := hid h1
      clear h1 c0 c1 c2 c3 c4 c5 c6 c7
      obtain ⟨c0, c1, c2, c3, c4, c5, c6, c7, _⟩ := (HPb.out.still HS1.out).cells
      go_wp2_with fail
      refine (H1.out _ HS1.out).mono ?_
      rintro e w2 ⟨rfl, h2⟩
      have HS2 := hid (HS1.out.trans h2)
      clear h2 c0 c1 c2 c3 c4 c5 c6 c7
      go_wp2_with fail
      go_ret
      exact ⟨by rw [HE.out]; rfl, HS.out.trans HS2.out⟩
    | true =>
      cases b2 with
      | false =>
        go_enter Try.func27, Try.ntmps27
        go_wp2_with fail
        refine (H0.out _).mono ?_
        rintro e w1 ⟨rfl, h1⟩
        have HS1 := hid h1
        clear h1 c0 c1 c2 c3 c4 c5 c6 c7
        obtain ⟨c0, c1, c2, c3, c4, c5, c6, c7, _⟩ := (HPb.out.still HS1.out).cells
        go_wp2_with fail
        refine (H1.out _ HS1.out).mono ?_
        rintro e w2 ⟨rfl, h2⟩
        have HS2 := hid (HS1.out.trans h2)
        clear h2 c0 c1 c2 c3 c4 c5 c6 c7
        obtain ⟨c0, c1, c2, c3, c4, c5, c6, c7, _⟩ := (HPb.out.still HS2.out).cells
        go_wp2_with fail
        refine (H2.out _).mono ?_
        rintro e w3 ⟨rfl, rfl⟩
        go_wp2_with fail
        go_ret
        exact ⟨by rw [HE.out]; rfl, HS.out.trans HS2.out⟩
      | true =>
        go_enter Try.func27, Try.ntmps27
        go_wp2_with fail
        refine (H0.out _).mono ?_
        rintro e w1 ⟨rfl, h1⟩
        have HS1 := hid h1
        clear h1 c0 c1 c2 c3 c4 c5 c6 c7
        obtain ⟨c0, c1, c2, c3, c4, c5, c6, c7, _⟩ := (HPb.out.still HS1.out).cells
        go_wp2_with fail
        refine (H1.out _ HS1.out).mono ?_
        rintro e w2 ⟨rfl, h2⟩
        have HS2 := hid (HS1.out.trans h2)
        clear h2 c0 c1 c2 c3 c4 c5 c6 c7
        obtain ⟨c0, c1, c2, c3, c4, c5, c6, c7, _⟩ := (HPb.out.still HS2.out).cells
        go_wp2_with fail
        refine (H2.out _).mono ?_
        rintro e w3 ⟨rfl, rfl⟩
        go_wp2_with fail
        go_ret
        exact ⟨by rw [HE.out]; rfl, HS.out.trans HS2.out⟩
end Go.Proofs.Ytcmgghfjakphmaa
