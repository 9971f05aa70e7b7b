/- The library's heap: down. -/
import Derived.Test.YtgpmjlibanoapaaQug
namespace Go.Proofs.Ytgpmjlibanoapaa
open Go.RowKit
set_option maxRecDepth 100000

set_option maxHeartbeats 4000000 in
theorem hdown_any (L : List En) (B p g N n cap : Nat) (hN : N ≤ 4097) (hl : L.length = N) (hn : n ≤ N) (hu : Dw L 0 n) (w : World) (hq : Qk w B p (.slice (some ⟨g, 0, none⟩) N cap) L) : Calls Try.prog 36 #[.iface 63 (.pointer (some ⟨p, 0, none⟩)), .int .i64 0, .int .i64 (n : Int)] w fun e w' => (∃ b, e = .returned (.bool b)) ∧ ∃ L', L'.Perm L ∧ Hp L' n ∧ (∀ t, n ≤ t → att L' t = att L t) ∧ Qk w' B p (.slice (some ⟨g, 0, none⟩) N cap) L' ∧ Fr (fun k => k = g) w w' := by
  have HQ := hid hq
  have HU := hid hu
  have hpg : p ≠ g := fun e => hq.apart (by rw [e]; rfl)
  clear hq hu
  go_enter Try.func36, Try.ntmps36
  go_wp2_with fail
  go_loopw [7] (fun u wr => ∃ (k : Nat) (M : List En), k ≤ N ∧ u = .int .i64 (k : Int) ∧ Hid (M.Perm L ∧ Dw M k n ∧ (∀ t, n ≤ t → att M t = att L t) ∧ Qk wr B p (.slice (some ⟨g, 0, none⟩) N cap) M ∧ Fr (fun k => k = g) w wr)) (fun u _ => N - (intOf u).toNat)
  case atStart => exact ⟨0, L, by omega, rfl, hid ⟨List.Perm.refl _, HU.out, fun _ _ => rfl, HQ.out, Fr.refl _ _⟩⟩
  case round =>
    obtain ⟨k, M, hk, rfl, HM⟩ := hrel
    have hMl : M.length = N := by rw [HM.out.1.length_eq]; exact hl
    by_cases h1 : 2 * k + 1 < n
    · have hg1 : ¬ (n : Int) ≤ 2 * (k : Int) + 1 := by omega
      have hg2 : ¬ 2 * (k : Int) + 1 < 0 := by omega
      by_cases h2 : 2 * k + 2 < n
      · have hg3 : 2 * (k : Int) + 1 + 1 < (n : Int) := by omega
        have c0 := HM.out.2.2.2.1.cell.1
        have hm := m_less c0
        have HC := hid (qless_any M g 0 N cap (2 * k + 2) (2 * k + 1) (by omega) (by omega) wr (HM.out.2.2.2.1.ow.rdE hMl (by omega)))
        have e2 : ((2 * k + 2 : Nat) : Int) = 2 * (k : Int) + 1 + 1 := by omega
        have e1 : ((2 * k + 1 : Nat) : Int) = 2 * (k : Int) + 1 := by omega
        rw [e2, e1] at HC
        go_wp2_with fail
        refine HC.out.mono ?_
        rintro e w3 ⟨he, h3⟩
        rw [he]
        clear he HC hm c0
        have HS := hid h3
        clear h3
        have HL1 := hid (trivial : True)
        by_cases hl1 : kc (att M (2 * k + 2)) (att M (2 * k + 1)) < 0
        · have hdt : decide (kc (att M (2 * k + 2)) (att M (2 * k + 1)) < 0) = true := decide_eq_true hl1
          rw [hdt]
          have HMIN : Hid (∀ t, t < n → (t = 2 * k + 1 ∨ t = 2 * k + 2) → le (att M (2 * k + 2)) (att M t)) := hid (fun t _ he => by
            rcases he with rfl | rfl
            · exact le_of_lt hl1
            · exact le_refl' _)
          clear hdt hl1
          clear HL1
          have HC := hid (qless_any M g 0 N cap (2 * k + 2) k (by omega) (by omega) w3 (HM.out.2.2.2.1.ow.rdE hMl (by omega) |>.still HS.out))
          have eJ : ((2 * k + 2 : Nat) : Int) = 2 * (k : Int) + 1 + 1 := by omega
          rw [eJ] at HC
          have c0 := (HM.out.2.2.2.1.still HS.out).cell.1
          have hm := m_less c0
          go_wp2_with fail
          refine HC.out.mono ?_
          rintro e w4 ⟨he, h4⟩
          rw [he]
          clear he HC hm c0
          have HS4 := hid (HS.out.trans h4)
          clear h4
          by_cases hlt : kc (att M (2 * k + 2)) (att M k) < 0
          · have hdt : decide (kc (att M (2 * k + 2)) (att M k) < 0) = true := decide_eq_true hlt
            rw [hdt]
            have hq2 := HM.out.2.2.2.1.still HS4.out
            have c0 := hq2.cell.1
            have hm := m_swap c0
            have HC := hid (qswap_any M B g N cap k (2 * k + 2) (by omega) (by omega) w4 hq2.ow hMl)
            rw [eJ] at HC
            have HU2 := hid (show Dw (sw M k (2 * k + 2)) (2 * k + 2) n from HM.out.2.1.step (by omega) (by omega) (by omega) HMIN.out hlt)
            have HP2 := hid ((perm_sw M k (2 * k + 2) (by omega) (by omega)).trans HM.out.1)
            have HA2 : Hid (∀ t, n ≤ t → att (sw M k (2 * k + 2)) t = att L t) := hid (fun t ht => by rw [att_sw M k (2 * k + 2) t (by omega) (by omega), if_neg (by omega), if_neg (by omega)]; exact HM.out.2.2.1 t ht)
            have HQ2 := hid hq2
            have HF2 := hid (Fr.trans HM.out.2.2.2.2 HS4.out (fun _ _ e => e.elim))
            clear hq2 hdt hlt HS HS4 HMIN
            go_wp2_with fail
            refine HC.out.mono ?_
            rintro e w5 ⟨he, ho3, hf3⟩
            rw [he]
            have HM3 : Hid ((sw M k (2 * k + 2)).Perm L ∧ Dw (sw M k (2 * k + 2)) (2 * k + 2) n ∧ (∀ t, n ≤ t → att (sw M k (2 * k + 2)) t = att L t) ∧ Qk w5 B p (.slice (some ⟨g, 0, none⟩) N cap) (sw M k (2 * k + 2)) ∧ Fr (fun k => k = g) w w5) := hid ⟨HP2.out, HU2.out, HA2.out, ⟨hf3.kept HQ2.out.bk hpg, ho3, HQ2.out.lo⟩, Fr.trans HF2.out hf3 (fun _ _ e => e)⟩
            clear he HC hm c0 ho3 hf3 HQ2 HP2 HU2 HF2 HM HA2
            go_wp2_with fail
            go_roundw
            case rel => exact ⟨2 * k + 2, _, by omega, by rw [eJ], HM3⟩
            case measure => simp [intOf]; omega
          · have hdt : decide (kc (att M (2 * k + 2)) (att M k) < 0) = false := decide_eq_false hlt
            rw [hdt]
            have HD := hid (HM.out.2.1.done (fun t ht he => le_tr hlt (HMIN.out t ht he)))
            have HQ2 := hid (HM.out.2.2.2.1.still HS4.out)
            have HF2 := hid (Fr.trans HM.out.2.2.2.2 HS4.out (fun _ _ e => e.elim))
            clear hdt hlt HS HS4 HMIN
            go_wp2_with fail
            (try simp only [Exit.inBlock, Exit.then])
            go_ret
            exact ⟨⟨_, rfl⟩, M, HM.out.1, HD.out, HM.out.2.2.1, HQ2.out, HF2.out⟩
        · have hdt : decide (kc (att M (2 * k + 2)) (att M (2 * k + 1)) < 0) = false := decide_eq_false hl1
          rw [hdt]
          have HMIN : Hid (∀ t, t < n → (t = 2 * k + 1 ∨ t = 2 * k + 2) → le (att M (2 * k + 1)) (att M t)) := hid (fun t _ he => by
            rcases he with rfl | rfl
            · exact le_refl' _
            · exact hl1)
          clear hdt hl1
          clear HL1
          have HC := hid (qless_any M g 0 N cap (2 * k + 1) k (by omega) (by omega) w3 (HM.out.2.2.2.1.ow.rdE hMl (by omega) |>.still HS.out))
          have eJ : ((2 * k + 1 : Nat) : Int) = 2 * (k : Int) + 1 := by omega
          rw [eJ] at HC
          have c0 := (HM.out.2.2.2.1.still HS.out).cell.1
          have hm := m_less c0
          go_wp2_with fail
          refine HC.out.mono ?_
          rintro e w4 ⟨he, h4⟩
          rw [he]
          clear he HC hm c0
          have HS4 := hid (HS.out.trans h4)
          clear h4
          by_cases hlt : kc (att M (2 * k + 1)) (att M k) < 0
          · have hdt : decide (kc (att M (2 * k + 1)) (att M k) < 0) = true := decide_eq_true hlt
            rw [hdt]
            have hq2 := HM.out.2.2.2.1.still HS4.out
            have c0 := hq2.cell.1
            have hm := m_swap c0
            have HC := hid (qswap_any M B g N cap k (2 * k + 1) (by omega) (by omega) w4 hq2.ow hMl)
            rw [eJ] at HC
            have HU2 := hid (show Dw (sw M k (2 * k + 1)) (2 * k + 1) n from HM.out.2.1.step (by omega) (by omega) (by omega) HMIN.out hlt)
            have HP2 := hid ((perm_sw M k (2 * k + 1) (by omega) (by omega)).trans HM.out.1)
            have HA2 : Hid (∀ t, n ≤ t → att (sw M k (2 * k + 1)) t = att L t) := hid (fun t ht => by rw [att_sw M k (2 * k + 1) t (by omega) (by omega), if_neg (by omega), if_neg (by omega)]; exact HM.out.2.2.1 t ht)
            have HQ2 := hid hq2
            have HF2 := hid (Fr.trans HM.out.2.2.2.2 HS4.out (fun _ _ e => e.elim))
            clear hq2 hdt hlt HS HS4 HMIN
            go_wp2_with fail
            refine HC.out.mono ?_
            rintro e w5 ⟨he, ho3, hf3⟩
            rw [he]
            have HM3 : Hid ((sw M k (2 * k + 1)).Perm L ∧ Dw (sw M k (2 * k + 1)) (2 * k + 1) n ∧ (∀ t, n ≤ t → att (sw M k (2 * k + 1)) t = att L t) ∧ Qk w5 B p (.slice (some ⟨g, 0, none⟩) N cap) (sw M k (2 * k + 1)) ∧ Fr (fun k => k = g) w w5) := hid ⟨HP2.out, HU2.out, HA2.out, ⟨hf3.kept HQ2.out.bk hpg, ho3, HQ2.out.lo⟩, Fr.trans HF2.out hf3 (fun _ _ e => e)⟩
            clear he HC hm c0 ho3 hf3 HQ2 HP2 HU2 HF2 HM HA2
            go_wp2_with fail
            go_roundw
            case rel => exact ⟨2 * k + 1, _, by omega, by rw [eJ], HM3⟩
            case measure => simp [intOf]; omega
          · have hdt : decide (kc (att M (2 * k + 1)) (att M k) < 0) = false := decide_eq_false hlt
            rw [hdt]
            have HD := hid (HM.out.2.1.done (fun t ht he => le_tr hlt (HMIN.out t ht he)))
            have HQ2 := hid (HM.out.2.2.2.1.still HS4.out)
            have HF2 := hid (Fr.trans HM.out.2.2.2.2 HS4.out (fun _ _ e => e.elim))
            clear hdt hlt HS HS4 HMIN
            go_wp2_with fail
            (try simp only [Exit.inBlock, Exit.then])
            go_ret
            exact ⟨⟨_, rfl⟩, M, HM.out.1, HD.out, HM.out.2.2.1, HQ2.out, HF2.out⟩
      · have hg3 : ¬ 2 * (k : Int) + 1 + 1 < (n : Int) := by omega
        have HMIN : Hid (∀ t, t < n → (t = 2 * k + 1 ∨ t = 2 * k + 2) → le (att M (2 * k + 1)) (att M t)) := hid (fun t ht he => by
          rcases he with rfl | rfl
          · exact le_refl' _
          · omega)
        have HS : Hid (Still wr wr) := hid (Fr.refl _ wr)
        have HL1 := hid (trivial : True)
        clear HL1
        have HC := hid (qless_any M g 0 N cap (2 * k + 1) k (by omega) (by omega) wr (HM.out.2.2.2.1.ow.rdE hMl (by omega) |>.still HS.out))
        have eJ : ((2 * k + 1 : Nat) : Int) = 2 * (k : Int) + 1 := by omega
        rw [eJ] at HC
        have c0 := (HM.out.2.2.2.1.still HS.out).cell.1
        have hm := m_less c0
        go_wp2_with fail
        refine HC.out.mono ?_
        rintro e w4 ⟨he, h4⟩
        rw [he]
        clear he HC hm c0
        have HS4 := hid (HS.out.trans h4)
        clear h4
        by_cases hlt : kc (att M (2 * k + 1)) (att M k) < 0
        · have hdt : decide (kc (att M (2 * k + 1)) (att M k) < 0) = true := decide_eq_true hlt
          rw [hdt]
          have hq2 := HM.out.2.2.2.1.still HS4.out
          have c0 := hq2.cell.1
          have hm := m_swap c0
          have HC := hid (qswap_any M B g N cap k (2 * k + 1) (by omega) (by omega) w4 hq2.ow hMl)
          rw [eJ] at HC
          have HU2 := hid (show Dw (sw M k (2 * k + 1)) (2 * k + 1) n from HM.out.2.1.step (by omega) (by omega) (by omega) HMIN.out hlt)
          have HP2 := hid ((perm_sw M k (2 * k + 1) (by omega) (by omega)).trans HM.out.1)
          have HA2 : Hid (∀ t, n ≤ t → att (sw M k (2 * k + 1)) t = att L t) := hid (fun t ht => by rw [att_sw M k (2 * k + 1) t (by omega) (by omega), if_neg (by omega), if_neg (by omega)]; exact HM.out.2.2.1 t ht)
          have HQ2 := hid hq2
          have HF2 := hid (Fr.trans HM.out.2.2.2.2 HS4.out (fun _ _ e => e.elim))
          clear hq2 hdt hlt HS HS4 HMIN
          go_wp2_with fail
          refine HC.out.mono ?_
          rintro e w5 ⟨he, ho3, hf3⟩
          rw [he]
          have HM3 : Hid ((sw M k (2 * k + 1)).Perm L ∧ Dw (sw M k (2 * k + 1)) (2 * k + 1) n ∧ (∀ t, n ≤ t → att (sw M k (2 * k + 1)) t = att L t) ∧ Qk w5 B p (.slice (some ⟨g, 0, none⟩) N cap) (sw M k (2 * k + 1)) ∧ Fr (fun k => k = g) w w5) := hid ⟨HP2.out, HU2.out, HA2.out, ⟨hf3.kept HQ2.out.bk hpg, ho3, HQ2.out.lo⟩, Fr.trans HF2.out hf3 (fun _ _ e => e)⟩
          clear he HC hm c0 ho3 hf3 HQ2 HP2 HU2 HF2 HM HA2
          go_wp2_with fail
          go_roundw
          case rel => exact ⟨2 * k + 1, _, by omega, by rw [eJ], HM3⟩
          case measure => simp [intOf]; omega
        · have hdt : decide (kc (att M (2 * k + 1)) (att M k) < 0) = false := decide_eq_false hlt
          rw [hdt]
          have HD := hid (HM.out.2.1.done (fun t ht he => le_tr hlt (HMIN.out t ht he)))
          have HQ2 := hid (HM.out.2.2.2.1.still HS4.out)
          have HF2 := hid (Fr.trans HM.out.2.2.2.2 HS4.out (fun _ _ e => e.elim))
          clear hdt hlt HS HS4 HMIN
          go_wp2_with fail
          (try simp only [Exit.inBlock, Exit.then])
          go_ret
          exact ⟨⟨_, rfl⟩, M, HM.out.1, HD.out, HM.out.2.2.1, HQ2.out, HF2.out⟩
    · have hg1 : (n : Int) ≤ 2 * (k : Int) + 1 := by omega
      have HD := hid (HM.out.2.1.done (fun t ht he => by omega))
      go_wp2_with fail
      (try simp only [Exit.inBlock, Exit.then])
      go_ret
      exact ⟨⟨_, rfl⟩, M, HM.out.1, HD.out, HM.out.2.2⟩
end Go.Proofs.Ytgpmjlibanoapaa
