/- Stage 21, the laws GateLeast, GatePlans. -/
import Derived.Test.YtlebmimlmakogaaGth
namespace Go.Proofs.Ytlebmimlmakogaa
open Go.RowKit
set_option maxRecDepth 100000

set_option maxHeartbeats 8000000 in
theorem least21_law (a b : Int) (so : Option Addr) (m c : Nat) (O : List OqG) (w : World) (hr : RdG KQg w so m O) : Calls Try.prog 4 #[.int .i64 a, .int .i64 b, .slice so m c] w fun e w' => e = .returned (.bool true) ∧ Still w w' := by
  have h48 := hr.2.1
  by_cases hm : 2 ≤ a ∧ a ≤ 6 ∧ 0 ≤ b ∧ b < a
  · obtain ⟨n, rfl⟩ : ∃ n : Nat, a = (n : Int) := ⟨a.toNat, by omega⟩
    obtain ⟨s, rfl⟩ : ∃ s : Nat, b = (s : Int) := ⟨b.toNat, by omega⟩
    have HT := hid (told_yes n s (by omega) so m c O w hr)
    have HR := hid hr
    have hn6 : n ≤ 6 := by omega
    obtain ⟨p, ep⟩ : ∃ p, w.heap.size + 1 = p := ⟨_, rfl⟩
    rw [ep] at HT
    clear hr hm ep
    go_enter Try.func4, Try.ntmps4
    go_wp2_with fail
    refine HT.out.mono ?_
    rintro e w1 ⟨he, g, L, hg, hk, hs⟩
    rw [he]
    have HG := hid hg
    have HK := hid hk
    have HS := hid hs
    have HM := hid (gmarks_any hg)
    clear he hg hk hs HT
    go_wp2_with fail
    refine HM.out.mono ?_
    rintro e w2 ⟨g2, c2, he, ho2, hs2⟩
    rw [he]
    have HO := hid ho2
    have HG2 := hid (HG.out.still hs2)
    have HS2 := hid (HS.out.trans hs2)
    have HL := hid (gleast_any HG2.out)
    clear he ho2 hs2 HM HS HG
    go_wp2_with fail
    refine HL.out.mono ?_
    rintro e w3 ⟨he, hs3⟩
    rw [he]
    have HO3 := hid (HO.out.still hs3)
    have HG3 := hid (HG2.out.still hs3)
    have HS3 := hid (HS2.out.trans hs3)
    have HI := hid (isL_lea (s := s) (L := L) (by rw [HG2.out.len]; exact HG2.out.sl) (by rw [HG2.out.len]; exact HG2.out.l2))
    obtain ⟨x, ex⟩ : ∃ x, lea s L = x := ⟨_, rfl⟩
    rw [ex] at HI ⊢
    have cs : w3.cell? ⟨g2, s, none⟩ = some (.int .i64 0) := by
      have := owJ HO3.out (i := s) (by rw [HG3.out.len]; exact HG3.out.sl)
      rw [HG3.out.sz] at this
      exact this
    have hsn : (s : Int) < (n : Int) := by have := HG3.out.sl; omega
    have hs0 : (0 : Int) ≤ (s : Int) := by omega
    have HLn := hid HG3.out.len
    clear he hs3 HL HO HG2 HS2 ex
    go_wp2_with fail
    clear cs
    go_loopw [12, 11] (fun u v wr => ∃ (i : Nat) (d : Bool), i ≤ n ∧ u = .int .i64 (i : Int) ∧ v = .bool d ∧ Hid ((∃ j, j < i ∧ j ≠ s ∧ L.getD j 0 = x) → d = true) ∧ Hid (Still w3 wr)) (fun u _ _ => n - (intOf u).toNat)
    case atStart => exact ⟨0, false, by omega, rfl, rfl, hid (fun ⟨j, h, _⟩ => by omega), hid (Fr.refl _ _)⟩
    case round =>
      obtain ⟨i, d, hi, rfl, rfl, HD, HW⟩ := hrel
      by_cases hin : i < n
      · have hlt : (i : Int) < (n : Int) := by omega
        have hi0 : (0 : Int) ≤ (i : Int) := by omega
        have HMi := hid (HK.out i hin)
        have HLe := hid (fun hne => HI.out.le i (by rw [HLn.out]; exact hin) hne)
        have HX := hid (fun (u : World) (hu : Still w3 u) => owJ (HO3.out.still hu) (i := i) (by rw [HLn.out]; exact hin))
        obtain ⟨z, ez⟩ : ∃ z, L.getD i 0 = z := ⟨_, rfl⟩
        rw [ez] at HMi HLe HX
        have HZ := hid ez
        clear ez
        go_wp2_with fail
        go_loopw [14, 13] (fun u v wr => ∃ (k : Nat), k ≤ m ∧ u = .int .i64 (k : Int) ∧ v = .int .i64 (gr s i O k) ∧ Hid (Still w3 wr)) (fun u _ _ => m - (intOf u).toNat)
        case atStart => exact ⟨0, by omega, rfl, rfl, HW⟩
        case round =>
          obtain ⟨k, hk, rfl, rfl, HW2⟩ := hrel
          by_cases hkm : k < m
          · have hltk : (k : Int) < (m : Int) := by omega
            have hk0 : (0 : Int) ≤ (k : Int) := by omega
            obtain ⟨G, o, rfl⟩ := HR.out.at (by omega)
            have HY := hid (gr_yes (s := s) (i := i) (O := O) (k := k))
            have HNo := hid (gr_no (s := s) (i := i) (O := O) (k := k))
            obtain ⟨y, ey⟩ : ∃ y, O.getD k KQg.d = y := ⟨_, rfl⟩
            obtain ⟨c0, c1, c2, c3, c4, c5⟩ := rdQg (HR.out.still (HS3.out.trans HW2.out)) hkm ey
            obtain ⟨q, eq⟩ : ∃ q, gr s i O k = q := ⟨_, rfl⟩
            rw [ey, eq] at HY HNo
            rw [eq]
            have A := Still.alloc wr (.cells (oqv y) oqT)
            have HOb : OqbG (wr.alloc (.cells (oqv y) oqT)) wr.heap.size y := heap_alloc_new wr _
            obtain ⟨d0, d1, d2, d3, d4, d5⟩ := HOb.cells
            have HW3 := hid (HW2.out.trans A)
            clear HOb A ey eq HW HW2
            by_cases t0 : y.s = (i : Int)
            · by_cases t1 : i ≠ s
              · by_cases t2 : y.f > q
                · by_cases t3 : y.f ≤ 1099511627776
                  · have e0 : (y.s == (i : Int)) = true := beq_iff_eq.2 t0
                    have e1 : ((i : Int) != (s : Int)) = true := by simp; omega
                    have HE := hid (HY.out ⟨t0, t1, t2, t3⟩)
                    clear HY HNo t0 t1
                    go_wp2_with fail
                    go_roundw
                    case rel => exact ⟨k + 1, by omega, by go_num, by rw [HE.out], HW3⟩
                    case measure => simp [intOf]; omega
                  · have e0 : (y.s == (i : Int)) = true := beq_iff_eq.2 t0
                    have e1 : ((i : Int) != (s : Int)) = true := by simp; omega
                    have HE := hid (HNo.out (fun h => t3 h.2.2.2))
                    clear HY HNo t0 t1
                    go_wp2_with fail
                    go_roundw
                    case rel => exact ⟨k + 1, by omega, by go_num, by rw [HE.out], HW3⟩
                    case measure => simp [intOf]; omega
                · have e0 : (y.s == (i : Int)) = true := beq_iff_eq.2 t0
                  have e1 : ((i : Int) != (s : Int)) = true := by simp; omega
                  have HE := hid (HNo.out (fun h => t2 h.2.2.1))
                  clear HY HNo t0 t1
                  go_wp2_with fail
                  go_roundw
                  case rel => exact ⟨k + 1, by omega, by go_num, by rw [HE.out], HW3⟩
                  case measure => simp [intOf]; omega
              · have e0 : (y.s == (i : Int)) = true := beq_iff_eq.2 t0
                have e1 : ((i : Int) != (s : Int)) = false := by simp; omega
                have HE := hid (HNo.out (fun h => t1 h.2.1))
                clear HY HNo t0 t1
                go_wp2_with fail
                go_roundw
                case rel => exact ⟨k + 1, by omega, by go_num, by rw [HE.out], HW3⟩
                case measure => simp [intOf]; omega
            · have e0 : (y.s == (i : Int)) = false := beq_eq_false_iff_ne.2 t0
              have HE := hid (HNo.out (fun h => t0 h.1))
              clear HY HNo t0
              go_wp2_with fail
              go_roundw
              case rel => exact ⟨k + 1, by omega, by go_num, by rw [HE.out], HW3⟩
              case measure => simp [intOf]; omega
          · have hgek : ¬ (k : Int) < (m : Int) := by omega
            obtain rfl : k = m := by omega
            rw [← HMi.out]
            have cz := HX.out _ HW2.out
            have ne0 : (z != z) = false := by simp
            clear HW
            by_cases t1 : i = s
            · have e1 : ((i : Int) != (s : Int)) = false := by simp; omega
              have HD2 : Hid ((∃ j, j < i + 1 ∧ j ≠ s ∧ L.getD j 0 = x) → d = true) := hid (fun ⟨j, h1, h2, h3⟩ => HD.out ⟨j, by rcases Nat.lt_or_ge j i with h | h; exact h; exact absurd (show j = s by omega) h2, h2, h3⟩)
              clear t1 HD HLe
              cases d with
              | false =>
                go_wp2_with fail
                go_roundw
                case rel => exact ⟨i + 1, false, by omega, by go_num, rfl, HD2, HW2⟩
                case measure => simp [intOf]; omega
              | true =>
                go_wp2_with fail
                go_roundw
                case rel => exact ⟨i + 1, true, by omega, by go_num, rfl, HD2, HW2⟩
                case measure => simp [intOf]; omega
            · have e1 : ((i : Int) != (s : Int)) = true := by simp; omega
              have hge : ¬ z < x := by have := HLe.out t1; omega
              cases d with
              | true =>
                have HD2 : Hid ((∃ j, j < i + 1 ∧ j ≠ s ∧ L.getD j 0 = x) → true = true) := hid (fun _ => rfl)
                clear t1 HD HLe
                go_wp2_with fail
                go_roundw
                case rel => exact ⟨i + 1, true, by omega, by go_num, rfl, HD2, HW2⟩
                case measure => simp [intOf]; omega
              | false =>
                by_cases t2 : z = x
                · have e2 : (z == x) = true := beq_iff_eq.2 t2
                  have HD2 : Hid ((∃ j, j < i + 1 ∧ j ≠ s ∧ L.getD j 0 = x) → true = true) := hid (fun _ => rfl)
                  clear t1 HD HLe t2
                  go_wp2_with fail
                  go_roundw
                  case rel => exact ⟨i + 1, true, by omega, by go_num, rfl, HD2, HW2⟩
                  case measure => simp [intOf]; omega
                · have e2 : (z == x) = false := beq_eq_false_iff_ne.2 t2
                  have HD2 : Hid ((∃ j, j < i + 1 ∧ j ≠ s ∧ L.getD j 0 = x) → false = true) := hid (fun ⟨j, h1, h2, h3⟩ => HD.out ⟨j, by rcases Nat.lt_or_ge j i with h | h; exact h; exact absurd (by rw [show j = i by omega, HZ.out] at h3; exact h3) t2, h2, h3⟩)
                  clear t1 HD HLe t2
                  go_wp2_with fail
                  go_roundw
                  case rel => exact ⟨i + 1, false, by omega, by go_num, rfl, HD2, HW2⟩
                  case measure => simp [intOf]; omega
      · have hge : ¬ (i : Int) < (n : Int) := by omega
        obtain rfl : i = n := by omega
        obtain rfl : d = true := HD.out (by obtain ⟨j, h1, h2, h3⟩ := HI.out.ex; exact ⟨j, by rw [← HLn.out]; exact h1, h2, h3⟩)
        have HSf := hid (HS3.out.trans HW.out)
        clear HD
        go_wp2_with fail
        go_ret
        exact ⟨rfl, HSf.out⟩
  · have HT := hid (told_no a b hm so m c h48 w)
    clear hr hm
    go_enter Try.func4, Try.ntmps4
    go_wp2_with fail
    refine HT.out.mono ?_
    rintro e w' ⟨he, hw⟩
    rw [he, hw]
    clear he hw w' HT
    go_wp2_with fail
    go_ret
    exact ⟨rfl, Fr.refl _ _⟩
end Go.Proofs.Ytlebmimlmakogaa
