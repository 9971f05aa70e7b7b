/- The program's plays, body, mayBe, together, flyTogether, and the two questions that it asks of a place. -/
import Derived.Test.YtpohikhiekmfgaaJc
import Derived.Test.YtpohikhiekmfgaaK5c
import Derived.Test.YtpohikhiekmfgaaK8
import Derived.Test.YtpohikhiekmfgaaYw
namespace Go.Proofs.Ytpohikhiekmfgaa
open Go.RowKit
open Pu Gp Ap Vp Np Za Ka Ja
set_option maxRecDepth 100000

theorem hplays_any (m : Mv) (w : World) : Calls Try.prog 32 #[mv m] w fun e w' => e = .returned (.bool (m.ou == 0)) ∧ Still w w' := by
  have HS := hid (Still.alloc w (.cells (mcs m) 35))
  obtain ⟨c0, c1, c2, c3, c4, c5, c6, c7, c8, c9, c10, c11, c12, cf⟩ := (newM_mb w m).cells
  go_enter Try.func32, Try.ntmps32
  go_wp2_with fail
  go_ret
  exact ⟨rfl, HS.out⟩
theorem hmay_any (m : Mv) (w : World) : Calls Try.prog 31 #[mv m] w fun e w' => e = .returned (.bool (mayB m)) ∧ Still w w' := by
  have HS := hid (Still.alloc w (.cells (mcs m) 35))
  have HC := hid (fun w => check8_any m w)
  unfold chkM at HC
  obtain ⟨c0, c1, c2, c3, c4, c5, c6, c7, c8, c9, c10, c11, c12, cf⟩ := (newM_mb w m).cells
  cases hb : mayB m with
  | true =>
    rw [hb] at HC
    clear hb
    go_enter Try.func31, Try.ntmps31
    go_wp2_with fail
    refine (HC.out _).mono ?_
    rintro e w1 ⟨rfl, h1⟩
    have HS1 := hid (HS.out.trans h1)
    clear h1 HS HC c0 c1 c2 c3 c4 c5 c6 c7 c8 c9 c10 c11 c12 cf
    go_wp2_with fail
    go_ret
    exact ⟨rfl, HS1.out⟩
  | false =>
    rw [hb] at HC
    clear hb
    go_enter Try.func31, Try.ntmps31
    go_wp2_with fail
    refine (HC.out _).mono ?_
    rintro e w1 ⟨rfl, h1⟩
    have HS1 := hid (HS.out.trans h1)
    clear h1 HS HC c0 c1 c2 c3 c4 c5 c6 c7 c8 c9 c10 c11 c12 cf
    go_wp2_with fail
    go_ret
    exact ⟨rfl, HS1.out⟩
theorem hbody_any (m : Mv) (w : World) : Calls Try.prog 27 #[mv m] w fun e w' => e = .returned (bx (subf m.ax 1280) (subf m.ay 1280) (addf m.ax 1280) (addf m.ay 1280)) ∧ Still w w' := by
  have A0 := Still.alloc w (.cells (mcs m) 35)
  have A1 := Still.alloc (newM w m) (.cells #[.int .i64 0, .int .i64 0, .int .i64 0, .int .i64 0] 52)
  have p0 := (newM_mb w m).still A1
  have q0 := newB_bb (newM w m) 0 0 0 0
  simp only [size_alloc] at q0
  have HS0 := hid (A0.trans A1)
  have HA := hid (fun w => around_any m.ax m.ay 1280 w)
  rw [c1280] at HA
  obtain ⟨x, ex⟩ : ∃ x, subf m.ax 1280 = x := ⟨_, rfl⟩
  obtain ⟨y, ey⟩ : ∃ x, subf m.ay 1280 = x := ⟨_, rfl⟩
  obtain ⟨z, ez⟩ : ∃ x, addf m.ax 1280 = x := ⟨_, rfl⟩
  obtain ⟨u, eu⟩ : ∃ x, addf m.ay 1280 = x := ⟨_, rfl⟩
  rw [ex, ey, ez, eu] at HA ⊢
  clear A0 A1 ex ey ez eu
  obtain ⟨c0, c1, c2, c3, c4, c5, c6, c7, c8, c9, c10, c11, c12, cf⟩ := p0.cells
  go_enter Try.func27, Try.ntmps27
  go_wp2_with fail
  refine (HA.out _).mono ?_
  rintro e w1 ⟨rfl, h1⟩
  have q1 := q0.still h1
  have HS1 := hid (HS0.out.trans h1)
  clear h1 HS0 p0 q0 c0 c1 c2 c3 c4 c5 c6 c7 c8 c9 c10 c11 c12 cf HA
  obtain ⟨k0, k1, k2, k3, kf⟩ := q1.cells
  go_wp2_with fail
  refine bodyPost_ret ((q1.set x y z u).res rfl _ rfl) rfl ⟨rfl, ?_⟩
  repeat (first | refine setC_fr ?_ _ _ _ (by omega) | with_reducible exact HS1.out)
set_option maxHeartbeats 1000000 in
theorem htog_any (L : List Mv) (ao : Option Addr) (n cap : Nat) (w : World) (hr : RdG KM w ao n L) : Calls Try.prog 24 #[.slice ao n cap] w fun e w' => e = .returned (.bool (togB L)) ∧ Still w w' := by
  have HL := hid hr.1
  have HR := hid hr
  by_cases h6 : 6 < n
  · have HE : Hid (togB L = false) := hid (by
      cases e : togB L with
      | false => rfl
      | true => have := (togB_iff.1 e).1; rw [HL.out] at this; omega)
    have h6' : (n : Int) > 6 := by omega
    clear hr
    go_enter Try.func24, Try.ntmps24
    go_wp2_with fail
    go_ret
    exact ⟨by rw [HE.out]; rfl, Fr.refl _ _⟩
  · have h6' : decide ((6 : Int) < (n : Int)) = false := by simp; omega
    have hn6 : n ≤ 6 := by omega
    clear hr h6
    go_enter Try.func24, Try.ntmps24
    go_wp2_with fail
    clear h6'
    go_loopw [10] (fun u wr => ∃ k : Nat, k ≤ n ∧ u = .int .i64 (k : Int) ∧ Hid (∀ i, i < k → mayB (mm L i) = true) ∧ Still w wr) (fun u _ => n - (intOf u).toNat)
    case atStart => exact ⟨0, by omega, rfl, hid (fun i hi => by omega), Fr.refl _ _⟩
    case round =>
      obtain ⟨k, hk, rfl, HF, hs⟩ := hrel
      have HS := hid hs
      by_cases hkn : k < n
      · have hlt : (k : Int) < (n : Int) := by omega
        obtain ⟨B, o, rfl⟩ := (HR.out.still HS.out).at (by omega)
        obtain ⟨c0, c1, c2, c3, c4, c5, c6, c7, c8, c9, c10, c11, c12⟩ := rdM (HR.out.still HS.out) hkn
        have HM := hid (fun w => hmay_any (mm L k) w)
        have HNo := hid (fun h => togB_no (L := L) (i := k) (by rw [HL.out]; exact hkn) h)
        have HYes := hid (show mayB (mm L k) = true → ∀ i, i < k + 1 → mayB (mm L i) = true from fun h i hi => by
          by_cases e : i = k
          · subst e; exact h
          · exact HF.out i (by omega))
        obtain ⟨x, ex⟩ : ∃ x, mm L k = x := ⟨_, rfl⟩
        rw [ex] at c0 c1 c2 c3 c4 c5 c6 c7 c8 c9 c10 c11 c12 HM HNo HYes
        obtain ⟨b, eb⟩ : ∃ b, mayB x = b := ⟨_, rfl⟩
        rw [eb] at HM HNo HYes
        clear ex eb
        have HS1 := hid (hs.trans (Still.alloc wr (.cells (mcs x) 35)))
        obtain ⟨d0, d1, d2, d3, d4, d5, d6, d7, d8, d9, d10, d11, d12, df⟩ := (newM_mb wr x).cells
        clear hs HS
        go_wp2_with fail
        refine (HM.out _).mono ?_
        rintro e w2 ⟨rfl, h2⟩
        have HS2 := hid (HS1.out.trans h2)
        clear h2 HS1 c0 c1 c2 c3 c4 c5 c6 c7 c8 c9 c10 c11 c12 HM d0 d1 d2 d3 d4 d5 d6 d7 d8 d9 d10 d11 d12 df
        cases b with
        | true =>
          have HY := hid (HYes.out rfl)
          clear HYes HNo
          go_wp2_with fail
          go_roundw
          case rel => exact ⟨k + 1, by omega, by go_num, HY, HS2.out⟩
          case measure => simp [intOf]; omega
        | false =>
          have HN := hid (HNo.out rfl)
          clear HYes HNo
          go_wp2_with fail
          (first | rw [Exit.noGoto_ret] | skip)
          go_ret
          exact ⟨by rw [HN.out]; rfl, HS2.out⟩
      · have hge : ¬ (k : Int) < (n : Int) := by omega
        have HE : Hid (togB L = true) := hid (togB_iff.2 ⟨by rw [HL.out]; exact hn6, fun i hi => HF.out i (by have := HL.out; omega)⟩)
        clear hkn hk hs
        go_wp2_with fail
        go_ret
        exact ⟨by rw [HE.out]; rfl, HS.out⟩
end Go.Proofs.Ytpohikhiekmfgaa
