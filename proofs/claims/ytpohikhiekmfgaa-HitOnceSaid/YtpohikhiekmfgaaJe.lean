/- The document's Flown and Shots. -/
import Derived.Test.YtpohikhiekmfgaaJc
import Derived.Test.YtpohikhiekmfgaaZc
namespace Go.Proofs.Ytpohikhiekmfgaa
open Go.RowKit
open Pu Gp Ap Vp Np Za Ka Ja
set_option maxRecDepth 100000

set_option maxHeartbeats 2000000 in
theorem rflo_any (S : List Sh) (ao : Option Addr) (n cap : Nat) (w : World) (hr : RdG KS w ao n S) : Calls Try.prog 36 #[.slice ao n cap] w fun e w' => e = .returned (.bool (flo S)) ∧ Still w w' := by
  have HL := hid hr.1
  have HR := hid hr
  by_cases h6 : 48 < n
  · have HE : Hid (flo S = false) := hid (flo_no (fun h => by have := h.1; rw [HL.out] at this; omega))
    have h6' : (n : Int) > 48 := by omega
    clear hr
    go_enter Try.func36, Try.ntmps36
    go_wp2_with fail
    go_ret
    exact ⟨by rw [HE.out]; rfl, Fr.refl _ _⟩
  · have h6' : decide ((48 : Int) < (n : Int)) = false := by simp; omega
    have hn6 : n ≤ 48 := by omega
    clear hr h6
    go_enter Try.func36, Try.ntmps36
    go_wp2_with fail
    clear h6'
    go_loopw [3] (fun u wr => ∃ k : Nat, k ≤ n ∧ u = .int .i64 (k : Int) ∧ Hid (∀ i, i < k → maySB (ss S i) = true ∧ (0 < i → (ss S (i - 1)).no < (ss S i).no)) ∧ Still w wr) (fun u _ => n - (intOf u).toNat)
    case atStart => exact ⟨0, by omega, rfl, hid (fun i hi => by omega), Fr.refl _ _⟩
    case round =>
      obtain ⟨k, hk, rfl, HF, hs⟩ := hrel
      have HS := hid hs
      clear hs
      by_cases hkn : k < n
      · have hlt : (k : Int) < (n : Int) := by omega
        obtain ⟨B, o, rfl⟩ := (HR.out.still HS.out).at (by omega)
        obtain ⟨s0, s1, s2, s3, s4, s5, s6, s7⟩ := rdS (HR.out.still HS.out) hkn
        have HM := hid (fun w => rchks_any (ss S k) w)
        have HC1 := hid (fun u (hu : Still wr u) => (rdS ((HR.out.still HS.out).still hu) hkn).1)
        have HC2 := hid (fun u (hu : Still wr u) (h0 : 0 < k) => (rdS ((HR.out.still HS.out).still hu) (i := k - 1) (by omega)).1)
        have HNo := hid (show ¬ (maySB (ss S k) = true ∧ (0 < k → (ss S (k - 1)).no < (ss S k).no)) → flo S = false from fun h => flo_no (fun hf => h (hf.2 k (by rw [HL.out]; exact hkn))))
        have HYes := hid (show (maySB (ss S k) = true ∧ (0 < k → (ss S (k - 1)).no < (ss S k).no)) → ∀ i, i < k + 1 → maySB (ss S i) = true ∧ (0 < i → (ss S (i - 1)).no < (ss S i).no) from fun h i hi => by
          by_cases e : i = k
          · subst e; exact h
          · exact HF.out i (by omega))
        obtain ⟨x, ex⟩ : ∃ x, ss S k = x := ⟨_, rfl⟩
        obtain ⟨y, ey⟩ : ∃ y, (ss S (k - 1)).no = y := ⟨_, rfl⟩
        rw [ex] at s0 s1 s2 s3 s4 s5 s6 s7 HM HC1 HNo HYes
        rw [ey] at HC2 HNo HYes
        obtain ⟨b, eb⟩ : ∃ b, maySB x = b := ⟨_, rfl⟩
        have HCk : Hid (chkS x = if b then 0 else 90) := hid (by unfold chkS; rw [eb])
        rw [eb] at HNo HYes
        rw [HCk.out] at HM
        clear ex eb ey HCk
        go_wp2_with fail
        refine (HM.out _).mono ?_
        rintro e w2 ⟨rfl, h2⟩
        have c1 := HC1.out _ h2
        have HC := hid (HC2.out _ h2)
        have HS2 := hid (HS.out.trans h2)
        clear h2 HS s0 s1 s2 s3 s4 s5 s6 s7 HM HC1 HC2
        obtain ⟨z, ez⟩ : ∃ z, x.no = z := ⟨_, rfl⟩
        rw [ez] at c1 HNo HYes
        clear ez
        have k1 := Cl.cell c1
        have hne := Aft.here w2
        have hk48 : k < 48 := by omega
        clear c1
        cases b with
        | false =>
          have HN := hid (HNo.out (fun h => by cases h.1))
          clear HYes HNo HC
          go_wp2_with fail
          refine region_all (by kernel_rfl) (by kernel_rfl) ?_
          repeat (go_big_quiet_step (fail))
          refine wpQuiet_nil ?_
          intro w3 h3
          have HS3 := hid (HS2.out.trans h3)
          clear h3 HS2 hne k1
          go_wp2_with fail
          (first | rw [Exit.noGoto_ret] | skip)
          go_ret
          exact ⟨by rw [HN.out]; rfl, HS3.out⟩
        | true =>
          by_cases hg : 0 < k
          · have hg' : (0 : Int) < (k : Int) := by omega
            have hg1 : decide ((0 : Int) < (k : Int)) = true := by simpa using hg'
            have hg2 : decide (0 < k) = true := by simpa using hg
            have k2 := Cl.cell (HC.out hg)
            by_cases hzy : z ≤ y
            · have hz2 : decide (z ≤ y) = true := by simpa using hzy
              have HN := hid (HNo.out (fun h => by have := h.2 hg; omega))
              clear HYes HNo HC
              go_wp2_with fail
              refine region_all (by kernel_rfl) (by kernel_rfl) ?_
              repeat (go_big_quiet_step (fail))
              refine wpQuiet_nil ?_
              intro w3 h3
              have HS3 := hid (HS2.out.trans h3)
              clear h3 HS2 hne k1 k2
              go_wp2_with fail
              (first | rw [Exit.noGoto_ret] | skip)
              go_ret
              exact ⟨by rw [HN.out]; rfl, HS3.out⟩
            · have hz2 : decide (z ≤ y) = false := by simpa using hzy
              have HY := hid (HYes.out ⟨rfl, fun _ => by omega⟩)
              clear HYes HNo HC
              go_wp2_with fail
              refine region_all (by kernel_rfl) (by kernel_rfl) ?_
              repeat (go_big_quiet_step (fail))
              refine wpQuiet_nil ?_
              intro w3 h3
              have HS3 := hid (HS2.out.trans h3)
              clear h3 HS2 hne k1 k2
              go_wp2_with fail
              go_roundw
              case rel => exact ⟨k + 1, by omega, by go_num, HY, HS3.out⟩
              case measure => first | (simp [intOf]; done) | (simp [intOf]; omega)
          · have hg' : ¬ (0 : Int) < (k : Int) := by omega
            have hg1 : decide ((0 : Int) < (k : Int)) = false := by simpa using hg'
            have hg2 : decide (0 < k) = false := by simpa using hg
            have HY := hid (HYes.out ⟨rfl, fun h => absurd h hg⟩)
            clear HYes HNo HC
            go_wp2_with fail
            refine region_all (by kernel_rfl) (by kernel_rfl) ?_
            repeat (go_big_quiet_step (fail))
            refine wpQuiet_nil ?_
            intro w3 h3
            have HS3 := hid (HS2.out.trans h3)
            clear h3 HS2 hne k1
            go_wp2_with fail
            go_roundw
            case rel => exact ⟨k + 1, by omega, by go_num, HY, HS3.out⟩
            case measure => first | (simp [intOf]; done) | (simp [intOf]; omega)
      · have hge : ¬ (k : Int) < (n : Int) := by omega
        have HE : Hid (flo S = true) := hid (flo_iff.2 ⟨by rw [HL.out]; exact hn6, fun i hi => HF.out i (by have := HL.out; omega)⟩)
        clear hkn hk
        go_wp2_with fail
        go_ret
        exact ⟨by rw [HE.out]; rfl, HS.out⟩
set_option maxHeartbeats 4000000 in
theorem rshots_ok (L : List Mv) (S : List Sh) (ao : Option Addr) (n cap : Nat) (so : Option Addr) (r scap : Nat) (w : World) (hr : RdG KM w ao n L) (hs : RdG KS w so r S) (ht : togB L = true) (hf : flo S = true) : Calls Try.prog 18 #[.slice ao n cap, .slice so r scap] w fun e w' => ∃ v, e = .returned (.tuple #[v, .int .i64 0]) ∧ OwG KT 47 w' w.heap.size v (rowS (fun i k => hS L (ss S i) k) n r) ∧ Still w w' := by
  have HL := hid hr.1
  have HR := hid hr
  have HRS := hid hs
  have hn6 : n ≤ 6 := by have := (togB_iff.1 ht).1; have := hr.1; omega
  have hr48 : r ≤ 48 := by have := (flo_iff.1 hf).1; have := hs.1; omega
  have H := hid (rtog_any L ao n cap w hr)
  have H2 := hid (fun u hu => rflo_any S so r scap u hu)
  rw [ht] at H
  rw [hf] at H2
  clear hr ht hs hf
  obtain ⟨P, eP⟩ : ∃ P, (fun i k => hS L (ss S i) k) = P := ⟨_, rfl⟩
  have HP := hid (show ∀ i k, P i k = hS L (ss S i) k from fun i k => by rw [← eP])
  rw [eP]
  clear eP
  go_enter Try.func18, Try.ntmps18
  go_wp2_with fail
  refine H.out.mono ?_
  rintro e w0 ⟨rfl, h0⟩
  have HS0 := hid h0
  clear h0 H
  go_wp2_with fail
  refine (H2.out _ (HRS.out.still HS0.out)).mono ?_
  rintro e w1 ⟨rfl, h1⟩
  have HS1 := hid (HS0.out.trans h1)
  have HZ := hid HS1.out.size
  clear h1 H2 HS0
  go_wp2_with fail
  go_loopw [8, 9] (fun v u wr => ∃ i : Nat, i ≤ r ∧ u = .int .i64 (i : Int) ∧ OwG KT 47 wr w1.heap.size v (rowS P n i) ∧ Still w1 wr) (fun _ u _ => r - (intOf u).toNat)
  case atStart => exact ⟨0, by omega, rfl, OwG.nil _ _, Fr.refl _ _⟩
  case round =>
    obtain ⟨i, hi, rfl, ho, hs⟩ := hrel
    have HS2 := hid hs
    have HO2 := hid ho
    clear hs
    obtain ⟨ao2, cap2, rfl, _⟩ := ho.slice
    clear ho
    have HLn := hid (show (rowS P n i).length ≤ 100000 by have := rowS_len P n i; omega)
    obtain ⟨m2, em2⟩ : ∃ m, (rowS P n i).length = m := ⟨_, rfl⟩
    rw [em2] at HO2 ⊢
    clear em2
    by_cases hin : i < r
    · have hlt : (i : Int) < (r : Int) := by omega
      have HRow : Hid (rowS P n (i + 1) = rowS P n i ++ (if 0 ≤ lo (P i) 0 n then [((i : Int), lo (P i) 0 n)] else [])) := hid rfl
      go_wp2_with fail
      go_loopw [10, 11] (fun v u wr => ∃ j : Nat, j ≤ n ∧ v = .int .i64 (lo (P i) j (n - j)) ∧ u = .int .i64 ((j : Int) - 1) ∧ OwG KT 47 wr w1.heap.size (.slice ao2 m2 cap2) (rowS P n i) ∧ Still w1 wr) (fun _ u _ => (intOf u + 1).toNat)
      case atStart => exact ⟨n, Nat.le_refl _, by rw [Nat.sub_self]; rfl, by go_num, HO2.out, HS2.out⟩
      case round =>
        clear HO2 HS2
        obtain ⟨j, hj, rfl, rfl, ho, hs⟩ := hrel
        have HS2 := hid hs
        have HO2 := hid ho
        clear hs ho
        by_cases hj0 : 0 < j
        · obtain ⟨k, rfl⟩ : ∃ k, j = k + 1 := ⟨j - 1, by omega⟩
          rw [show ((k + 1 : Nat) : Int) - 1 = (k : Int) by omega]
          have hkn : k < n := by omega
          have hlt2 : (k : Int) < (n : Int) := by omega
          have HLo := hid (lo_down (P i) hkn)
          obtain ⟨at0, eat⟩ : ∃ z, lo (P i) (k + 1) (n - (k + 1)) = z := ⟨_, rfl⟩
          rw [eat] at HLo ⊢
          clear eat
          have HRr := hid ((HR.out.still HS1.out).still HS2.out)
          have HRs := hid ((HRS.out.still HS1.out).still HS2.out)
          obtain ⟨B, o, rfl⟩ := HRr.out.at (by omega)
          obtain ⟨B2, o2, rfl⟩ := HRs.out.at (by omega)
          obtain ⟨c0, c1, c2, c3, c4, c5, c6, c7, c8, c9, c10, c11, c12⟩ := rdM HRr.out hkn
          obtain ⟨s0, s1, s2, s3, s4, s5, s6, s7⟩ := rdS HRs.out hin
          have HC := hid (fun u (hu : Still wr u) => (rdM (HRr.out.still hu) hkn).2.2.2.2.2.2.2.2.2.2.2.1)
          have HD := hid (fun u (hu : Still wr u) => (rdS (HRs.out.still hu) hin).2.1)
          have HB1 := hid (fun w => rbody_any (mm L k) w)
          have HT2 : Hid (P i k = (((mm L k).ou == 0) && !((k : Int) == (ss S i).ow) && inn (mm L k) (ss S i).ax (ss S i).ay)) := hid (HP.out i k)
          obtain ⟨x, ex⟩ : ∃ x, mm L k = x := ⟨_, rfl⟩
          obtain ⟨y, ey⟩ : ∃ x, ss S i = x := ⟨_, rfl⟩
          rw [ex] at c0 c1 c2 c3 c4 c5 c6 c7 c8 c9 c10 c11 c12 HC HB1 HT2
          rw [ey] at s0 s1 s2 s3 s4 s5 s6 s7 HD HT2
          clear ex ey
          have HV := hid (fun w => rinside_any (subf x.ax 1280) (subf x.ay 1280) (addf x.ax 1280) (addf x.ay 1280) y.ax y.ay w)
          obtain ⟨b3, eb3⟩ : ∃ b, inn x y.ax y.ay = b := ⟨_, rfl⟩
          unfold inn at eb3
          rw [show inn x y.ax y.ay = b3 from eb3] at HT2
          rw [eb3] at HV
          clear eb3
          obtain ⟨x1, e1⟩ : ∃ z, subf x.ax 1280 = z := ⟨_, rfl⟩
          obtain ⟨x2, e2⟩ : ∃ z, subf x.ay 1280 = z := ⟨_, rfl⟩
          obtain ⟨x3, e3⟩ : ∃ z, addf x.ax 1280 = z := ⟨_, rfl⟩
          obtain ⟨x4, e4⟩ : ∃ z, addf x.ay 1280 = z := ⟨_, rfl⟩
          rw [e1, e2, e3, e4] at HB1 HV
          clear e1 e2 e3 e4
          have k0 := Cl.cell c0
          have k1 := Cl.cell c1
          have k2 := Cl.cell c2
          have k3 := Cl.cell c3
          have k4 := Cl.cell c4
          have k5 := Cl.cell c5
          have k6 := Cl.cell c6
          have k7 := Cl.cell c7
          have k8 := Cl.cell c8
          have k9 := Cl.cell c9
          have k10 := Cl.cell c10
          have k11 := Cl.cell c11
          have k12 := Cl.cell c12
          have l3 := Cl.cell s3
          have l4 := Cl.cell s4
          have hne := Aft.here wr
          clear c0 c1 c2 c3 c4 c5 c6 c7 c8 c9 c10 c11 c12 s0 s1 s2 s3 s4 s5 s6 s7
          go_wp2_with fail
          refine region_all (by kernel_rfl) (by kernel_rfl) ?_
          repeat (go_big_quiet_step ((first | (go_at_call 30; with_reducible exact Calls.cl (HB1.out _)) | (go_at_call 37; with_reducible exact Calls.cl (HV.out _)))))
          refine wpQuiet_nil ?_
          intro w3 h3
          have c := HC.out _ h3
          have d := HD.out _ h3
          have HS3 := hid (HS2.out.trans h3)
          have HO3 := hid (HO2.out.still h3)
          clear h3 hne k0 k1 k2 k3 k4 k5 k6 k7 k8 k9 k10 k11 k12 l3 l4 HS2 HO2 HB1 HV HC HD HRr HRs
          obtain ⟨p, ep⟩ : ∃ p, x.ou = p := ⟨_, rfl⟩
          obtain ⟨q, eq⟩ : ∃ p, y.ow = p := ⟨_, rfl⟩
          rw [ep] at c HT2
          rw [eq] at d HT2
          clear ep eq
          have HK0 : Hid (P i k = false → lo (P i) k (n - k) = at0) := hid (fun h => by rw [HLo.out, h]; rfl)
          have HK1 : Hid (P i k = true → lo (P i) k (n - k) = (k : Int)) := hid (fun h => by rw [HLo.out, h]; rfl)
          cases hp : p == 0 with
          | false =>
            have HK := hid (HK0.out (by rw [HT2.out, hp]; rfl))
            clear HK0 HK1 HT2 HLo
            go_wp2_with fail
            go_roundw
            case rel => exact ⟨k, by omega, by rw [HK.out], by go_num, HO3.out, HS3.out⟩
            case measure => first | (simp [intOf]; done) | (simp [intOf]; omega)
          | true =>
            cases hq : (k : Int) == q with
            | true =>
              have HK := hid (HK0.out (by rw [HT2.out, hp, hq]; rfl))
              have hq2 : ((k : Int) != q) = false := by simpa using hq
              clear HK0 HK1 HT2 HLo
              go_wp2_with fail
              go_roundw
              case rel => exact ⟨k, by omega, by rw [HK.out], by go_num, HO3.out, HS3.out⟩
              case measure => first | (simp [intOf]; done) | (simp [intOf]; omega)
            | false =>
              have hq2 : ((k : Int) != q) = true := by simpa using hq
              cases b3 with
              | false =>
                have HK := hid (HK0.out (by rw [HT2.out, hp, hq]; rfl))
                clear HK0 HK1 HT2 HLo
                go_wp2_with fail
                go_roundw
                case rel => exact ⟨k, by omega, by rw [HK.out], by go_num, HO3.out, HS3.out⟩
                case measure => first | (simp [intOf]; done) | (simp [intOf]; omega)
              | true =>
                have HK := hid (HK1.out (by rw [HT2.out, hp, hq]; rfl))
                clear HK0 HK1 HT2 HLo
                go_wp2_with fail
                go_roundw
                case rel => exact ⟨k, by omega, by rw [HK.out], by go_num, HO3.out, HS3.out⟩
                case measure => first | (simp [intOf]; done) | (simp [intOf]; omega)
        · obtain rfl : j = 0 := by omega
          rw [show ((0 : Nat) : Int) - 1 = -1 by omega, Nat.sub_zero]
          obtain ⟨z, ez⟩ : ∃ z, lo (P i) 0 n = z := ⟨_, rfl⟩
          rw [ez] at HRow ⊢
          clear ez hj0
          have hz3 : w1.heap.size ≤ wr.heap.size := HS2.out.size
          by_cases hz0 : 0 ≤ z
          · have hz1 : z ≥ 0 := hz0
            have HK : Hid (rowS P n (i + 1) = rowS P n i ++ [((i : Int), z)]) := hid (by rw [HRow.out, if_pos hz0])
            have A4 := Still.alloc wr (.cells #[.int .i64 (i : Int), .int .i64 z] 47)
            have HS4 := hid (HS2.out.trans A4)
            have HO4 := hid (HO2.out.still A4)
            have HX4 : Hid ((wr.alloc (.cells #[.int .i64 (i : Int), .int .i64 z] 47)).heap[wr.heap.size]? = some (.cells #[.int .i64 (i : Int), .int .i64 z] 47 (0, 0))) := hid (heap_alloc_new wr _)
            have HB4 := hid (show w1.heap.size ≤ (wr.alloc (.cells #[.int .i64 (i : Int), .int .i64 z] 47)).heap.size by rw [size_alloc]; omega)
            clear A4 HRow
            go_wp2_with (at_builtin; refine wpList_appT _ rfl _ _ rfl w1.heap.size wr.heap.size _ (rowS P n i) (i : Int) z rfl rfl HO4.out HX4.out HLn.out HB4.out ?_; intro v' w' ho' hf')
            go_roundw
            case rel => exact ⟨i + 1, by omega, by go_num, by rw [HK.out]; exact ho', still_appG HS4.out HO4.out hf' (Nat.le_refl _)⟩
            case measure => first | (simp [intOf]; done) | (simp [intOf]; omega)
          · have hz1 : ¬ z ≥ 0 := hz0
            have HK : Hid (rowS P n (i + 1) = rowS P n i) := hid (by rw [HRow.out, if_neg hz0, List.append_nil])
            clear HRow
            go_wp2_with fail
            go_roundw
            case rel => exact ⟨i + 1, by omega, by go_num, by rw [HK.out]; exact HO2.out, HS2.out⟩
            case measure => first | (simp [intOf]; done) | (simp [intOf]; omega)
    · have hge : ¬ (i : Int) < (r : Int) := by omega
      have HE : Hid (rowS P n r = rowS P n i) := hid (by congr; omega)
      clear hin
      go_wp2_with fail
      go_ret2
      exact ⟨_, rfl, by rw [HE.out]; exact HO2.out.less HZ.out, HS1.out.trans HS2.out⟩
theorem rshots_any (L : List Mv) (S : List Sh) (ao : Option Addr) (n cap : Nat) (so : Option Addr) (r scap : Nat) (w : World) (hr : RdG KM w ao n L) (hs : RdG KS w so r S) : Calls Try.prog 18 #[.slice ao n cap, .slice so r scap] w fun e w' => ∃ v, e = .returned (.tuple #[v, .int .i64 (err11 (shoE L S))]) ∧ OwG KT 47 w' w.heap.size v (sho L S) ∧ Still w w' := by
  cases he : shoE L S with
  | true =>
    have h := he
    unfold shoE at h
    rw [Bool.and_eq_true] at h
    have e : sho L S = rowS (fun i k => hS L (ss S i) k) n r := by unfold sho; rw [he, hr.1, hs.1]; rfl
    rw [e]
    exact rshots_ok L S ao n cap so r scap w hr hs h.1 h.2
  | false =>
    have HE : Hid (sho L S = []) := hid (by unfold sho; rw [he]; rfl)
    have H := hid (rtog_any L ao n cap w hr)
    have H2 := hid (fun u hu => rflo_any S so r scap u hu)
    have HRS := hid hs
    have HB : Hid ((togB L && flo S) = false) := hid he
    obtain ⟨a, ea⟩ : ∃ b, togB L = b := ⟨_, rfl⟩
    obtain ⟨b, eb⟩ : ∃ b, flo S = b := ⟨_, rfl⟩
    rw [ea] at H HB
    rw [eb] at H2 HB
    clear he hr hs ea eb
    go_enter Try.func18, Try.ntmps18
    go_wp2_with fail
    refine H.out.mono ?_
    rintro e w1 ⟨rfl, h1⟩
    have HS1 := hid h1
    clear h1 H
    go_wp2_with fail
    refine (H2.out _ (HRS.out.still HS1.out)).mono ?_
    rintro e w2 ⟨rfl, h2⟩
    have HS2 := hid (HS1.out.trans h2)
    clear h2 H2 HS1
    cases a with
    | false =>
      go_wp2_with fail
      go_ret2
      exact ⟨_, rfl, by rw [HE.out]; exact OwG.nil _ _, HS2.out⟩
    | true =>
      cases b with
      | true => exact absurd HB.out (by decide)
      | false =>
        go_wp2_with fail
        go_ret2
        exact ⟨_, rfl, by rw [HE.out]; exact OwG.nil _ _, HS2.out⟩
end Go.Proofs.Ytpohikhiekmfgaa
