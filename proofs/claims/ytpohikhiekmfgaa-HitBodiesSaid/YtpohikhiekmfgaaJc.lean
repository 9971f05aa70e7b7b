/- The document's Together, body and Bodies. -/
import Derived.Test.YtpohikhiekmfgaaJb
import Derived.Test.YtpohikhiekmfgaaK8
import Derived.Test.YtpohikhiekmfgaaK5b
import Derived.Test.YtpohikhiekmfgaaK5d
namespace Go.Proofs.Ytpohikhiekmfgaa
open Go.RowKit
open Pu Gp Ap Vp Np Za Ka Ja
set_option maxRecDepth 100000

set_option maxHeartbeats 1000000 in
theorem rtog_any (L : List Mv) (ao : Option Addr) (n cap : Nat) (w : World) (hr : RdG KM w ao n L) : Calls Try.prog 28 #[.slice ao n cap] w fun e w' => e = .returned (.bool (togB L)) ∧ Still w w' := by
  have HL := hid hr.1
  have HR := hid hr
  by_cases h6 : 6 < n
  · have HE : Hid (togB L = false) := hid (by
      cases e : togB L with
      | false => rfl
      | true => have := (togB_iff.1 e).1; rw [HL.out] at this; omega)
    have h6' : (n : Int) > 6 := by omega
    clear hr
    go_enter Try.func28, Try.ntmps28
    go_wp2_with fail
    go_ret
    exact ⟨by rw [HE.out]; rfl, Fr.refl _ _⟩
  · have h6' : decide ((6 : Int) < (n : Int)) = false := by simp; omega
    have hn6 : n ≤ 6 := by omega
    clear hr h6
    go_enter Try.func28, Try.ntmps28
    go_wp2_with fail
    clear h6'
    go_loopw [3] (fun u wr => ∃ k : Nat, k ≤ n ∧ u = .int .i64 (k : Int) ∧ Hid (∀ i, i < k → mayB (mm L i) = true) ∧ Still w wr) (fun u _ => n - (intOf u).toNat)
    case atStart => exact ⟨0, by omega, rfl, hid (fun i hi => by omega), Fr.refl _ _⟩
    case round =>
      obtain ⟨k, hk, rfl, HF, hs⟩ := hrel
      have HS := hid hs
      clear hs
      by_cases hkn : k < n
      · have hlt : (k : Int) < (n : Int) := by omega
        obtain ⟨B, o, rfl⟩ := (HR.out.still HS.out).at (by omega)
        obtain ⟨c0, c1, c2, c3, c4, c5, c6, c7, c8, c9, c10, c11, c12⟩ := rdM (HR.out.still HS.out) hkn
        have HM := hid (fun w => rmay_any (mm L k) w)
        have HNo := hid (fun h => togB_no (L := L) (i := k) (by rw [HL.out]; exact hkn) h)
        have HYes := hid (show mayB (mm L k) = true → ∀ i, i < k + 1 → mayB (mm L i) = true from fun h i hi => by
          by_cases e : i = k
          · subst e; exact h
          · exact HF.out i (by omega))
        obtain ⟨x, ex⟩ : ∃ x, mm L k = x := ⟨_, rfl⟩
        rw [ex] at c0 c1 c2 c3 c4 c5 c6 c7 c8 c9 c10 c11 c12 HM HNo HYes
        obtain ⟨b, eb⟩ : ∃ b, mayB x = b := ⟨_, rfl⟩
        rw [eb] at HM HNo HYes
        clear ex eb
        go_wp2_with fail
        refine (HM.out _).mono ?_
        rintro e w2 ⟨rfl, h2⟩
        have HS2 := hid (HS.out.trans h2)
        clear h2 HS c0 c1 c2 c3 c4 c5 c6 c7 c8 c9 c10 c11 c12 HM
        cases b with
        | true =>
          have HY := hid (HYes.out rfl)
          clear HYes HNo
          go_wp2_with fail
          go_roundw
          case rel => exact ⟨k + 1, by omega, by go_num, HY, HS2.out⟩
          case measure => simp [intOf]; omega
        | false =>
          have HN := hid (HNo.out rfl)
          clear HYes HNo
          go_wp2_with fail
          (first | rw [Exit.noGoto_ret] | skip)
          go_ret
          exact ⟨by rw [HN.out]; rfl, HS2.out⟩
      · have hge : ¬ (k : Int) < (n : Int) := by omega
        have HE : Hid (togB L = true) := hid (togB_iff.2 ⟨by rw [HL.out]; exact hn6, fun i hi => HF.out i (by have := HL.out; omega)⟩)
        clear hkn hk
        go_wp2_with fail
        go_ret
        exact ⟨by rw [HE.out]; rfl, HS.out⟩
theorem c1280 : clampf 1280 0 2147483647 = 1280 := by decide
theorem c768 : clampf 768 0 2147483647 = 768 := by decide
theorem rbody_any (m : Mv) (w : World) : Calls Try.prog 30 #[mv m] w fun e w' => e = .returned (bx (subf m.ax 1280) (subf m.ay 1280) (addf m.ax 1280) (addf m.ay 1280)) ∧ Still w w' := by
  have A0 := Still.alloc w (.cells (mcs m) 35)
  have A1 := Still.alloc (newM w m) (.cells #[.int .i64 0, .int .i64 0, .int .i64 0, .int .i64 0] 52)
  have p0 := (newM_mb w m).still A1
  have q0 := newB_bb (newM w m) 0 0 0 0
  simp only [size_alloc] at q0
  have HS0 := hid (A0.trans A1)
  have HA := hid (fun w => raround_any m.ax m.ay 1280 w)
  rw [c1280] at HA
  obtain ⟨x, ex⟩ : ∃ x, subf m.ax 1280 = x := ⟨_, rfl⟩
  obtain ⟨y, ey⟩ : ∃ x, subf m.ay 1280 = x := ⟨_, rfl⟩
  obtain ⟨z, ez⟩ : ∃ x, addf m.ax 1280 = x := ⟨_, rfl⟩
  obtain ⟨u, eu⟩ : ∃ x, addf m.ay 1280 = x := ⟨_, rfl⟩
  rw [ex, ey, ez, eu] at HA ⊢
  clear A0 A1 ex ey ez eu
  obtain ⟨c0, c1, c2, c3, c4, c5, c6, c7, c8, c9, c10, c11, c12, cf⟩ := p0.cells
  go_enter Try.func30, Try.ntmps30
  go_wp2_with fail
  refine (HA.out _).mono ?_
  rintro e w1 ⟨rfl, h1⟩
  have q1 := q0.still h1
  have HS1 := hid (HS0.out.trans h1)
  clear h1 HS0 p0 q0 c0 c1 c2 c3 c4 c5 c6 c7 c8 c9 c10 c11 c12 cf HA
  obtain ⟨k0, k1, k2, k3, kf⟩ := q1.cells
  go_wp2_with fail
  refine bodyPost_ret ((q1.set x y z u).res rfl _ rfl) rfl ⟨rfl, ?_⟩
  repeat (first | refine setC_fr ?_ _ _ _ (by omega) | with_reducible exact HS1.out)
set_option maxHeartbeats 4000000 in
theorem rbodies_ok (L : List Mv) (ao : Option Addr) (n cap : Nat) (w : World) (hr : RdG KM w ao n L) (ht : togB L = true) : Calls Try.prog 11 #[.slice ao n cap] w fun e w' => ∃ v, e = .returned (.tuple #[v, .int .i64 0]) ∧ OwG KT 47 w' w.heap.size v (allB L L.length) ∧ Still w w' := by
  have HL := hid hr.1
  have HR := hid hr
  have hn6 : n ≤ 6 := by have := (togB_iff.1 ht).1; have := hr.1; omega
  have H := hid (rtog_any L ao n cap w hr)
  rw [ht] at H
  clear hr ht
  go_enter Try.func11, Try.ntmps11
  go_wp2_with fail
  refine H.out.mono ?_
  rintro e w1 ⟨rfl, h1⟩
  have HS1 := hid h1
  have HZ := hid h1.size
  clear h1 H
  go_wp2_with fail
  go_loopw [5, 6] (fun v u wr => ∃ i : Nat, i ≤ n ∧ u = .int .i64 (i : Int) ∧ OwG KT 47 wr w1.heap.size v (allB L i) ∧ Still w1 wr) (fun _ u _ => n - (intOf u).toNat)
  case atStart => exact ⟨0, by omega, rfl, OwG.nil _ _, Fr.refl _ _⟩
  case round =>
    obtain ⟨i, hi, rfl, ho, hs⟩ := hrel
    have HS2 := hid hs
    have HO2 := hid ho
    clear hs
    obtain ⟨ao2, cap2, rfl, _⟩ := ho.slice
    clear ho
    obtain ⟨m2, em2⟩ : ∃ m, (allB L i).length = m := ⟨_, rfl⟩
    rw [em2] at HO2 ⊢
    clear em2
    by_cases hin : i < n
    · have hlt : (i : Int) < (n : Int) := by omega
      go_wp2_with fail
      go_loopw [5, 7] (fun v u wr => ∃ k : Nat, i < k ∧ k ≤ n ∧ u = .int .i64 (k : Int) ∧ OwG KT 47 wr w1.heap.size v (allB L i ++ rowB L i k) ∧ Still w1 wr) (fun _ u _ => n - (intOf u).toNat)
      case atStart => exact ⟨i + 1, by omega, by omega, by go_num, by rw [rowB_start L i (i + 1) (Nat.le_refl _), List.append_nil]; exact HO2.out, HS2.out⟩
      case round =>
        clear HO2 HS2
        obtain ⟨k, hik, hk, rfl, ho, hs⟩ := hrel
        have HS2 := hid hs
        have HO2 := hid ho
        have hzz := hs.size
        clear hs
        obtain ⟨ao3, cap3, rfl, _⟩ := ho.slice
        clear ho
        have HLn := hid (show (allB L i ++ rowB L i k).length ≤ 100000 by
          have h1 := allB_len L i
          have h2 := rowB_len L i k
          have h3 := HL.out
          have h4 : i * L.length ≤ 6 * 6 := Nat.mul_le_mul (by omega) (by omega)
          rw [List.length_append]
          omega)
        obtain ⟨m3, em3⟩ : ∃ m, (allB L i ++ rowB L i k).length = m := ⟨_, rfl⟩
        rw [em3] at HO2 ⊢
        clear em3
        by_cases hkn : k < n
        · have hlt2 : (k : Int) < (n : Int) := by omega
          have HRr := hid ((HR.out.still HS1.out).still HS2.out)
          obtain ⟨B, o, rfl⟩ := HRr.out.at (by omega)
          obtain ⟨c0, c1, c2, c3, c4, c5, c6, c7, c8, c9, c10, c11, c12⟩ := rdM HRr.out hin
          obtain ⟨d0, d1, d2, d3, d4, d5, d6, d7, d8, d9, d10, d11, d12⟩ := rdM HRr.out hkn
          have HC := hid (fun u (hu : Still wr u) => (rdM (HRr.out.still hu) hin).2.2.2.2.2.2.2.2.2.2.2.1)
          have HD := hid (fun u (hu : Still wr u) => (rdM (HRr.out.still hu) hkn).2.2.2.2.2.2.2.2.2.2.2.1)
          have HB1 := hid (fun w => rbody_any (mm L i) w)
          have HB2 := hid (fun w => rbody_any (mm L k) w)
          have HT2 : Hid (two L i k = (((mm L i).ou == 0) && ((mm L k).ou == 0) && ov (mm L i) (mm L k).ax (mm L k).ay 1280)) := hid rfl
          have HRow := hid (rowB_step L hik)
          obtain ⟨x, ex⟩ : ∃ x, mm L i = x := ⟨_, rfl⟩
          obtain ⟨y, ey⟩ : ∃ x, mm L k = x := ⟨_, rfl⟩
          rw [ex] at c0 c1 c2 c3 c4 c5 c6 c7 c8 c9 c10 c11 c12 HC HB1 HT2
          rw [ey] at d0 d1 d2 d3 d4 d5 d6 d7 d8 d9 d10 d11 d12 HD HB2 HT2
          clear ex ey
          have HV := hid (fun w => roverlap_any (subf x.ax 1280) (subf x.ay 1280) (addf x.ax 1280) (addf x.ay 1280) (subf y.ax 1280) (subf y.ay 1280) (addf y.ax 1280) (addf y.ay 1280) w)
          obtain ⟨b3, eb3⟩ : ∃ b, ov x y.ax y.ay 1280 = b := ⟨_, rfl⟩
          unfold ov at eb3
          rw [show ov x y.ax y.ay 1280 = b3 from eb3] at HT2
          rw [eb3] at HV
          clear eb3
          obtain ⟨x1, e1⟩ : ∃ z, subf x.ax 1280 = z := ⟨_, rfl⟩
          obtain ⟨x2, e2⟩ : ∃ z, subf x.ay 1280 = z := ⟨_, rfl⟩
          obtain ⟨x3, e3⟩ : ∃ z, addf x.ax 1280 = z := ⟨_, rfl⟩
          obtain ⟨x4, e4⟩ : ∃ z, addf x.ay 1280 = z := ⟨_, rfl⟩
          rw [e1, e2, e3, e4] at HB1 HV
          clear e1 e2 e3 e4
          obtain ⟨y1, e1⟩ : ∃ z, subf y.ax 1280 = z := ⟨_, rfl⟩
          obtain ⟨y2, e2⟩ : ∃ z, subf y.ay 1280 = z := ⟨_, rfl⟩
          obtain ⟨y3, e3⟩ : ∃ z, addf y.ax 1280 = z := ⟨_, rfl⟩
          obtain ⟨y4, e4⟩ : ∃ z, addf y.ay 1280 = z := ⟨_, rfl⟩
          rw [e1, e2, e3, e4] at HB2 HV
          clear e1 e2 e3 e4
          have k0 := Cl.cell c0
          have k1 := Cl.cell c1
          have k2 := Cl.cell c2
          have k3 := Cl.cell c3
          have k4 := Cl.cell c4
          have k5 := Cl.cell c5
          have k6 := Cl.cell c6
          have k7 := Cl.cell c7
          have k8 := Cl.cell c8
          have k9 := Cl.cell c9
          have k10 := Cl.cell c10
          have k11 := Cl.cell c11
          have k12 := Cl.cell c12
          have l0 := Cl.cell d0
          have l1 := Cl.cell d1
          have l2 := Cl.cell d2
          have l3 := Cl.cell d3
          have l4 := Cl.cell d4
          have l5 := Cl.cell d5
          have l6 := Cl.cell d6
          have l7 := Cl.cell d7
          have l8 := Cl.cell d8
          have l9 := Cl.cell d9
          have l10 := Cl.cell d10
          have l11 := Cl.cell d11
          have l12 := Cl.cell d12
          have hne := Aft.here wr
          clear c0 c1 c2 c3 c4 c5 c6 c7 c8 c9 c10 c11 c12 d0 d1 d2 d3 d4 d5 d6 d7 d8 d9 d10 d11 d12
          go_wp2_with fail
          refine region_all (by kernel_rfl) (by kernel_rfl) ?_
          repeat (go_big_quiet_step ((first | (go_at_call 30; with_reducible exact Calls.cl (HB1.out _)) | (go_at_call 30; with_reducible exact Calls.cl (HB2.out _)) | (go_at_call 29; with_reducible exact Calls.cl (HV.out _)))))
          refine wpQuiet_nil ?_
          intro w3 h3
          have c := HC.out _ h3
          have d := HD.out _ h3
          have HS3 := hid (HS2.out.trans h3)
          have HO3 := hid (HO2.out.still h3)
          have hz3 : w1.heap.size ≤ w3.heap.size := HS3.out.size
          clear h3 hne k0 k1 k2 k3 k4 k5 k6 k7 k8 k9 k10 k11 k12 l0 l1 l2 l3 l4 l5 l6 l7 l8 l9 l10 l11 l12 HS2 HO2 HB1 HB2 HV HC HD HRr
          obtain ⟨p, ep⟩ : ∃ p, x.ou = p := ⟨_, rfl⟩
          obtain ⟨q, eq⟩ : ∃ p, y.ou = p := ⟨_, rfl⟩
          rw [ep] at c HT2
          rw [eq] at d HT2
          clear ep eq
          have HK0 : Hid (two L i k = false → rowB L i (k + 1) = rowB L i k) := hid (fun h => by rw [HRow.out, h]; simp)
          have HK1 : Hid (two L i k = true → allB L i ++ rowB L i (k + 1) = (allB L i ++ rowB L i k) ++ [((i : Int), (k : Int))]) := hid (fun h => by rw [HRow.out, h, List.append_assoc]; rfl)
          cases hp : p == 0 with
          | false =>
            have HK := hid (HK0.out (by rw [HT2.out, hp]; rfl))
            clear HK0 HK1 HT2 HRow
            go_wp2_with fail
            go_roundw
            case rel => exact ⟨k + 1, by omega, by omega, by go_num, by rw [HK.out]; exact HO3.out, HS3.out⟩
            case measure => simp [intOf]; omega
          | true =>
            cases hq : q == 0 with
            | false =>
              have HK := hid (HK0.out (by rw [HT2.out, hp, hq]; rfl))
              clear HK0 HK1 HT2 HRow
              go_wp2_with fail
              go_roundw
              case rel => exact ⟨k + 1, by omega, by omega, by go_num, by rw [HK.out]; exact HO3.out, HS3.out⟩
              case measure => simp [intOf]; omega
            | true =>
              cases b3 with
              | false =>
                have HK := hid (HK0.out (by rw [HT2.out, hp, hq]; rfl))
                clear HK0 HK1 HT2 HRow
                go_wp2_with fail
                go_roundw
                case rel => exact ⟨k + 1, by omega, by omega, by go_num, by rw [HK.out]; exact HO3.out, HS3.out⟩
                case measure => simp [intOf]; omega
              | true =>
                have HK := hid (HK1.out (by rw [HT2.out, hp, hq]; rfl))
                clear HK0 HK1 HT2 HRow
                have A4 := Still.alloc w3 (.cells #[.int .i64 (i : Int), .int .i64 (k : Int)] 47)
                have HS4 := hid (HS3.out.trans A4)
                have HO4 := hid (HO3.out.still A4)
                have HX4 : Hid ((w3.alloc (.cells #[.int .i64 (i : Int), .int .i64 (k : Int)] 47)).heap[w3.heap.size]? = some (.cells #[.int .i64 (i : Int), .int .i64 (k : Int)] 47 (0, 0))) := hid (heap_alloc_new w3 _)
                have HB4 := hid (show w1.heap.size ≤ (w3.alloc (.cells #[.int .i64 (i : Int), .int .i64 (k : Int)] 47)).heap.size by rw [size_alloc]; omega)
                clear A4
                go_wp2_with (at_builtin; refine wpList_appT _ rfl _ _ rfl w1.heap.size w3.heap.size _ (allB L i ++ rowB L i k) (i : Int) (k : Int) rfl rfl HO4.out HX4.out HLn.out HB4.out ?_; intro v' w' ho' hf')
                go_roundw
                case rel => exact ⟨k + 1, by omega, by omega, by go_num, by rw [HK.out]; exact ho', still_appG HS4.out HO4.out hf' (Nat.le_refl _)⟩
                case measure => simp [intOf]; omega
        · have hge2 : ¬ (k : Int) < (n : Int) := by omega
          have HE : Hid (allB L i ++ rowB L i k = allB L (i + 1)) := hid (by rw [allB]; congr; have := HL.out; omega)
          clear hkn
          go_wp2_with fail
          go_roundw
          case rel => exact ⟨i + 1, by omega, by go_num, by rw [← HE.out]; exact HO2.out, HS2.out⟩
          case measure => simp [intOf]; omega
    · have hge : ¬ (i : Int) < (n : Int) := by omega
      have HE : Hid (allB L L.length = allB L i) := hid (by congr; have := HL.out; omega)
      clear hin
      go_wp2_with fail
      go_ret2
      exact ⟨_, rfl, by rw [HE.out]; exact HO2.out.less HZ.out, HS1.out.trans HS2.out⟩
theorem rbodies_any (L : List Mv) (ao : Option Addr) (n cap : Nat) (w : World) (hr : RdG KM w ao n L) : Calls Try.prog 11 #[.slice ao n cap] w fun e w' => ∃ v, e = .returned (.tuple #[v, .int .i64 (err11 (togB L))]) ∧ OwG KT 47 w' w.heap.size v (bod L) ∧ Still w w' := by
  cases ht : togB L with
  | true =>
    have e : bod L = allB L L.length := by unfold bod; rw [ht]; rfl
    rw [e]
    exact rbodies_ok L ao n cap w hr ht
  | false =>
    have HE : Hid (bod L = []) := hid (by unfold bod; rw [ht]; rfl)
    have H := hid (rtog_any L ao n cap w hr)
    rw [ht] at H
    clear ht hr
    go_enter Try.func11, Try.ntmps11
    go_wp2_with fail
    refine H.out.mono ?_
    rintro e w1 ⟨rfl, h1⟩
    have HS1 := hid h1
    clear h1 H
    go_wp2_with fail
    go_ret2
    exact ⟨_, rfl, by rw [HE.out]; exact OwG.nil _ _, HS1.out⟩
end Go.Proofs.Ytpohikhiekmfgaa
