/- The document's Pickups. -/
import Derived.Test.YtpohikhiekmfgaaJc
import Derived.Test.YtpohikhiekmfgaaKc
namespace Go.Proofs.Ytpohikhiekmfgaa
open Go.RowKit
open Pu Gp Ap Vp Np Za Ka Ja
set_option maxRecDepth 100000

set_option maxHeartbeats 4000000 in
theorem rpic_ok (L : List Mv) (Q : List Pk) (T : List (Int × Int)) (ao : Option Addr) (n cap : Nat) (po : Option Addr) (r pcap : Nat) (xo : Option Addr) (t tcap : Nat) (w : World) (hr : RdG KM w ao n L) (hq : RdK w po r Q) (htt : RdG KT w xo t T) (ht : togB L = true) (hf : MayK Q (t : Int)) : Calls Try.prog 20 #[.slice ao n cap, .slice po r pcap, .slice xo t tcap] w fun e w' => ∃ v, e = .returned (.tuple #[v, .int .i64 0]) ∧ OwG KT 47 w' w.heap.size v (rowS (fun i k => hP L (pp T (pk Q i).sp.toNat) k) n r) ∧ Still w w' := by
  have HL := hid hr.1
  have HR := hid hr
  have HRQ := hid hq
  have HRT := hid htt
  have hn6 : n ≤ 6 := by have := (togB_iff.1 ht).1; have := hr.1; omega
  have hr8 : r ≤ 8 := by have := hf.2.1; have := hq.1; omega
  have ht16 : t ≤ 16 := by have := hf.1; omega
  have HSp := hid (show ∀ i, i < r → 0 ≤ (pk Q i).sp ∧ (pk Q i).sp < (t : Int) from fun i hi => (hf.2.2 i (by rw [hq.1]; exact hi)).2.2.1)
  have H := hid (rtog_any L ao n cap w hr)
  have H2 := hid (fun u hu => rchk10_any Q (t : Int) po r pcap u hu)
  rw [ht] at H
  rw [chkK_yes hf] at H2
  clear hr ht hq htt hf
  obtain ⟨P, eP⟩ : ∃ P, (fun i k => hP L (pp T (pk Q i).sp.toNat) k) = P := ⟨_, rfl⟩
  have HP := hid (show ∀ i k, P i k = hP L (pp T (pk Q i).sp.toNat) k from fun i k => by rw [← eP])
  rw [eP]
  clear eP
  go_enter Try.func20, Try.ntmps20
  go_wp2_with fail
  refine H.out.mono ?_
  rintro e w0 ⟨rfl, h0⟩
  have HS0 := hid h0
  clear h0 H
  go_wp2_with fail
  refine (H2.out _ (HRQ.out.still HS0.out)).mono ?_
  rintro e w1 ⟨rfl, h1⟩
  have HS1 := hid (HS0.out.trans h1)
  have HZ := hid HS1.out.size
  clear h1 H2 HS0
  go_wp2_with fail
  go_loopw [10, 11] (fun v u wr => ∃ i : Nat, i ≤ r ∧ u = .int .i64 (i : Int) ∧ OwG KT 47 wr w1.heap.size v (rowS P n i) ∧ Still w1 wr) (fun _ u _ => r - (intOf u).toNat)
  case atStart => exact ⟨0, by omega, rfl, OwG.nil _ _, Fr.refl _ _⟩
  case round =>
    obtain ⟨i, hi, rfl, ho, hs⟩ := hrel
    have HS2 := hid hs
    have HO2 := hid ho
    clear hs
    obtain ⟨ao2, cap2, rfl, _⟩ := ho.slice
    clear ho
    have HLn := hid (show (rowS P n i).length ≤ 100000 by have := rowS_len P n i; omega)
    obtain ⟨m2, em2⟩ : ∃ m, (rowS P n i).length = m := ⟨_, rfl⟩
    rw [em2] at HO2 ⊢
    clear em2
    by_cases hin : i < r
    · have hlt : (i : Int) < (r : Int) := by omega
      have HRow : Hid (rowS P n (i + 1) = rowS P n i ++ (if 0 ≤ lo (P i) 0 n then [((i : Int), lo (P i) 0 n)] else [])) := hid rfl
      have HRq := hid ((HRQ.out.still HS1.out).still HS2.out)
      have HRt := hid ((HRT.out.still HS1.out).still HS2.out)
      obtain ⟨sp, esp⟩ : ∃ c : Nat, (pk Q i).sp = (c : Int) := ⟨(pk Q i).sp.toNat, by have := (HSp.out i hin).1; omega⟩
      have hspt : sp < t := by have := (HSp.out i hin).2; omega
      have hspi : (sp : Int) < (t : Int) := by omega
      obtain ⟨B2, o2, rfl⟩ : ∃ B o, po = some ⟨B, o, none⟩ := by
        obtain ⟨B, o, e, _⟩ := HRq.out.at (by omega)
        exact ⟨B, o, e⟩
      obtain ⟨B3, o3, rfl⟩ := HRt.out.at (by omega)
      obtain ⟨_, q1, _⟩ := HRq.out.get hin
      obtain ⟨t0, t1⟩ := rdP HRt.out hspt
      rw [esp] at q1
      have HPi : Hid (∀ k, P i k = (((mm L k).ou == 0) && ov (mm L k) (pp T sp).1 (pp T sp).2 768)) := hid (fun k => by rw [HP.out i k, esp, Int.toNat_natCast]; rfl)
      have HA := hid (fun w => raround_any (pp T sp).1 (pp T sp).2 768 w)
      rw [c768] at HA
      obtain ⟨px, ex⟩ : ∃ z, (pp T sp).1 = z := ⟨_, rfl⟩
      obtain ⟨py, ey⟩ : ∃ z, (pp T sp).2 = z := ⟨_, rfl⟩
      rw [ex] at t0 HPi HA
      rw [ey] at t1 HPi HA
      clear esp ex ey
      have HOv : Hid (∀ k, ov (mm L k) px py 768 = mt (subf (mm L k).ax 1280) (subf (mm L k).ay 1280) (addf (mm L k).ax 1280) (addf (mm L k).ay 1280) (subf px 768) (subf py 768) (addf px 768) (addf py 768)) := hid (fun k => rfl)
      obtain ⟨y1, e1⟩ : ∃ z, subf px 768 = z := ⟨_, rfl⟩
      obtain ⟨y2, e2⟩ : ∃ z, subf py 768 = z := ⟨_, rfl⟩
      obtain ⟨y3, e3⟩ : ∃ z, addf px 768 = z := ⟨_, rfl⟩
      obtain ⟨y4, e4⟩ : ∃ z, addf py 768 = z := ⟨_, rfl⟩
      rw [e1, e2, e3, e4] at HA HOv
      clear e1 e2 e3 e4
      go_wp2_with fail
      refine (HA.out _).mono ?_
      rintro e w2 ⟨rfl, h2⟩
      have A2 := Still.alloc w2 (.cells #[.int .i64 y1, .int .i64 y2, .int .i64 y3, .int .i64 y4] 52)
      have bb := newB_bb w2 y1 y2 y3 y4
      have HS3 := hid ((HS2.out.trans h2).trans A2)
      have HO3 := hid ((HO2.out.still h2).still A2)
      clear h2 A2 HS2 HO2 q1 t0 t1 HA HRq HRt
      obtain ⟨g, eg⟩ : ∃ g, w2.heap.size = g := ⟨_, rfl⟩
      have HBB : Hid (Bb (w2.alloc (.cells #[.int .i64 y1, .int .i64 y2, .int .i64 y3, .int .i64 y4] 52)) g y1 y2 y3 y4) := hid (by rw [← eg]; exact bb)
      clear bb
      go_wp2_with fail
      clear eg
      go_loopw [12, 14] (fun v u wr => ∃ j : Nat, j ≤ n ∧ v = .int .i64 (lo (P i) j (n - j)) ∧ u = .int .i64 ((j : Int) - 1) ∧ Bb wr g y1 y2 y3 y4 ∧ OwG KT 47 wr w1.heap.size (.slice ao2 m2 cap2) (rowS P n i) ∧ Still w1 wr) (fun _ u _ => (intOf u + 1).toNat)
      case atStart => exact ⟨n, Nat.le_refl _, by rw [Nat.sub_self]; rfl, by go_num, HBB.out, HO3.out, HS3.out⟩
      case round =>
        clear HO3 HS3 HBB
        obtain ⟨j, hj, rfl, rfl, bb, ho, hs⟩ := hrel
        have HS2 := hid hs
        have HO2 := hid ho
        clear hs ho
        by_cases hj0 : 0 < j
        · obtain ⟨k, rfl⟩ : ∃ k, j = k + 1 := ⟨j - 1, by omega⟩
          rw [show ((k + 1 : Nat) : Int) - 1 = (k : Int) by omega]
          have hkn : k < n := by omega
          have hlt2 : (k : Int) < (n : Int) := by omega
          have HLo := hid (lo_down (P i) hkn)
          obtain ⟨at0, eat⟩ : ∃ z, lo (P i) (k + 1) (n - (k + 1)) = z := ⟨_, rfl⟩
          rw [eat] at HLo ⊢
          clear eat
          have HRr := hid ((HR.out.still HS1.out).still HS2.out)
          obtain ⟨B, o, rfl⟩ := HRr.out.at (by omega)
          obtain ⟨c0, c1, c2, c3, c4, c5, c6, c7, c8, c9, c10, c11, c12⟩ := rdM HRr.out hkn
          obtain ⟨b0, b1, b2, b3, bf⟩ := bb.cells
          have HC := hid (fun u (hu : Still wr u) => (rdM (HRr.out.still hu) hkn).2.2.2.2.2.2.2.2.2.2.2.1)
          have HB1 := hid (fun w => rbody_any (mm L k) w)
          have HT2 := hid (HPi.out k)
          rw [HOv.out k] at HT2
          obtain ⟨x, ex⟩ : ∃ x, mm L k = x := ⟨_, rfl⟩
          rw [ex] at c0 c1 c2 c3 c4 c5 c6 c7 c8 c9 c10 c11 c12 HC HB1 HT2
          clear ex
          have HV := hid (fun w => roverlap_any (subf x.ax 1280) (subf x.ay 1280) (addf x.ax 1280) (addf x.ay 1280) y1 y2 y3 y4 w)
          obtain ⟨bo, ebo⟩ : ∃ b, mt (subf x.ax 1280) (subf x.ay 1280) (addf x.ax 1280) (addf x.ay 1280) y1 y2 y3 y4 = b := ⟨_, rfl⟩
          rw [ebo] at HV HT2
          clear ebo
          obtain ⟨x1, e1⟩ : ∃ z, subf x.ax 1280 = z := ⟨_, rfl⟩
          obtain ⟨x2, e2⟩ : ∃ z, subf x.ay 1280 = z := ⟨_, rfl⟩
          obtain ⟨x3, e3⟩ : ∃ z, addf x.ax 1280 = z := ⟨_, rfl⟩
          obtain ⟨x4, e4⟩ : ∃ z, addf x.ay 1280 = z := ⟨_, rfl⟩
          rw [e1, e2, e3, e4] at HB1 HV
          clear e1 e2 e3 e4
          have k0 := Cl.cell c0
          have k1 := Cl.cell c1
          have k2 := Cl.cell c2
          have k3 := Cl.cell c3
          have k4 := Cl.cell c4
          have k5 := Cl.cell c5
          have k6 := Cl.cell c6
          have k7 := Cl.cell c7
          have k8 := Cl.cell c8
          have k9 := Cl.cell c9
          have k10 := Cl.cell c10
          have k11 := Cl.cell c11
          have k12 := Cl.cell c12
          have l0 := Cl.cell b0
          have l1 := Cl.cell b1
          have l2 := Cl.cell b2
          have l3 := Cl.cell b3
          have hne := Aft.here wr
          clear c0 c1 c2 c3 c4 c5 c6 c7 c8 c9 c10 c11 c12 b0 b1 b2 b3 bf
          go_wp2_with fail
          refine region_all (by kernel_rfl) (by kernel_rfl) ?_
          repeat (go_big_quiet_step ((first | (go_at_call 30; with_reducible exact Calls.cl (HB1.out _)) | (go_at_call 29; with_reducible exact Calls.cl (HV.out _)))))
          refine wpQuiet_nil ?_
          intro w3 h3
          have c := HC.out _ h3
          have HS3 := hid (HS2.out.trans h3)
          have HO3 := hid (HO2.out.still h3)
          have HBB := hid (bb.still h3)
          clear h3 hne k0 k1 k2 k3 k4 k5 k6 k7 k8 k9 k10 k11 k12 l0 l1 l2 l3 HS2 HO2 HB1 HV HC HRr bb
          obtain ⟨p, ep⟩ : ∃ p, x.ou = p := ⟨_, rfl⟩
          rw [ep] at c HT2
          clear ep
          have HK0 : Hid (P i k = false → lo (P i) k (n - k) = at0) := hid (fun h => by rw [HLo.out, h]; rfl)
          have HK1 : Hid (P i k = true → lo (P i) k (n - k) = (k : Int)) := hid (fun h => by rw [HLo.out, h]; rfl)
          cases hp : p == 0 with
          | false =>
            have HK := hid (HK0.out (by rw [HT2.out, hp]; rfl))
            clear HK0 HK1 HT2 HLo
            go_wp2_with fail
            go_roundw
            case rel => exact ⟨k, by omega, by rw [HK.out], by go_num, HBB.out, HO3.out, HS3.out⟩
            case measure => first | (simp [intOf]; done) | (simp [intOf]; omega)
          | true =>
            cases bo with
            | false =>
              have HK := hid (HK0.out (by rw [HT2.out, hp]; rfl))
              clear HK0 HK1 HT2 HLo
              go_wp2_with fail
              go_roundw
              case rel => exact ⟨k, by omega, by rw [HK.out], by go_num, HBB.out, HO3.out, HS3.out⟩
              case measure => first | (simp [intOf]; done) | (simp [intOf]; omega)
            | true =>
              have HK := hid (HK1.out (by rw [HT2.out, hp]; rfl))
              clear HK0 HK1 HT2 HLo
              go_wp2_with fail
              go_roundw
              case rel => exact ⟨k, by omega, by rw [HK.out], by go_num, HBB.out, HO3.out, HS3.out⟩
              case measure => first | (simp [intOf]; done) | (simp [intOf]; omega)
        · obtain rfl : j = 0 := by omega
          rw [show ((0 : Nat) : Int) - 1 = -1 by omega, Nat.sub_zero]
          obtain ⟨z, ez⟩ : ∃ z, lo (P i) 0 n = z := ⟨_, rfl⟩
          rw [ez] at HRow ⊢
          clear ez hj0 bb
          have hz3 : w1.heap.size ≤ wr.heap.size := HS2.out.size
          by_cases hz0 : 0 ≤ z
          · have hz1 : z ≥ 0 := hz0
            have HK : Hid (rowS P n (i + 1) = rowS P n i ++ [((i : Int), z)]) := hid (by rw [HRow.out, if_pos hz0])
            have A4 := Still.alloc wr (.cells #[.int .i64 (i : Int), .int .i64 z] 47)
            have HS4 := hid (HS2.out.trans A4)
            have HO4 := hid (HO2.out.still A4)
            have HX4 : Hid ((wr.alloc (.cells #[.int .i64 (i : Int), .int .i64 z] 47)).heap[wr.heap.size]? = some (.cells #[.int .i64 (i : Int), .int .i64 z] 47 (0, 0))) := hid (heap_alloc_new wr _)
            have HB4 := hid (show w1.heap.size ≤ (wr.alloc (.cells #[.int .i64 (i : Int), .int .i64 z] 47)).heap.size by rw [size_alloc]; omega)
            clear A4 HRow
            go_wp2_with (at_builtin; refine wpList_appT _ rfl _ _ rfl w1.heap.size wr.heap.size _ (rowS P n i) (i : Int) z rfl rfl HO4.out HX4.out HLn.out HB4.out ?_; intro v' w' ho' hf')
            go_roundw
            case rel => exact ⟨i + 1, by omega, by go_num, by rw [HK.out]; exact ho', still_appG HS4.out HO4.out hf' (Nat.le_refl _)⟩
            case measure => first | (simp [intOf]; done) | (simp [intOf]; omega)
          · have hz1 : ¬ z ≥ 0 := hz0
            have HK : Hid (rowS P n (i + 1) = rowS P n i) := hid (by rw [HRow.out, if_neg hz0, List.append_nil])
            clear HRow
            go_wp2_with fail
            go_roundw
            case rel => exact ⟨i + 1, by omega, by go_num, by rw [HK.out]; exact HO2.out, HS2.out⟩
            case measure => first | (simp [intOf]; done) | (simp [intOf]; omega)
    · have hge : ¬ (i : Int) < (r : Int) := by omega
      have HE : Hid (rowS P n r = rowS P n i) := hid (by congr; omega)
      clear hin
      go_wp2_with fail
      go_ret2
      exact ⟨_, rfl, by rw [HE.out]; exact HO2.out.less HZ.out, HS1.out.trans HS2.out⟩
theorem rpic_any (L : List Mv) (Q : List Pk) (T : List (Int × Int)) (ao : Option Addr) (n cap : Nat) (po : Option Addr) (r pcap : Nat) (xo : Option Addr) (t tcap : Nat) (w : World) (hr : RdG KM w ao n L) (hq : RdK w po r Q) (htt : RdG KT w xo t T) : Calls Try.prog 20 #[.slice ao n cap, .slice po r pcap, .slice xo t tcap] w fun e w' => ∃ v, e = .returned (.tuple #[v, .int .i64 (err11 (picE L Q T))]) ∧ OwG KT 47 w' w.heap.size v (pic L Q T) ∧ Still w w' := by
  have htl := htt.1
  cases he : picE L Q T with
  | true =>
    have h := he
    unfold picE at h
    rw [Bool.and_eq_true, htl] at h
    have e : pic L Q T = rowS (fun i k => hP L (pp T (pk Q i).sp.toNat) k) n r := by unfold pic; rw [he, hr.1, hq.1]; rfl
    rw [e]
    exact rpic_ok L Q T ao n cap po r pcap xo t tcap w hr hq htt h.1 (mayK_iff.1 h.2)
  | false =>
    have HE : Hid (pic L Q T = []) := hid (by unfold pic; rw [he]; rfl)
    have H := hid (rtog_any L ao n cap w hr)
    have H2 := hid (fun u hu => rchk10_any Q (t : Int) po r pcap u hu)
    have HRQ := hid hq
    have ht48 := htt.2.1
    have HB : Hid ((togB L && mayK Q (t : Int)) = false) := hid (by rw [← htl]; exact he)
    obtain ⟨a, ea⟩ : ∃ b, togB L = b := ⟨_, rfl⟩
    obtain ⟨E, eE⟩ : ∃ E, chkK Q (t : Int) = E := ⟨_, rfl⟩
    have HE2 : Hid (a = true → E = 100) := hid (fun h => by
      have hb := HB.out
      rw [ea, h, Bool.true_and] at hb
      rw [← eE]
      unfold chkK
      rw [hb]
      rfl)
    rw [ea] at H
    rw [eE] at H2
    clear he hr hq htt ea eE htl HB
    go_enter Try.func20, Try.ntmps20
    go_wp2_with fail
    refine H.out.mono ?_
    rintro e w1 ⟨rfl, h1⟩
    have HS1 := hid h1
    clear h1 H
    go_wp2_with fail
    refine (H2.out _ (HRQ.out.still HS1.out)).mono ?_
    rintro e w2 ⟨rfl, h2⟩
    have HS2 := hid (HS1.out.trans h2)
    clear h2 H2 HS1
    cases a with
    | false =>
      clear HE2
      go_wp2_with fail
      go_ret2
      exact ⟨_, rfl, by rw [HE.out]; exact OwG.nil _ _, HS2.out⟩
    | true =>
      obtain rfl := HE2.out rfl
      clear HE2
      go_wp2_with fail
      go_ret2
      exact ⟨_, rfl, by rw [HE.out]; exact OwG.nil _ _, HS2.out⟩
end Go.Proofs.Ytpohikhiekmfgaa
