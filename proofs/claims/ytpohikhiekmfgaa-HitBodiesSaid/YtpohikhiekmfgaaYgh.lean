/- The program's Pickups. -/
import Derived.Test.YtpohikhiekmfgaaYgc
import Derived.Test.YtpohikhiekmfgaaYv
namespace Go.Proofs.Ytpohikhiekmfgaa
open Go Go.RowKit
open Pu Gp Ap Vp Np Za Ka Ja Ygp
set_option maxRecDepth 100000

/-- is a spot at a place -/
def soP (L : List Mv) (p : Int × Int) (k : Nat) : Bool := ov (mm L k) p.1 p.2 768
theorem soP_in (L : List Mv) (p : Int × Int) : inSo L (soP L p) = hP L p := rfl
set_option maxHeartbeats 2000000 in
theorem hpc_any (L : List Mv) (s : Int × Int) (ao : Option Addr) (n cap p q i : Nat) (u : World) (hr : RdG KM u ao n L) (hq : Boxed u p 22 (.slice ao n cap)) (hb : Bb u q (subf s.1 768) (subf s.2 768) (addf s.1 768) (addf s.2 768)) (hi : i < n) :
    Calls Try.prog 39 #[.int .i64 (i : Int), .pointer (some ⟨p, 0, none⟩), .pointer (some ⟨q, 0, none⟩)] u fun e w' => e = .returned (.bool (soP L s i)) ∧ Still u w' := by
  have hlt : (i : Int) < (n : Int) := by omega
  obtain ⟨B, o, rfl⟩ := hr.at (by omega)
  obtain ⟨c0, c1, c2, c3, c4, c5, c6, c7, c8, c9, c10, c11, c12⟩ := rdM hr hi
  obtain ⟨s0, s1, s2, s3, sf⟩ := hb.cells
  have cq := hq.cell
  have HB1 := hid (fun w => hbody_any (mm L i) w)
  have HT : Hid (soP L s i = ov (mm L i) s.1 s.2 768) := hid rfl
  obtain ⟨X, eX⟩ : ∃ z, mm L i = z := ⟨_, rfl⟩
  rw [eX] at c0 c1 c2 c3 c4 c5 c6 c7 c8 c9 c10 c11 c12 HB1 HT
  clear eX
  have HV := hid (fun w => overlap_any (subf X.ax 1280) (subf X.ay 1280) (addf X.ax 1280) (addf X.ay 1280) (subf s.1 768) (subf s.2 768) (addf s.1 768) (addf s.2 768) w)
  obtain ⟨b3, eb3⟩ : ∃ b, ov X s.1 s.2 768 = b := ⟨_, rfl⟩
  unfold ov at eb3
  rw [show ov X s.1 s.2 768 = b3 from eb3] at HT
  rw [eb3] at HV
  clear eb3
  obtain ⟨x1, e1⟩ : ∃ z, subf X.ax 1280 = z := ⟨_, rfl⟩
  obtain ⟨x2, e2⟩ : ∃ z, subf X.ay 1280 = z := ⟨_, rfl⟩
  obtain ⟨x3, e3⟩ : ∃ z, addf X.ax 1280 = z := ⟨_, rfl⟩
  obtain ⟨x4, e4⟩ : ∃ z, addf X.ay 1280 = z := ⟨_, rfl⟩
  rw [e1, e2, e3, e4] at HB1 HV
  clear e1 e2 e3 e4
  obtain ⟨y1, e1⟩ : ∃ z, subf s.1 768 = z := ⟨_, rfl⟩
  obtain ⟨y2, e2⟩ : ∃ z, subf s.2 768 = z := ⟨_, rfl⟩
  obtain ⟨y3, e3⟩ : ∃ z, addf s.1 768 = z := ⟨_, rfl⟩
  obtain ⟨y4, e4⟩ : ∃ z, addf s.2 768 = z := ⟨_, rfl⟩
  rw [e1] at HV s0
  rw [e2] at HV s1
  rw [e3] at HV s2
  rw [e4] at HV s3
  rw [HT.out]
  clear e1 e2 e3 e4 hr hb hq sf HT
  have g0 := Cl.cell c0
  have g1 := Cl.cell c1
  have g2 := Cl.cell c2
  have g3 := Cl.cell c3
  have g4 := Cl.cell c4
  have g5 := Cl.cell c5
  have g6 := Cl.cell c6
  have g7 := Cl.cell c7
  have g8 := Cl.cell c8
  have g9 := Cl.cell c9
  have g10 := Cl.cell c10
  have g11 := Cl.cell c11
  have g12 := Cl.cell c12
  have gz := Cl.cell cq
  have l0 := Cl.cell s0
  have l1 := Cl.cell s1
  have l2 := Cl.cell s2
  have l3 := Cl.cell s3
  have hne := Aft.here u
  clear c0 c1 c2 c3 c4 c5 c6 c7 c8 c9 c10 c11 c12 s0 s1 s2 s3 cq
  go_enter Try.func39, Try.ntmps39
  go_wp2_with fail
  refine region_all (by kernel_rfl) (by kernel_rfl) ?_
  repeat (go_big_quiet_step ((first | (go_at_call 27; with_reducible exact Calls.cl (HB1.out _)) | (go_at_call 26; with_reducible exact Calls.cl (HV.out _)))))
  refine wpQuiet_nil ?_
  intro w3 h3
  have HS3 := hid h3
  clear h3 hne g0 g1 g2 g3 g4 g5 g6 g7 g8 g9 g10 g11 g12 gz l0 l1 l2 l3
  go_wp2_with fail
  go_ret
  exact ⟨rfl, HS3.out⟩
set_option maxHeartbeats 4000000 in
theorem hpic_ok (L : List Mv) (Q : List Pk) (T : List (Int × Int)) (ao : Option Addr) (n cap : Nat) (po : Option Addr) (r pcap : Nat) (xo : Option Addr) (t tcap : Nat) (w : World) (hr : RdG KM w ao n L) (hq : RdK w po r Q) (htt : RdG KT w xo t T) (hcap : r ≤ pcap) (ht : togB L = true) (hf : MayK Q (t : Int)) : Calls Try.prog 19 #[.slice ao n cap, .slice po r pcap, .slice xo t tcap] w fun e w' => ∃ v, e = .returned (.tuple #[v, .int .i64 0]) ∧ OwG KT 47 w' w.heap.size v (rowS (fun i k => hP L (pp T (pk Q i).sp.toNat) k) n r) ∧ Still w w' := by
  have HL := hid hr.1
  have hn6 : n ≤ 6 := by have := (togB_iff.1 ht).1; have := hr.1; omega
  have hr8 : r ≤ 8 := by have := hf.2.1; have := hq.1; omega
  have ht16 : t ≤ 16 := by have := hf.1; omega
  have HSp := hid (show ∀ i, i < r → 0 ≤ (pk Q i).sp ∧ (pk Q i).sp < (t : Int) from fun i hi => (hf.2.2 i (by rw [hq.1]; exact hi)).2.2.1)
  have A0 := Still.alloc w (.cells #[.slice ao n cap] 22)
  have H := hid (htog_any L ao n cap _ (hr.still A0))
  have H2 := hid (fun u hu => pchk_any Q (t : Int) po r pcap u hu hcap)
  have HR := hid (hr.still A0)
  have HRQ := hid (hq.still A0)
  have HRT := hid (htt.still A0)
  have HA0 := hid A0
  have HBx := hid (Boxed.new w 22 (.slice ao n cap))
  have c00 := HBx.out.cell
  rw [ht] at H
  rw [chkK_yes hf] at H2
  clear hr ht hq htt hf A0 hcap
  obtain ⟨P, eP⟩ : ∃ P, (fun i k => hP L (pp T (pk Q i).sp.toNat) k) = P := ⟨_, rfl⟩
  have HP := hid (show ∀ i, P i = hP L (pp T (pk Q i).sp.toNat) from fun i => by rw [← eP])
  rw [eP]
  clear eP
  go_enter Try.func19, Try.ntmps19
  go_wp2_with fail
  refine H.out.mono ?_
  rintro e w0 ⟨rfl, h0⟩
  have HS0 := hid h0
  clear h0 H c00
  go_wp2_with fail
  refine (H2.out _ (HRQ.out.still HS0.out)).mono ?_
  rintro e w1 ⟨rfl, h1⟩
  have HS01 := hid (HS0.out.trans h1)
  have HS1 := hid (HA0.out.trans HS01.out)
  have HZ := hid HS1.out.size
  have HBx1 := hid (boxed_still HBx.out HS01.out)
  have HR1 := hid (HR.out.still HS01.out)
  have HRQ1 := hid (HRQ.out.still HS01.out)
  have HRT1 := hid (HRT.out.still HS01.out)
  clear h1 H2 HS0 HS01 HBx HR HRQ HRT HA0
  go_wp2_with fail
  go_loopw [8, 27] (fun v u wr => ∃ i : Nat, i ≤ r ∧ u = .int .i64 (i : Int) ∧ OwG KT 47 wr w1.heap.size v (rowS P n i) ∧ Still w1 wr) (fun _ u _ => r - (intOf u).toNat)
  case atStart => exact ⟨0, by omega, rfl, OwG.nil _ _, Fr.refl _ _⟩
  case round =>
    obtain ⟨i, hi, rfl, ho, hs⟩ := hrel
    have HS2 := hid hs
    have HO2 := hid ho
    clear hs
    obtain ⟨ao2, cap2, rfl, _⟩ := ho.slice
    clear ho
    have HLn := hid (show (rowS P n i).length ≤ 100000 by have := rowS_len P n i; omega)
    obtain ⟨m2, em2⟩ : ∃ m, (rowS P n i).length = m := ⟨_, rfl⟩
    rw [em2] at HO2 ⊢
    clear em2
    by_cases hin : i < r
    · have hlt : (i : Int) < (r : Int) := by omega
      have HRow : Hid (rowS P n (i + 1) = rowS P n i ++ (if 0 ≤ lo (P i) 0 n then [((i : Int), lo (P i) 0 n)] else [])) := hid rfl
      have HRq := hid (HRQ1.out.still HS2.out)
      have HRt := hid (HRT1.out.still HS2.out)
      obtain ⟨sp, esp⟩ : ∃ c : Nat, (pk Q i).sp = (c : Int) := ⟨(pk Q i).sp.toNat, by have := (HSp.out i hin).1; omega⟩
      have hspt : sp < t := by have := (HSp.out i hin).2; omega
      have hspl : (sp : Int) < (t : Int) := by omega
      have HPi := hid (HP.out i)
      rw [esp, show ((sp : Int)).toNat = sp by omega] at HPi
      obtain ⟨B2, o2, rfl, hcc⟩ := HRq.out.at (by omega)
      obtain ⟨s0, s1, s2⟩ := hcc i hin
      rw [esp] at s1
      obtain ⟨kn, ekn⟩ : ∃ x, (pk Q i).no = x := ⟨_, rfl⟩
      obtain ⟨kk, ekk⟩ : ∃ x, (pk Q i).kd = x := ⟨_, rfl⟩
      rw [ekn] at s0
      rw [ekk] at s2
      obtain ⟨B3, o3, rfl⟩ := HRt.out.at (by omega)
      obtain ⟨t0, t1⟩ := rdP HRt.out hspt
      obtain ⟨y, ey⟩ : ∃ x, pp T sp = x := ⟨_, rfl⟩
      rw [ey] at t0 t1 HPi
      have ey2 : pp T sp = y := ey
      clear ey ekn ekk esp hcc
      have A2 := Still.alloc wr (.cells (kcs ⟨kn, sp, kk⟩) 57)
      have HA2 := hid A2
      obtain ⟨d0, d1, d2, df⟩ := (newK_kb wr ⟨kn, sp, kk⟩).cells
      obtain ⟨u0, u1⟩ := rdP (HRt.out.still A2) hspt
      rw [ey2] at u0 u1
      clear ey2
      have HA := hid (fun w => around_any y.1 y.2 768 w)
      rw [c768] at HA
      obtain ⟨x1, x2⟩ := y
      simp only at t0 t1 u0 u1 HA HPi
      have HSo := hid (fun k u (hb : Bb u k (subf x1 768) (subf x2 768) (addf x1 768) (addf x2 768)) (hq : Boxed u w.heap.size 22 (.slice ao n cap)) (hr : RdG KM u ao n L) => hfirst_any L (soP L (x1, x2)) ao n cap _ w.heap.size k (.inr rfl) u hr (fun j v hj hv => hpc_any L (x1, x2) ao n cap _ _ j v (hr.still hv) (boxed_still hq hv) (hb.still hv) hj))
      rw [soP_in, ← HPi.out] at HSo
      obtain ⟨z, ez⟩ : ∃ z, lo (P i) 0 n = z := ⟨_, rfl⟩
      rw [ez] at HSo HRow
      obtain ⟨y1, e1⟩ : ∃ z, subf x1 768 = z := ⟨_, rfl⟩
      obtain ⟨y2, e2⟩ : ∃ z, subf x2 768 = z := ⟨_, rfl⟩
      obtain ⟨y3, e3⟩ : ∃ z, addf x1 768 = z := ⟨_, rfl⟩
      obtain ⟨y4, e4⟩ : ∃ z, addf x2 768 = z := ⟨_, rfl⟩
      rw [e1, e2, e3, e4] at HA HSo
      clear e1 e2 e3 e4 A2 ez HRt HRq
      go_wp2_with fail
      refine (HA.out _).mono ?_
      rintro e w3 ⟨rfl, h3⟩
      have A3 := Still.alloc w3 (.cells #[.int .i64 y1, .int .i64 y2, .int .i64 y3, .int .i64 y4] 52)
      have hs3 := (HA2.out.trans h3).trans A3
      have k3 := boxed_still (boxed_still HBx1.out HS2.out) hs3
      have q3 := k3.cell
      have HF := hid (HSo.out _ _ (newB_bb w3 y1 y2 y3 y4) k3 ((HR1.out.still HS2.out).still hs3))
      have HS33 := hid (HS2.out.trans hs3)
      have HO33 := hid (HO2.out.still hs3)
      clear h3 A3 hs3 k3 HA HSo HA2 HS2 HO2 s0 s1 s2 t0 t1 u0 u1 d0 d1 d2 df
      go_wp2_with fail
      refine HF.out.mono ?_
      rintro e w4 ⟨rfl, h4⟩
      have HS3 := hid (HS33.out.trans h4)
      have HO3 := hid (HO33.out.still h4)
      clear h4 HF HS33 HO33 q3
      by_cases hz0 : 0 ≤ z
      · have hd : decide (0 ≤ z) = true := by simpa using hz0
        have HK : Hid (rowS P n (i + 1) = rowS P n i ++ [((i : Int), z)]) := hid (by rw [HRow.out, if_pos hz0])
        have hfz : fst1 z = z := if_pos hz0
        rw [hfz, hd]
        have A4 := Still.alloc w4 (.cells #[.int .i64 (i : Int), .int .i64 z] 47)
        have HS4 := hid (HS3.out.trans A4)
        have HO4 := hid (HO3.out.still A4)
        have HX4 : Hid ((w4.alloc (.cells #[.int .i64 (i : Int), .int .i64 z] 47)).heap[w4.heap.size]? = some (.cells #[.int .i64 (i : Int), .int .i64 z] 47 (0, 0))) := hid (heap_alloc_new w4 _)
        have HB4 := hid (show w1.heap.size ≤ (w4.alloc (.cells #[.int .i64 (i : Int), .int .i64 z] 47)).heap.size by rw [size_alloc]; have := HS3.out.size; omega)
        clear A4 HRow hfz hd
        go_wp2_with (at_builtin; refine wpList_appT _ rfl _ _ rfl w1.heap.size w4.heap.size _ (rowS P n i) (i : Int) z rfl rfl HO4.out HX4.out HLn.out HB4.out ?_; intro v' w' ho' hf')
        go_roundw
        case rel => exact ⟨i + 1, by omega, by go_num, by rw [HK.out]; exact ho', still_appG HS4.out HO4.out hf' (Nat.le_refl _)⟩
        case measure => first | (simp [intOf]; done) | (simp [intOf]; omega)
      · have hd : decide (0 ≤ z) = false := by simpa using hz0
        have HK : Hid (rowS P n (i + 1) = rowS P n i) := hid (by rw [HRow.out, if_neg hz0, List.append_nil])
        rw [hd]
        obtain ⟨z2, ez2⟩ : ∃ z2, fst1 z = z2 := ⟨_, rfl⟩
        rw [ez2]
        clear HRow ez2 hd hz0
        go_wp2_with fail
        go_roundw
        case rel => exact ⟨i + 1, by omega, by go_num, by rw [HK.out]; exact HO3.out, HS3.out⟩
        case measure => first | (simp [intOf]; done) | (simp [intOf]; omega)
    · have hge : ¬ (i : Int) < (r : Int) := by omega
      have HE : Hid (rowS P n r = rowS P n i) := hid (by congr; omega)
      clear hin
      go_wp2_with fail
      go_ret2
      exact ⟨_, rfl, by rw [HE.out]; exact HO2.out.less HZ.out, HS1.out.trans HS2.out⟩
set_option maxHeartbeats 2000000 in
theorem hpic_any (L : List Mv) (Q : List Pk) (T : List (Int × Int)) (ao : Option Addr) (n cap : Nat) (po : Option Addr) (r pcap : Nat) (xo : Option Addr) (t tcap : Nat) (w : World) (hr : RdG KM w ao n L) (hq : RdK w po r Q) (htt : RdG KT w xo t T) (hcap : r ≤ pcap) : Calls Try.prog 19 #[.slice ao n cap, .slice po r pcap, .slice xo t tcap] w fun e w' => ∃ v, e = .returned (.tuple #[v, .int .i64 (err11 (picE L Q T))]) ∧ OwG KT 47 w' w.heap.size v (pic L Q T) ∧ Still w w' := by
  have htl : T.length = t := htt.1
  cases he : picE L Q T with
  | true =>
    have h := he
    unfold picE at h
    rw [Bool.and_eq_true, htl] at h
    have e : pic L Q T = rowS (fun i k => hP L (pp T (pk Q i).sp.toNat) k) n r := by unfold pic; rw [he, hr.1, hq.1]; rfl
    rw [e]
    exact hpic_ok L Q T ao n cap po r pcap xo t tcap w hr hq htt hcap h.1 (mayK_iff.1 h.2)
  | false =>
    have HE : Hid (pic L Q T = []) := hid (by unfold pic; rw [he]; rfl)
    have A0 := Still.alloc w (.cells #[.slice ao n cap] 22)
    have H := hid (htog_any L ao n cap _ (hr.still A0))
    have H2 := hid (fun u hu => pchk_any Q (t : Int) po r pcap u hu hcap)
    have HRQ := hid (hq.still A0)
    have HA0 := hid A0
    have c00 := (Boxed.new w 22 (.slice ao n cap)).cell
    have ht48 := htt.2.1
    have HB : Hid ((togB L && mayK Q (t : Int)) = false) := hid (by rw [← htl]; exact he)
    obtain ⟨a, ea⟩ : ∃ b, togB L = b := ⟨_, rfl⟩
    obtain ⟨E, eE⟩ : ∃ E, chkK Q (t : Int) = E := ⟨_, rfl⟩
    have HE2 : Hid (a = true → E = 100) := hid (fun h => by
      have hb := HB.out
      rw [ea, h, Bool.true_and] at hb
      rw [← eE]
      unfold chkK
      rw [hb]
      rfl)
    rw [ea] at H
    rw [eE] at H2
    clear he hr hq htt ea eE htl HB A0
    cases a with
    | false =>
      clear HE2
      go_enter Try.func19, Try.ntmps19
      go_wp2_with fail
      refine H.out.mono ?_
      rintro e w1 ⟨rfl, h1⟩
      have HS1 := hid (HA0.out.trans h1)
      clear h1 H c00
      go_wp2_with fail
      go_ret2
      exact ⟨_, rfl, by rw [HE.out]; exact OwG.nil _ _, HS1.out⟩
    | true =>
      obtain rfl := HE2.out rfl
      clear HE2
      go_enter Try.func19, Try.ntmps19
      go_wp2_with fail
      refine H.out.mono ?_
      rintro e w1 ⟨rfl, h1⟩
      have HS1 := hid (HA0.out.trans h1)
      have HRQ1 := hid (HRQ.out.still h1)
      clear h1 H c00
      go_wp2_with fail
      refine (H2.out _ HRQ1.out).mono ?_
      rintro e w2 ⟨rfl, h2⟩
      have HS2 := hid (HS1.out.trans h2)
      clear h2 H2
      go_wp2_with fail
      go_ret2
      exact ⟨_, rfl, by rw [HE.out]; exact OwG.nil _ _, HS2.out⟩
end Go.Proofs.Ytpohikhiekmfgaa
