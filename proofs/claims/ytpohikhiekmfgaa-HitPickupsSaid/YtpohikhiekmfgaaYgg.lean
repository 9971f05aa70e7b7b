/- The program's Shots. -/
import Derived.Test.YtpohikhiekmfgaaYgf
namespace Go.Proofs.Ytpohikhiekmfgaa
open Go Go.RowKit
open Pu Gp Ap Vp Np Za Ka Ja Ygp
set_option maxRecDepth 100000

set_option maxHeartbeats 4000000 in
theorem hshots_ok (L : List Mv) (S : List Sh) (ao : Option Addr) (n cap : Nat) (so : Option Addr) (r scap : Nat) (w : World) (hr : RdG KM w ao n L) (hs : RdG KS w so r S) (ht : togB L = true) (hf : flo S = true) : Calls Try.prog 17 #[.slice ao n cap, .slice so r scap] w fun e w' => ∃ v, e = .returned (.tuple #[v, .int .i64 0]) ∧ OwG KT 47 w' w.heap.size v (rowS (fun i k => hS L (ss S i) k) n r) ∧ Still w w' := by
  have HL := hid hr.1
  have hn6 : n ≤ 6 := by have := (togB_iff.1 ht).1; have := hr.1; omega
  have hr48 : r ≤ 48 := by have := (flo_iff.1 hf).1; have := hs.1; omega
  have A0 := Still.alloc w (.cells #[.slice ao n cap] 22)
  have H := hid (htog_any L ao n cap _ (hr.still A0))
  have H2 := hid (fun u hu => hfly_any S so r scap u hu)
  have HR := hid (hr.still A0)
  have HRS := hid (hs.still A0)
  have HA0 := hid A0
  have HBx := hid (Boxed.new w 22 (.slice ao n cap))
  have c00 := HBx.out.cell
  rw [ht] at H
  rw [hf] at H2
  clear hr ht hs hf A0
  obtain ⟨P, eP⟩ : ∃ P, (fun i k => hS L (ss S i) k) = P := ⟨_, rfl⟩
  have HP := hid (show ∀ i, P i = hS L (ss S i) from fun i => by rw [← eP])
  rw [eP]
  clear eP
  go_enter Try.func17, Try.ntmps17
  go_wp2_with fail
  refine H.out.mono ?_
  rintro e w0 ⟨rfl, h0⟩
  have HS0 := hid h0
  clear h0 H c00
  go_wp2_with fail
  refine (H2.out _ (HRS.out.still HS0.out)).mono ?_
  rintro e w1 ⟨rfl, h1⟩
  have HS01 := hid (HS0.out.trans h1)
  have HS1 := hid (HA0.out.trans HS01.out)
  have HZ := hid HS1.out.size
  have HBx1 := hid (boxed_still HBx.out HS01.out)
  have HR1 := hid (HR.out.still HS01.out)
  have HRS1 := hid (HRS.out.still HS01.out)
  clear h1 H2 HS0 HS01 HBx HR HRS HA0
  go_wp2_with fail
  go_loopw [6, 22] (fun v u wr => ∃ i : Nat, i ≤ r ∧ u = .int .i64 (i : Int) ∧ OwG KT 47 wr w1.heap.size v (rowS P n i) ∧ Still w1 wr) (fun _ u _ => r - (intOf u).toNat)
  case atStart => exact ⟨0, by omega, rfl, OwG.nil _ _, Fr.refl _ _⟩
  case round =>
    obtain ⟨i, hi, rfl, ho, hs⟩ := hrel
    have HS2 := hid hs
    have HO2 := hid ho
    clear hs
    obtain ⟨ao2, cap2, rfl, _⟩ := ho.slice
    clear ho
    have HLn := hid (show (rowS P n i).length ≤ 100000 by have := rowS_len P n i; omega)
    obtain ⟨m2, em2⟩ : ∃ m, (rowS P n i).length = m := ⟨_, rfl⟩
    rw [em2] at HO2 ⊢
    clear em2
    by_cases hin : i < r
    · have hlt : (i : Int) < (r : Int) := by omega
      have HRow : Hid (rowS P n (i + 1) = rowS P n i ++ (if 0 ≤ lo (P i) 0 n then [((i : Int), lo (P i) 0 n)] else [])) := hid rfl
      have HRs := hid (HRS1.out.still HS2.out)
      obtain ⟨B2, o2, rfl⟩ := HRs.out.at (by omega)
      obtain ⟨s0, s1, s2, s3, s4, s5, s6, s7⟩ := rdS HRs.out hin
      have HPi := hid (HP.out i)
      obtain ⟨y, ey⟩ : ∃ x, ss S i = x := ⟨_, rfl⟩
      rw [ey] at s0 s1 s2 s3 s4 s5 s6 s7 HPi
      clear ey
      have A2 := Still.alloc wr (.cells (scs y) 49)
      have HA2 := hid A2
      have p2 := newS_sb wr y
      have k2 := boxed_still (boxed_still HBx1.out HS2.out) A2
      have q2 := k2.cell
      have r2 := (HR1.out.still HS2.out).still A2
      have HF := hid (hfirst_any L (soS L y) ao n cap _ wr.heap.size w.heap.size (.inl rfl) _ r2 (fun j u hj hu => hsc_any L y ao n cap _ _ j u (r2.still hu) (p2.still hu) (boxed_still k2 hu) hj))
      rw [soS_in, ← HPi.out] at HF
      obtain ⟨z, ez⟩ : ∃ z, lo (P i) 0 n = z := ⟨_, rfl⟩
      rw [ez] at HF HRow
      clear A2 p2 k2 r2 ez HRs
      go_wp2_with fail
      refine HF.out.mono ?_
      rintro e w2 ⟨rfl, h2⟩
      have HS3 := hid ((HS2.out.trans HA2.out).trans h2)
      have HO3 := hid ((HO2.out.still HA2.out).still h2)
      clear h2 HF HS2 HO2 HA2 s0 s1 s2 s3 s4 s5 s6 s7 q2
      by_cases hz0 : 0 ≤ z
      · have hd : decide (0 ≤ z) = true := by simpa using hz0
        have HK : Hid (rowS P n (i + 1) = rowS P n i ++ [((i : Int), z)]) := hid (by rw [HRow.out, if_pos hz0])
        have hfz : fst1 z = z := if_pos hz0
        rw [hfz, hd]
        have A4 := Still.alloc w2 (.cells #[.int .i64 (i : Int), .int .i64 z] 47)
        have HS4 := hid (HS3.out.trans A4)
        have HO4 := hid (HO3.out.still A4)
        have HX4 : Hid ((w2.alloc (.cells #[.int .i64 (i : Int), .int .i64 z] 47)).heap[w2.heap.size]? = some (.cells #[.int .i64 (i : Int), .int .i64 z] 47 (0, 0))) := hid (heap_alloc_new w2 _)
        have HB4 := hid (show w1.heap.size ≤ (w2.alloc (.cells #[.int .i64 (i : Int), .int .i64 z] 47)).heap.size by rw [size_alloc]; have := HS3.out.size; omega)
        clear A4 HRow hfz hd
        go_wp2_with (at_builtin; refine wpList_appT _ rfl _ _ rfl w1.heap.size w2.heap.size _ (rowS P n i) (i : Int) z rfl rfl HO4.out HX4.out HLn.out HB4.out ?_; intro v' w' ho' hf')
        go_roundw
        case rel => exact ⟨i + 1, by omega, by go_num, by rw [HK.out]; exact ho', still_appG HS4.out HO4.out hf' (Nat.le_refl _)⟩
        case measure => first | (simp [intOf]; done) | (simp [intOf]; omega)
      · have hd : decide (0 ≤ z) = false := by simpa using hz0
        have HK : Hid (rowS P n (i + 1) = rowS P n i) := hid (by rw [HRow.out, if_neg hz0, List.append_nil])
        rw [hd]
        obtain ⟨z2, ez2⟩ : ∃ z2, fst1 z = z2 := ⟨_, rfl⟩
        rw [ez2]
        clear HRow ez2 hd hz0
        go_wp2_with fail
        go_roundw
        case rel => exact ⟨i + 1, by omega, by go_num, by rw [HK.out]; exact HO3.out, HS3.out⟩
        case measure => first | (simp [intOf]; done) | (simp [intOf]; omega)
    · have hge : ¬ (i : Int) < (r : Int) := by omega
      have HE : Hid (rowS P n r = rowS P n i) := hid (by congr; omega)
      clear hin
      go_wp2_with fail
      go_ret2
      exact ⟨_, rfl, by rw [HE.out]; exact HO2.out.less HZ.out, HS1.out.trans HS2.out⟩
set_option maxHeartbeats 2000000 in
theorem hshots_any (L : List Mv) (S : List Sh) (ao : Option Addr) (n cap : Nat) (so : Option Addr) (r scap : Nat) (w : World) (hr : RdG KM w ao n L) (hs : RdG KS w so r S) : Calls Try.prog 17 #[.slice ao n cap, .slice so r scap] w fun e w' => ∃ v, e = .returned (.tuple #[v, .int .i64 (err11 (shoE L S))]) ∧ OwG KT 47 w' w.heap.size v (sho L S) ∧ Still w w' := by
  cases he : shoE L S with
  | true =>
    have h := he
    unfold shoE at h
    rw [Bool.and_eq_true] at h
    have e : sho L S = rowS (fun i k => hS L (ss S i) k) n r := by unfold sho; rw [he, hr.1, hs.1]; rfl
    rw [e]
    exact hshots_ok L S ao n cap so r scap w hr hs h.1 h.2
  | false =>
    have HE : Hid (sho L S = []) := hid (by unfold sho; rw [he]; rfl)
    have A0 := Still.alloc w (.cells #[.slice ao n cap] 22)
    have H := hid (htog_any L ao n cap _ (hr.still A0))
    have H2 := hid (fun u hu => hfly_any S so r scap u hu)
    have HRS := hid (hs.still A0)
    have HA0 := hid A0
    have c00 := (Boxed.new w 22 (.slice ao n cap)).cell
    have HB : Hid ((togB L && flo S) = false) := hid he
    obtain ⟨a, ea⟩ : ∃ b, togB L = b := ⟨_, rfl⟩
    obtain ⟨b, eb⟩ : ∃ b, flo S = b := ⟨_, rfl⟩
    rw [ea] at H HB
    rw [eb] at H2 HB
    clear he hr hs ea eb A0
    cases a with
    | false =>
      go_enter Try.func17, Try.ntmps17
      go_wp2_with fail
      refine H.out.mono ?_
      rintro e w1 ⟨rfl, h1⟩
      have HS1 := hid (HA0.out.trans h1)
      clear h1 H c00
      go_wp2_with fail
      go_ret2
      exact ⟨_, rfl, by rw [HE.out]; exact OwG.nil _ _, HS1.out⟩
    | true =>
      cases b with
      | true => exact absurd HB.out (by decide)
      | false =>
        go_enter Try.func17, Try.ntmps17
        go_wp2_with fail
        refine H.out.mono ?_
        rintro e w1 ⟨rfl, h1⟩
        have HS1 := hid (HA0.out.trans h1)
        have HRS1 := hid (HRS.out.still h1)
        clear h1 H c00
        go_wp2_with fail
        refine (H2.out _ HRS1.out).mono ?_
        rintro e w2 ⟨rfl, h2⟩
        have HS2 := hid (HS1.out.trans h2)
        clear h2 H2
        go_wp2_with fail
        go_ret2
        exact ⟨_, rfl, by rw [HE.out]; exact OwG.nil _ _, HS2.out⟩
end Go.Proofs.Ytpohikhiekmfgaa
