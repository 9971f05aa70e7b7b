/- The law LinkAcks, walked. -/
import Derived.Test.YtcmgghfjakphmaaLkq
namespace Go.Proofs.Ytcmgghfjakphmaa
open Go.RowKit
open Wp Vp Lp
set_option maxRecDepth 100000
set_option linter.unusedVariables false
set_option linter.unusedSimpArgs false

/-- the link of the law in memory, all else as it was -/
def Ac (w wr : World) (p mb n t : Nat) : Prop := ∃ ko kc m, Lkk wr w.heap.size p mb ko kc (acL n t m) ∧ Still w wr
theorem fr_new {F : Nat → Prop} {w wr w' : World} {B : Nat} (hs : Still w wr) (hf : Fr F wr w') (hF : ∀ k, F k → w.heap.size ≤ k) : Still w w' := Fr.trans hs hf (fun k hk e => by have := hF k e; omega)
theorem acO_drop {n t j : Nat} (h : t + j < n) : cc ((acO n).drop t) j = acC (t + j) := by
  have := acO_at h
  unfold cc at this ⊢
  rw [List.getD_eq_getElem?_getD, List.getElem?_drop, ← List.getD_eq_getElem?_getD]
  exact this
set_option maxHeartbeats 16000000 in
theorem acks_law (many : Int) (ao : Option Addr) (n2 cap : Nat) (A : List Int) (hm : -9223372036854775808 ≤ many ∧ many ≤ 9223372036854775807) (w : World) (hr : RdG KIn w ao n2 A) (hA : ∀ i, i < n2 → -9223372036854775808 ≤ A.getD i 0 ∧ A.getD i 0 ≤ 9223372036854775807) : Calls Try.prog 4 #[.int .i64 many, .slice ao n2 cap] w fun e w' => e = .returned (.bool true) ∧ Still w w' := by
  have H0 := hid (lnew_yes 9 2 4 (by decide) w)
  have H1 := hid (fun w => pick_any many 40 hm (by omega) (by omega) w)
  have hp := pk_in many 40 (by omega)
  obtain ⟨k0, ek0⟩ : ∃ k : Nat, pk many 40 = (k : Int) := ⟨(pk many 40).toNat, by omega⟩
  rw [ek0] at H1 hp
  obtain ⟨n, en⟩ : ∃ n, k0 + 1 = n := ⟨_, rfl⟩
  have hn1 : 1 ≤ n ∧ n ≤ 40 := by omega
  have hwn : IntKind.i64.wrap (1 + (k0 : Int)) = (n : Int) := by rw [show 1 + (k0 : Int) = (n : Int) by omega]; exact wr64 (by omega) (by omega)
  have HR := hid hr
  have HA := hid hA
  have h48 := hr.2.1
  clear hr hA ek0 en hp
  go_enter Try.func4, Try.ntmps4
  go_wp2_with fail
  refine H0.out.mono ?_
  rintro e w1 ⟨p, mb, he, l1, h1⟩
  rw [he]
  have HI1 : Hid (Ac w w1 p mb 0 0) := hid ⟨none, 0, false, l1, h1⟩
  clear he l1 h1 H0
  go_wp2_with fail
  refine (H1.out _).mono ?_
  rintro e w2 ⟨he, rfl⟩
  rw [he]
  clear he H1
  go_wp2_with fail
  go_loopw [8, 9] (fun u8 _ wr => ∃ i : Nat, i ≤ n ∧ u8 = .int .i64 (i : Int) ∧ Hid (Ac w wr p mb i 0)) (fun u8 _ _ => n - (intOf u8).toNat)
  case atStart => exact ⟨0, by omega, rfl, HI1⟩
  case round =>
    obtain ⟨i, hi, rfl, HK⟩ := hrel
    by_cases hin : i < n
    · have hlt : (i : Int) < (n : Int) := by omega
      obtain ⟨ko, kc, m, l2, h2⟩ := HK.out
      have hl := acL_lay (n := i) (by omega) m
      have HC := hid (llay_any p ko kc mb w.heap.size (acL i 0 m) (acC i) (by show (acO i).length ≤ _; rw [acO_len]; omega) (Nat.zero_le _) wr l2)
      rw [hl.1, hl.2] at HC
      have HL2 := hid l2
      have HS2 := hid h2
      have hw1 : IntKind.i64.wrap (100 + (i : Int)) = 100 + (i : Int) := wr64 (by omega) (by omega)
      have hw2 : IntKind.i64.wrap ((i : Int) + 1) = (i : Int) + 1 := wr64 (by omega) (by omega)
      clear l2 h2 hl
      go_wp2_with fail
      refine HC.out.mono ?_
      rintro e w3 ⟨ko3, kc3, he, l3, f3, _⟩
      rw [he]
      have HK3 : Hid (Ac w w3 p mb (i + 1) 0) := hid ⟨ko3, kc3, m, l3, fr_new (B := 0) HS2.out f3 (fun k hk => by
        rcases hk with rfl | ⟨a, ha, rfl⟩
        · exact HL2.out.lp
        · exact (HL2.out.kp.bl a ha).1)⟩
      clear he l3 f3 HC
      go_wp2_with fail
      go_roundw
      case rel => exact ⟨i + 1, by omega, by go_num, HK3⟩
      case measure => simp [intOf]; omega
    · obtain rfl : i = n := by omega
      have hlt : ¬ (i : Int) < (i : Int) := by omega
      go_wp2_with fail
      go_loopw [10, 11, 12, 13, 14, 15] (fun u10 u11 _ _ _ _ wr => ∃ t j : Nat, t ≤ i ∧ j ≤ n2 ∧ u10 = .int .i64 (t : Int) ∧ u11 = .int .i64 (j : Int) ∧ Hid (Ac w wr p mb i t)) (fun _ u11 _ _ _ _ _ => n2 - (intOf u11).toNat)
      case atStart => exact ⟨0, 0, by omega, by omega, rfl, rfl, HK⟩
      case round =>
        clear HK
        obtain ⟨t, j, ht, hj, rfl, rfl, HK⟩ := hrel
        by_cases hjn : j < n2
        · have hlt2 : (j : Int) < (n2 : Int) := by omega
          obtain ⟨ko, kc, m, l2, h2⟩ := HK.out
          obtain ⟨Bq, oq, eao⟩ := HR.out.at (by omega)
          subst eao
          have hc := rdIn (HR.out.still h2) hjn
          have hw3 : IntKind.i64.wrap ((i : Int) + 3) = (i : Int) + 3 := wr64 (by omega) (by omega)
          have hpk := pk_in (A.getD j 0) ((i : Int) + 3) (by omega)
          have HP := hid (fun w => pick_any (A.getD j 0) ((i : Int) + 3) (HA.out j hjn) (by omega) (by omega) w)
          obtain ⟨x, ex⟩ : ∃ x, A.getD j 0 = x := ⟨_, rfl⟩
          rw [ex] at hc HP hpk
          obtain ⟨k, ek⟩ : ∃ k, pk x ((i : Int) + 3) = k := ⟨_, rfl⟩
          rw [ek] at HP hpk
          have hrf := acL_ref (n := i) (t := t) (m := m) (k := k) (by omega)
          have hO : (acL i t m).O.length ≤ 1152921504606846976 := by show (acO i).length ≤ _; rw [acO_len]; omega
          have HL2 := hid l2
          have HS2 := hid h2
          have hw4 : IntKind.i64.wrap ((j : Int) + 1) = (j : Int) + 1 := wr64 (by omega) (by omega)
          by_cases hki : (i : Int) < k
          · rw [if_pos hki] at hrf
            have HT := hid (ltake_no p ko kc mb w.heap.size (acL i t m) (acD k) none 0 0 0 hO (acL_fits (by omega) ht).a1 rfl (by show (0 : Nat) ≤ _; omega) wr l2 (SrG.nil wr) (by rw [hrf]; omega))
            rw [hrf] at HT
            have hkn : ¬ k ≤ (i : Int) := by omega
            clear l2 h2 hrf ex ek
            go_wp2_with fail
            refine (HP.out _).mono ?_
            rintro e w3 ⟨he, rfl⟩
            rw [he]
            clear he HP hc
            go_wp2_with fail
            refine HT.out.mono ?_
            rintro e w4 ⟨he, h4⟩
            rw [he]
            have HK4 : Hid (Ac w w4 p mb i t) := hid ⟨ko, kc, m, HL2.out.still h4, HS2.out.trans h4⟩
            clear he h4 HT
            go_wp2_with fail
            go_roundw
            case rel => exact ⟨t, j + 1, ht, by omega, rfl, by go_num, HK4⟩
            case measure => simp [intOf]; omega
          · rw [if_neg hki] at hrf
            have hkn : k ≤ (i : Int) := by omega
            obtain ⟨e1, e2, e3⟩ := acL_take (n := i) (t := t) (m := m) (k := k) (by omega)
            have HT := hid (ltake_yes p ko kc mb w.heap.size (acL i t m) (acD k) none 0 0 0 hO (acL_fits (by omega) ht) rfl wr l2 (SrG.nil wr) (fun a ha => by cases ha) hrf)
            rw [e1, e2, e3] at HT
            clear l2 h2 hrf ex ek e1 e2 e3
            by_cases hkt : (t : Int) < k
            · have hd : decide ((t : Int) < k) = true := by simpa using hkt
              rw [hd] at HT
              obtain ⟨k', ek'⟩ : ∃ k' : Nat, k = (k' : Int) := ⟨k.toNat, by omega⟩
              subst ek'
              have HE : Hid (max t ((k' : Int)).toNat = k') := hid (by omega)
              rw [HE.out] at HT
              go_wp2_with fail
              refine (HP.out _).mono ?_
              rintro e w3 ⟨he, rfl⟩
              rw [he]
              clear he HP hc
              go_wp2_with fail
              refine HT.out.mono ?_
              rintro e w4 ⟨fo, fc, ko4, kc4, he, ho4, l4, f4, _⟩
              rw [he]
              have HK4 : Hid (Ac w w4 p mb i k') := hid ⟨ko4, kc4, true, l4, fr_new (B := 0) HS2.out f4 (fun k hk => by
                rcases hk with rfl | rfl
                · exact HL2.out.lp
                · exact HL2.out.lm)⟩
              clear he ho4 l4 f4 HT
              go_wp2_with fail
              go_roundw
              case rel => exact ⟨k', j + 1, by omega, by omega, rfl, by go_num, HK4⟩
              case measure => simp [intOf]; omega
            · have hd : decide ((t : Int) < k) = false := by simpa using hkt
              rw [hd] at HT
              have HE : Hid (max t k.toNat = t) := hid (by omega)
              rw [HE.out] at HT
              go_wp2_with fail
              refine (HP.out _).mono ?_
              rintro e w3 ⟨he, rfl⟩
              rw [he]
              clear he HP hc
              go_wp2_with fail
              refine HT.out.mono ?_
              rintro e w4 ⟨fo, fc, ko4, kc4, he, ho4, l4, f4, _⟩
              rw [he]
              have HK4 : Hid (Ac w w4 p mb i t) := hid ⟨ko4, kc4, true, l4, fr_new (B := 0) HS2.out f4 (fun k hk => by
                rcases hk with rfl | rfl
                · exact HL2.out.lp
                · exact HL2.out.lm)⟩
              clear he ho4 l4 f4 HT
              go_wp2_with fail
              go_roundw
              case rel => exact ⟨t, j + 1, by omega, by omega, rfl, by go_num, HK4⟩
              case measure => simp [intOf]; omega
        · have hlt2 : ¬ (j : Int) < (n2 : Int) := by omega
          obtain ⟨ko, kc, m, l2, h2⟩ := HK.out
          have hft := acL_fits (n := i) (t := t) (m := m) (by omega) ht
          have HT := hid (lturn_any p ko kc mb w.heap.size (acL i t m) 100 hft.g (by show t ≤ _; omega) hft.a2 hft.a1 wr l2)
          rw [show (acL i t m).O.length = i from acO_len i, show (acL i t m).ak = t from rfl] at HT
          have HL2 := hid l2
          have HS2 := hid h2
          clear l2 h2 hft HK
          go_wp2_with fail
          refine HT.out.mono ?_
          rintro e w3 ⟨co, cp, he, ho3, h3⟩
          rw [he]
          have A1 := Still.alloc w3 (.cells (dgc zD none 0 0) 51)
          have p1 := newDg_b w3 zD none 0 0
          obtain ⟨g2, eg2⟩ : ∃ g, w3.heap.size = g := ⟨_, rfl⟩
          unfold newDg at p1
          obtain ⟨W1, eW1⟩ : ∃ W, w3.alloc (.cells (dgc zD none 0 0) 51) = W := ⟨_, rfl⟩
          rw [eW1] at A1 p1
          rw [eg2] at p1
          obtain ⟨d0, d1, d2, d3, d4, d5, d6, d7, df⟩ := p1.cells
          obtain ⟨D, eD⟩ : ∃ D, turD (acL i t m) 100 = D := ⟨_, rfl⟩
          have HD : Hid (D.fi = (t : Int) + 1) := hid (by rw [← eD]; rfl)
          rw [eD]
          have p2 := p1.set D co (i - t) cp
          have s2 : Still w3 (setDg W1 g2 D co (i - t) cp) := setDg_fr A1 _ _ _ _ _ (.inr (by omega))
          obtain ⟨W2, eW2⟩ : ∃ W, setDg W1 g2 D co (i - t) cp = W := ⟨_, rfl⟩
          rw [eW2] at p2 s2
          have HSt := hid (lstate_any p ko kc mb w.heap.size (acL i t m) W2 (HL2.out.still (h3.trans s2)))
          have HO := hid (ho3.still s2)
          have HP2 := hid p2
          have HS3 := hid ((HS2.out.trans h3).trans s2)
          simp only [zD] at eW1
          simp only [setDg] at eW2
          clear he ho3 h3 A1 p1 p2 s2 eD HT HL2 HS2
          go_upto_region 22 with fail
          clear eW1 eW2 d0 d1 d2 d3 d4 d5 d6 d7 df
          go_wp2_with fail
          refine HSt.out.mono ?_
          rintro e w5 ⟨he, h5⟩
          rw [he]
          have e0 : lsv (acL i t m) = .agg #[.int .i64 (i : Int), .int .i64 (t : Int), .int .i64 1, .int .i64 0, .bool m] := by
            show Value.agg #[.int .i64 ((acO i).length : Int), _, _, _, _] = _
            rw [acO_len]
            rfl
          rw [e0]
          have A6 := Still.alloc w5 (.cells #[.int .i64 0, .int .i64 0, .int .i64 0, .int .i64 0, .bool false] 40)
          have hg := heap_alloc_new w5 (.cells #[.int .i64 0, .int .i64 0, .int .i64 0, .int .i64 0, .bool false] 40)
          obtain ⟨g6, eg6⟩ : ∃ g, w5.heap.size = g := ⟨_, rfl⟩
          obtain ⟨W6, eW6⟩ : ∃ W, w5.alloc (.cells #[.int .i64 0, .int .i64 0, .int .i64 0, .int .i64 0, .bool false] 40) = W := ⟨_, rfl⟩
          rw [eW6] at A6 hg
          rw [eg6] at hg
          have f0 : W6.cell? ⟨g6, 0, none⟩ = some (.int .i64 0) := by rw [cell_of_row _ _ _ _ _ _ hg]; rfl
          have f1 : W6.cell? ⟨g6, 1, none⟩ = some (.int .i64 0) := by rw [cell_of_row _ _ _ _ _ _ hg]; rfl
          have f2 : W6.cell? ⟨g6, 2, none⟩ = some (.int .i64 0) := by rw [cell_of_row _ _ _ _ _ _ hg]; rfl
          have f3 : W6.cell? ⟨g6, 3, none⟩ = some (.int .i64 0) := by rw [cell_of_row _ _ _ _ _ _ hg]; rfl
          have f4 : W6.cell? ⟨g6, 4, none⟩ = some (.bool false) := by rw [cell_of_row _ _ _ _ _ _ hg]; rfl
          have ff := fun o => frozen_of_row W6 g6 o _ _ hg
          have hset := heap_setCells g6 40 [.int .i64 (i : Int), .int .i64 (t : Int), .int .i64 1, .int .i64 0, .bool m] 0 _ W6 hg (by simp)
          have s7 : Still w5 (W6.setCells g6 0 [.int .i64 (i : Int), .int .i64 (t : Int), .int .i64 1, .int .i64 0, .bool m]) := fr_setCells g6 _ 0 W6 A6 (.inr (by omega))
          obtain ⟨W7, eW7⟩ : ∃ W, W6.setCells g6 0 [.int .i64 (i : Int), .int .i64 (t : Int), .int .i64 1, .int .i64 0, .bool m] = W := ⟨_, rfl⟩
          rw [eW7] at hset s7
          simp only [World.setCells] at eW7
          have m0 : W7.cell? ⟨g6, 0, none⟩ = some (.int .i64 (i : Int)) := by rw [cell_of_row _ _ _ _ _ _ hset]; rfl
          have m1 : W7.cell? ⟨g6, 1, none⟩ = some (.int .i64 (t : Int)) := by rw [cell_of_row _ _ _ _ _ _ hset]; rfl
          have hs7 := h5.trans s7
          obtain ⟨d0, d1, d2, d3, d4, d5, d6, d7, df⟩ := (HP2.out.still hs7).cells
          rw [HD.out] at d5
          have HO7 := hid (HO.out.still hs7)
          have HP7 := hid (HP2.out.still hs7)
          have HS7 := hid (HS3.out.trans hs7)
          have hw5 : IntKind.i64.wrap ((t : Int) + 1) = (t : Int) + 1 := wr64 (by omega) (by omega)
          have hw6 : IntKind.i64.wrap ((i : Int) - (t : Int)) = ((i - t : Nat) : Int) := by rw [show (i : Int) - (t : Int) = ((i - t : Nat) : Int) by omega]; exact wr64 (by omega) (by omega)
          clear he h5 A6 hg hset s7 hs7 HSt e0 HP2 HO HS3
          go_upto_region 23 with fail
          clear f0 f1 f2 f3 f4 ff eW6 eW7
          go_wp2_with fail
          clear m0 m1
          go_loopw [18, 19] (fun u18 _ wr => ∃ j : Nat, j ≤ i - t ∧ u18 = .int .i64 (j : Int) ∧ Hid (Still W7 wr)) (fun u18 _ _ => (i - t) - (intOf u18).toNat)
          case atStart => exact ⟨0, by omega, rfl, hid (Fr.refl _ _)⟩
          case round =>
            clear d0 d1 d2 d3 d4 d5 d6 d7 df
            obtain ⟨j, hj, rfl, HT⟩ := hrel
            obtain ⟨d0, d1, d2, d3, d4, d5, d6, d7, df⟩ := (HP7.out.still HT.out).cells
            by_cases hjn : j < i - t
            · have hlt3 : (j : Int) < ((i - t : Nat) : Int) := by omega
              have hln : ((acL i t m).O.drop t).length = i - t := by rw [List.length_drop]; show (acO i).length - t = _; rw [acO_len]
              obtain ⟨g8, cap8, e8, _, _⟩ := (HO7.out.still HT.out).head (by rw [hln]; omega)
              have ho8 := HO7.out.still HT.out
              injection e8 with e81 e82 e83
              subst e81
              clear e82 e83
              have hcc := owCc ho8 (i := j) (by rw [hln]; omega)
              have ecc : cc ((acL i t m).O.drop t) j = acC (t + j) := acO_drop (by omega)
              rw [ecc] at hcc
              obtain ⟨x0, x1, x2, x3, x4, x5, x6, xf⟩ := hcc
              have hwa : IntKind.i64.wrap ((t : Int) + 1 + (j : Int)) = (acC (t + j)).sq := by
                show _ = ((t + j : Nat) : Int) + 1
                rw [show (t : Int) + 1 + (j : Int) = ((t + j : Nat) : Int) + 1 by omega]
                exact wr64 (by omega) (by omega)
              have hwb : IntKind.i64.wrap (100 + (t : Int)) = 100 + (t : Int) := wr64 (by omega) (by omega)
              have hwc : IntKind.i64.wrap (100 + (t : Int) + (j : Int)) = (acC (t + j)).fr := by
                show _ = 100 + ((t + j : Nat) : Int)
                rw [show 100 + (t : Int) + (j : Int) = 100 + ((t + j : Nat) : Int) by omega]
                exact wr64 (by omega) (by omega)
              obtain ⟨C, eC⟩ : ∃ C, acC (t + j) = C := ⟨_, rfl⟩
              rw [eC] at x0 x1 x2 x3 x4 x5 x6 hwa hwc
              have A9 := Still.alloc wr (.cells (kmc C) 47)
              have HT9 := hid (HT.out.trans A9)
              clear ho8 ecc eC A9 hln
              go_wp2_with fail
              go_roundw
              case rel => exact ⟨j + 1, by omega, by go_num, HT9⟩
              case measure => simp [intOf]; omega
            · have hlt3 : ¬ (j : Int) < ((i - t : Nat) : Int) := by omega
              go_wp2_with fail
              go_ret
              exact ⟨rfl, HS7.out.trans HT.out⟩
end Go.Proofs.Ytcmgghfjakphmaa
