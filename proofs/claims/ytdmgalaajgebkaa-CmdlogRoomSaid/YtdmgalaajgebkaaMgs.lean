/- CmdlogRoom: the law's walk. -/
import Derived.Test.YtdmgalaajgebkaaMgp
namespace Go.Proofs.Ytdmgalaajgebkaa
open Go.RowKit
set_option maxRecDepth 100000

theorem lowP_le2 {s : Lgs} (f p : Int) : lowP f p s.S ≤ s.S.length := List.countP_le_length
set_option maxHeartbeats 8000000 in
theorem room_law (a b : Int) (so : Option Addr) (n c : Nat) (L : List Ok9) (ha : -9223372036854775808 ≤ a ∧ a ≤ 9223372036854775807) (hb : -9223372036854775808 ≤ b ∧ b ≤ 9223372036854775807) (hp : ∀ i, i < n → Bd9 (L.getD i KO9.d)) (w : World) (hr : RdG KO9 w so n L) : Calls Try.prog 6 #[.int .i64 a, .int .i64 b, .slice so n c] w fun e w' => e = .returned (.bool true) ∧ Still w w' := by
  have HAw := hid (fun w => awake19_any w)
  have HPl := hid (fun u (hu : Still w u) => played_any a b so n c L ha hb hp u (hr.still hu))
  have h1 := pk_in a 5 (by omega)
  have h2 := pk_in b 4 (by omega)
  obtain ⟨A, eA⟩ : ∃ A, 2 + pk a 5 = A := ⟨_, rfl⟩
  obtain ⟨D, eD⟩ : ∃ A, 2 + pk b 4 = A := ⟨_, rfl⟩
  have hA : 2 ≤ A ∧ A ≤ 6 := by omega
  have hD : 2 ≤ D ∧ D ≤ 5 := by omega
  rw [eA, eD] at HPl
  obtain ⟨P, rfl⟩ : ∃ P : Nat, A = (P : Int) := ⟨A.toNat, by omega⟩
  clear hr hp ha hb eA eD h1 h2
  go_enter Try.func6, Try.ntmps6
  go_wp2_with fail
  refine (HAw.out _).mono ?_
  rintro e w1 ⟨he, h1⟩
  rw [he]
  have HP1 := hid (HPl.out w1 h1)
  have HS1 := hid h1
  clear he h1 HAw HPl
  go_wp2_with fail
  refine HP1.out.mono ?_
  rintro e w2 ⟨p, he, hpl⟩
  rw [he]
  obtain ⟨hs2, s, vs, hL2, en1, en2⟩ := hpl
  have HS2 := hid (HS1.out.trans hs2)
  have HL2 := hid hL2
  have HEp := hid en1
  have HE := hid en2
  have HBs := hid (cm_base s _ p vs w2 hL2)
  have HAl := hid (cm_all s _ p vs w2 hL2)
  have HOk := hid hL2.ok
  have hb1 := hL2.ok.b
  obtain ⟨B0, eB0⟩ : ∃ B, s.ba = B := ⟨_, rfl⟩
  rw [eB0] at HBs hb1
  have HB0 := hid eB0
  clear he hs2 hL2 en1 en2 HP1 HS1 eB0
  go_wp2_with fail
  refine HBs.out.mono ?_
  rintro e w' ⟨he, hw⟩
  rw [he, hw]
  clear he hw w' HBs
  go_wp2_with fail
  refine HAl.out.mono ?_
  rintro e w3 ⟨va, he, hoa, hs3⟩
  rw [he]
  have HS3 := hid (HS2.out.trans hs3)
  have HL3 := hid (HL2.out.still hs3)
  obtain ⟨ao, cap, eva, _⟩ := hoa.slice
  subst eva
  have hn := len_2016 HOk.out
  have HRa : Hid (RdG KE w3 ao s.S.length s.S) := hid (OwG.rd (M := []) (by rw [List.append_nil]; exact hoa) (by omega))
  have HLe := hid (cm_len s _ p vs w3 HL3.out)
  have HFew : Hid ((s.S.length : Int) ≤ (P : Int) * 3 * 112) := hid (by
    have h1 := len_few HOk.out
    rw [HEp.out, Int.toNat_natCast] at h1
    omega)
  obtain ⟨N, eN⟩ : ∃ N, s.S.length = N := ⟨_, rfl⟩
  have HN := hid eN
  rw [eN] at HRa hn HLe HFew ⊢
  clear he hoa hs3 HAl HS2 HL2 eN
  go_wp2_with fail
  refine HLe.out.mono ?_
  rintro e w4 ⟨he, hs4⟩
  rw [he]
  have HS4 := hid (HS3.out.trans hs4)
  have HL4 := hid (HL3.out.still hs4)
  have HR4 := hid (HRa.out.still hs4)
  have d1 : ((N : Int) != (N : Int)) = false := by simp
  have hw1 : IntKind.i64.wrap ((P : Int) * 3) = (P : Int) * 3 := by rw [IntKind.wrap_i64]; omega
  have hw2 : IntKind.i64.wrap ((P : Int) * 3 * 112) = (P : Int) * 3 * 112 := by rw [IntKind.wrap_i64]; omega
  have d2 : ¬ (N : Int) > (P : Int) * 3 * 112 := by have := HFew.out; omega
  have hw3 : IntKind.i64.wrap (B0 + 1) = B0 + 1 := by rw [IntKind.wrap_i64]; omega
  clear he hs4 HLe HS3 HL3 HRa
  go_wp2_with fail
  clear hw1 hw2 d2 hw3
  go_loopw [15, 14] (fun u v wr => ∃ j : Nat, j ≤ 112 ∧ u = .int .i64 (B0 + 1 + (j : Int)) ∧ v = .int .i64 ((lowN (B0 + 1 + (j : Int)) s.S : Nat) : Int) ∧ Hid (Still w4 wr)) (fun u _ _ => (B0 + 114 - intOf u).toNat)
  case atStart => exact ⟨0, by omega, by simp, by have := lowN_first HOk.out; rw [HB0.out] at this; simp [this], hid (Fr.refl _ _)⟩
  case round =>
    obtain ⟨j, hj, rfl, rfl, HJ⟩ := hrel
    have hwb : IntKind.i64.wrap (B0 + 112) = B0 + 112 := by rw [IntKind.wrap_i64]; omega
    by_cases hjn : j < 112
    · obtain ⟨f, ef⟩ : ∃ f, B0 + 1 + (j : Int) = f := ⟨_, rfl⟩
      rw [ef]
      have HF : Hid (B0 + 1 + (j : Int) = f) := hid ef
      have hfy : f ≤ B0 + 112 := by omega
      have HZ := hid (lowP_zero HOk.out f)
      have HAll : Hid (lowP f (P : Int) s.S = lowN (f + 1) s.S) := hid (by have := lowP_all HOk.out f; rwa [HEp.out] at this)
      have HLP : Hid (∀ i : Int, lowP f i s.S ≤ 2016) := hid (fun i => Nat.le_trans (lowP_le2 (s := s) f i) (by have := HN.out; omega))
      have hw1 : IntKind.i64.wrap (f + 1) = f + 1 := by rw [IntKind.wrap_i64]; omega
      have HJ1 : Hid (j + 1 ≤ 112 ∧ B0 + 1 + ((j + 1 : Nat) : Int) = f + 1 ∧ (B0 + 114 - (f + 1)).toNat < (B0 + 114 - f).toNat) := hid ⟨by omega, by omega, by omega⟩
      clear ef hjn
      go_wp2_with fail
      go_loopw [16, 14] (fun u v wr => ∃ i : Nat, i ≤ P ∧ u = .int .i64 (i : Int) ∧ v = .int .i64 ((lowP f (i : Int) s.S : Nat) : Int) ∧ Hid (Still w4 wr)) (fun u _ _ => P - (intOf u).toNat)
      case atStart => exact ⟨0, by omega, rfl, by rw [show ((0 : Nat) : Int) = 0 from rfl, HZ.out], HJ⟩
      case round =>
        obtain ⟨i, hi, rfl, rfl, HI⟩ := hrel
        by_cases hip : i < P
        · have hlt : (i : Int) < (P : Int) := by omega
          have HC := hid (cm_count s _ p vs f (i : Int) wr (HL4.out.still HI.out))
          have HNx := hid (lowP_next f (i : Int) s.S)
          have HLn := hid (HLP.out ((i : Int) + 1))
          have hm3 : cntF f (i : Int) s.S ≤ 3 := HOk.out.few f (i : Int)
          obtain ⟨m, em⟩ : ∃ m, cntF f (i : Int) s.S = m := ⟨_, rfl⟩
          obtain ⟨q, eq⟩ : ∃ m, lowP f (i : Int) s.S = m := ⟨_, rfl⟩
          obtain ⟨q2, eq2⟩ : ∃ m, lowP f ((i : Int) + 1) s.S = m := ⟨_, rfl⟩
          rw [em] at HC hm3
          rw [eq2, em, eq] at HNx
          rw [eq2] at HLn
          rw [eq]
          have HQ : Hid (lowP f ((i + 1 : Nat) : Int) s.S = q2) := hid (by rw [← eq2]; congr 1)
          have hs3 : ¬ (m : Int) > 3 := by omega
          have hs0 : ¬ (m : Int) < 0 := by omega
          have hwq : IntKind.i64.wrap ((q : Int) + (m : Int)) = ((q2 : Nat) : Int) := by rw [IntKind.wrap_i64]; have := HNx.out; have := HLn.out; omega
          clear em eq eq2 hm3
          go_wp2_with fail
          refine HC.out.mono ?_
          rintro e w5 ⟨he, hs5⟩
          rw [he]
          have HI2 := hid (HI.out.trans hs5)
          clear he hs5 HC
          go_wp2_with fail
          go_roundw
          case rel => exact ⟨i + 1, by omega, by go_num, by rw [HQ.out], HI2⟩
          case measure => simp [intOf]; omega
        · have hge : ¬ (i : Int) < (P : Int) := by omega
          obtain rfl : i = P := by omega
          rw [HAll.out]
          go_wp2_with fail
          go_roundw
          case rel => exact ⟨j + 1, HJ1.out.1, by rw [HJ1.out.2.1], by rw [HJ1.out.2.1], HI⟩
          case measure => simp only [intOf]; exact HJ1.out.2.2
    · obtain rfl : j = 112 := by omega
      have HLast : Hid (lowN (B0 + 1 + ((112 : Nat) : Int)) s.S = N) := hid (by have := lowN_last HOk.out; rw [HB0.out] at this; rw [← HN.out, ← this]; congr 1; omega)
      rw [HLast.out]
      obtain ⟨f, ef⟩ : ∃ f, B0 + 1 + ((112 : Nat) : Int) = f := ⟨_, rfl⟩
      rw [ef]
      have hfy : ¬ f ≤ B0 + 112 := by omega
      clear ef hjn
      go_wp2_with fail
      go_loopw [18] (fun u wr => ∃ i : Nat, i ≤ N ∧ u = .int .i64 (i : Int) ∧ Hid (Still w4 wr)) (fun u _ => N - (intOf u).toNat)
      case atStart => exact ⟨0, by omega, rfl, HJ⟩
      case round =>
        obtain ⟨i, hi, rfl, HI⟩ := hrel
        by_cases hin : i < N
        · have hlt : (i : Int) < (N : Int) := by omega
          obtain ⟨G, o, rfl⟩ := HR4.out.at (by omega)
          obtain ⟨c0, c1, c2, c3, c4, c5, c6, c7⟩ := rdE (HR4.out.still HI.out) hin
          have hx := HOk.out.fr _ (att_mem (L := s.S) (k := i) (by have := HN.out; omega))
          have hms := HOk.out.ms _ (att_mem (L := s.S) (k := i) (by have := HN.out; omega))
          rw [HB0.out] at hx
          rw [HE.out] at hms
          have HPrev := hid (fun (k : Nat) (hk : k + 1 = i) => And.intro (fun (u : World) (hu : Still w4 u) => rdE (HR4.out.still hu) (i := k) (by omega)) (srt_at HOk.out.srt k i (by omega) (by have := HN.out; omega)))
          obtain ⟨x, ex⟩ : ∃ x, att s.S i = x := ⟨_, rfl⟩
          rw [ex] at c0 c1 c2 c3 c4 c5 c6 c7 hx hms HPrev
          have A1 := Still.alloc wr (.cells (ecs x) enT)
          obtain ⟨b0, b1', b2, b3, b4, b5, b6, b7, _⟩ := (newE_eb wr x).cells
          obtain ⟨W, eW⟩ : ∃ W, newE wr x = W := ⟨_, rfl⟩
          obtain ⟨g, eg⟩ : ∃ g, wr.heap.size = g := ⟨_, rfl⟩
          have HIW : Hid (Still w4 W) := hid (by rw [← eW]; exact HI.out.trans A1)
          rw [eW, eg] at b0 b1' b2 b3 b4 b5 b6 b7
          have hwf : IntKind.i64.wrap (x.fr - B0) = x.fr - B0 := by rw [IntKind.wrap_i64]; omega
          obtain ⟨far, efar⟩ : ∃ z, x.fr - B0 = z := ⟨_, rfl⟩
          rw [efar] at hwf
          have HWF : Hid (wrap64 (x.fr - B0) = far) := hid (by rw [← IntWalk.i64_left, efar]; exact hwf)
          clear hwf
          have f1 : decide (far < 1) = false := decide_eq_false (by omega)
          have f2 : decide (far > 112) = false := decide_eq_false (by omega)
          have f2' : decide (112 < far) = false := f2
          have f3 : decide (x.ms < 0) = false := decide_eq_false (by omega)
          have f4 : decide (x.ms ≥ D) = false := decide_eq_false (by omega)
          have f4' : decide (D ≤ x.ms) = false := f4
          have l0 := Cl.cell b0
          have l1 := Cl.cell b1'
          have l2 := Cl.cell b2
          have l3 := Cl.cell b3
          have l4 := Cl.cell b4
          have l5 := Cl.cell b5
          have l6 := Cl.cell b6
          have l7 := Cl.cell b7
          have hne := Aft.here W
          simp only [newE] at eW
          clear A1 ex hx hms efar HI
          cases i with
          | zero =>
            simp only [Nat.zero_mul, Nat.add_zero] at c0 c1 c2 c3 c4 c5 c6 c7
            go_upto_region 26 with fail
            clear b0 b1' b2 b3 b4 b5 b6 b7 c0 c1 c2 c3 c4 c5 c6 c7 eW eg
            rw [HWF.out]
            clear HWF
            refine region_all (by kernel_rfl) (by kernel_rfl) ?_
            repeat (go_big_quiet_step (rfl))
            refine wpQuiet_nil ?_
            intro w6 h6
            have HI6 := hid (HIW.out.trans h6)
            clear h6 hne l0 l1 l2 l3 l4 l5 l6 l7
            go_wp2_with fail
            go_roundw
            case rel => exact ⟨0 + 1, by omega, by go_num, HI6⟩
            case measure => simp [intOf]; omega
          | succ k =>
            obtain ⟨hPr, hkc⟩ := HPrev.out k rfl
            obtain ⟨a0, a1, a2, a3, a4, a5, a6, a7⟩ := hPr W HIW.out
            have HOr := hid (fun w => rord_any (att s.S k) x w)
            obtain ⟨y2, ey2⟩ : ∃ y, att s.S k = y := ⟨_, rfl⟩
            rw [ey2] at a0 a1 a2 a3 a4 a5 a6 a7 HOr hkc
            obtain ⟨z, ez⟩ : ∃ z, kc y2 x = z := ⟨_, rfl⟩
            rw [ez] at hkc HOr
            have k0 := Cl.cell a0
            have k1 := Cl.cell a1
            have k2 := Cl.cell a2
            have k3 := Cl.cell a3
            have k4 := Cl.cell a4
            have k5 := Cl.cell a5
            have k6 := Cl.cell a6
            have k7 := Cl.cell a7
            have hz : decide (z ≥ 0) = false := decide_eq_false (by omega)
            have hz' : decide (0 ≤ z) = false := hz
            have hk1 : decide (((k + 1 : Nat) : Int) > 0) = true := decide_eq_true (by omega)
            have hk2 : decide (0 < ((k + 1 : Nat) : Int)) = true := hk1
            have hk3 : decide (0 < (k : Int) + 1) = true := decide_eq_true (by omega)
            have hwk : IntKind.i64.wrap (((k + 1 : Nat) : Int) - 1) = (k : Int) := by rw [IntKind.wrap_i64]; omega
            have hkN : (k : Int) < (N : Int) := by omega
            have hwk2 : wrap64 (((k + 1 : Nat) : Int) - 1) = (k : Int) := by rw [← IntWalk.i64_left]; exact hwk
            clear hPr ey2 ez hkc a0 a1 a2 a3 a4 a5 a6 a7 HPrev
            go_upto_region 26 with fail
            clear b0 b1' b2 b3 b4 b5 b6 b7 c0 c1 c2 c3 c4 c5 c6 c7 eW eg
            rw [HWF.out]
            clear HWF
            refine region_all (by kernel_rfl) (by kernel_rfl) ?_
            repeat (go_big_quiet_step ((first | (go_at_call 20; with_reducible exact Calls.cl (HOr.out _)) | rfl)))
            refine wpQuiet_nil ?_
            intro w6 h6
            have HI6 := hid (HIW.out.trans h6)
            clear h6 hne l0 l1 l2 l3 l4 l5 l6 l7 k0 k1 k2 k3 k4 k5 k6 k7 hwk hwk2
            go_wp2_with fail
            go_roundw
            case rel => exact ⟨k + 1 + 1, by omega, by go_num, HI6⟩
            case measure => simp [intOf]; omega
        · have hge : ¬ (i : Int) < (N : Int) := by omega
          have HF := hid (HS4.out.trans HI.out)
          have hNN : ((N : Int) == (N : Int)) = true := beq_self_eq_true _
          clear HI
          go_wp2_with fail
          go_ret
          exact ⟨by simp, HF.out⟩
end Go.Proofs.Ytdmgalaajgebkaa
