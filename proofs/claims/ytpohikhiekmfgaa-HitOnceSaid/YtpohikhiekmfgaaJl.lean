/- The law on who meets: nobody who is out, a shot one at most and not its owner. -/
import Derived.Test.YtpohikhiekmfgaaJi
import Derived.Test.YtpohikhiekmfgaaK5c
namespace Go.Proofs.Ytpohikhiekmfgaa
open Go.RowKit
open Pu Gp Ap Vp Np Za Ka Ja
set_option maxRecDepth 100000

theorem pp_at {V : List (Int × Int)} {i : Nat} (h : i < V.length) : pp V i = V[i] := by simp [pp, List.getD, h]
/-- what a shot's meet says -/
theorem sho_at {L : List Mv} {S : List Sh} (he : shoE L S = true) {i : Nat} (hi : i < (sho L S).length) : ∃ j k : Nat, j < S.length ∧ k < L.length ∧ pp (sho L S) i = ((j : Int), (k : Int)) ∧ hS L (ss S j) k = true ∧ (0 < i → (pp (sho L S) (i - 1)).1 < (j : Int)) := by
  have e : sho L S = rowS (fun i k => hS L (ss S i) k) L.length S.length := by unfold sho; rw [he]; rfl
  rw [e] at hi ⊢
  obtain ⟨j, k, h1, h2, h3, h4, h5⟩ := rowS_at (fun i k => hS L (ss S i) k) L.length S.length i hi
  refine ⟨j, k, h1, h2, by rw [pp_at hi]; exact h3, h4, fun h0 => ?_⟩
  rw [pp_at (show i - 1 < _ by omega)]
  exact h5 (i - 1) (by omega) (by omega)
theorem bod_at {L : List Mv} (ht : togB L = true) {i : Nat} (hi : i < (bod L).length) : ∃ j k : Nat, j < k ∧ k < L.length ∧ pp (bod L) i = ((j : Int), (k : Int)) ∧ (mm L j).ou = 0 ∧ (mm L k).ou = 0 := by
  have e : bod L = allB L L.length := by unfold bod; rw [ht]; rfl
  rw [e] at hi ⊢
  obtain ⟨j, k, h1, h2, h3, h4, h5⟩ := allB_mem (List.getElem_mem hi)
  unfold two at h5
  simp only [Bool.and_eq_true, beq_iff_eq] at h5
  exact ⟨j, k, h3, h2, by rw [pp_at hi]; exact h4, h5.1.1, h5.1.2⟩
set_option maxHeartbeats 8000000 in
theorem once_law (so : Option Addr) (n c : Nat) (L : List Mv) (ro : Option Addr) (r rc : Nat) (S : List Sh) (hcp : n ≤ c ∧ r ≤ rc) (w : World) (hr : RdG KM w so n L) (hs : RdG KS w ro r S) (C : Cts11 w) (U : Awake w) : Calls Try.prog 6 #[.slice so n c, .slice ro r rc] w fun e w' => e = .returned (.bool true) ∧ Still w w' := by
  have HCp := hid hcp
  clear hcp
  have HR := hid hr
  have HRS := hid hs
  have HL := hid hr.1
  have HLS := hid hs.1
  have hn48 := hr.2.1
  have hr48 := hs.2.1
  have HMa0 := hid (sho_len (L := L) (S := S))
  have HMb0 := hid (bod_len (L := L))
  clear hr hs
  obtain ⟨ma, ema⟩ : ∃ m, (sho L S).length = m := ⟨_, rfl⟩
  obtain ⟨mb, emb⟩ : ∃ m, (bod L).length = m := ⟨_, rfl⟩
  rw [ema] at HMa0
  rw [emb] at HMb0
  have hma : ma ≤ 48 := HMa0.out
  have hmb : mb ≤ 36 := HMb0.out
  have HMa := hid ema
  have HMb := hid emb
  clear ema emb HMa0 HMb0
  have HEt := hid (show shoE L S = true → togB L = true from fun h => by unfold shoE at h; rw [Bool.and_eq_true] at h; exact h.1)
  go_enter Try.func6, Try.ntmps6
  go_wp2_with fail
  refine (U _ (Fr.refl _ _)).mono ?_
  rintro e w1 ⟨rfl, h1⟩
  have HS1 := hid h1
  clear h1
  go_wp2_with fail
  refine (C.sho L S so n c ro r rc _ (HR.out.still HS1.out) (HRS.out.still HS1.out) HCp.out.1 HCp.out.2 HS1.out).mono ?_
  rintro e w2 ⟨va, rfl, oa, h2⟩
  obtain ⟨ao1, cap1, rfl, _⟩ := oa.slice
  rw [HMa.out] at oa ⊢
  have HOA2 := hid oa
  have HS2 := hid (HS1.out.trans h2)
  clear oa h2 HS1
  go_wp2_with fail
  refine (C.bod L so n c _ (HR.out.still HS2.out) HCp.out.1 HS2.out).mono ?_
  rintro e w3 ⟨vb, rfl, ob, h3⟩
  obtain ⟨ao2, cap2, rfl, _⟩ := ob.slice
  rw [HMb.out] at ob ⊢
  have HOB := hid ob
  have HOA := hid (HOA2.out.still h3)
  have HS3 := hid (HS2.out.trans h3)
  clear ob h3 HS2 HOA2
  have e0 : err11 true = 0 := rfl
  have e1 : err11 false = 110 := rfl
  cases he : shoE L S with
  | false =>
    cases ht : togB L with
    | false =>
      clear he ht HEt
      go_wp2_with fail
      go_ret
      exact ⟨rfl, HS3.out⟩
    | true =>
      have HT := hid ht
      clear he ht HEt
      go_wp2_with fail
      go_loopw [13] (fun u wr => ∃ i : Nat, i ≤ mb ∧ u = .int .i64 (i : Int) ∧ Still w3 wr) (fun u _ => mb - (intOf u).toNat)
      case atStart => exact ⟨0, by omega, rfl, Fr.refl _ _⟩
      case round =>
        obtain ⟨i, hi, rfl, hs⟩ := hrel
        have HSr := hid hs
        clear hs
        by_cases hin : i < mb
        · have hlt : (i : Int) < (mb : Int) := by omega
          obtain ⟨j, k, hjk, hkn, hpp, ho1, ho2⟩ := bod_at HT.out (i := i) (by rw [HMb.out]; exact hin)
          rw [HL.out] at hkn
          have HOr := HOB.out.still HSr.out
          obtain ⟨g, cg, e1, _, _⟩ := HOr.head (by rw [HMb.out]; omega)
          rw [HMb.out] at e1
          cases e1
          obtain ⟨c0, c1, _⟩ := owT HOr (i := i) (by rw [HMb.out]; exact hin)
          rw [hpp] at c0 c1
          have HRr := hid ((HR.out.still HS3.out).still HSr.out)
          obtain ⟨B, o, rfl⟩ := HRr.out.at (by omega)
          have d1 := (rdM HRr.out (i := j) (by omega)).2.2.2.2.2.2.2.2.2.2.2.1
          have d2 := (rdM HRr.out (i := k) hkn).2.2.2.2.2.2.2.2.2.2.2.1
          rw [ho1] at d1
          rw [ho2] at d2
          simp only at c0 c1
          have k0 := Cl.cell c0
          have k1 := Cl.cell c1
          have k2 := Cl.cell d1
          have k3 := Cl.cell d2
          have hne := Aft.here wr
          have hj0 : ¬ (j : Int) < 0 := by omega
          have hj0' : decide ((j : Int) < 0) = false := by simp
          have hjk1 : decide ((k : Int) ≤ (j : Int)) = false := by simp; omega
          have hjk2 : decide (k ≤ j) = false := by simp; omega
          have hkn1 : decide ((n : Int) ≤ (k : Int)) = false := by simp; omega
          have hkn2 : decide (n ≤ k) = false := by simp; omega
          have hjn : (j : Int) < (n : Int) := by omega
          have hkn3 : (k : Int) < (n : Int) := by omega
          have hjn' : j < n := by omega
          clear c0 c1 d1 d2 HOr hpp ho1 ho2
          go_wp2_with fail
          refine region_all (by kernel_rfl) (by kernel_rfl) ?_
          repeat (go_big_quiet_step (fail))
          refine wpQuiet_nil ?_
          intro w9 h9
          have HS9 := hid (HSr.out.trans h9)
          clear h9 HSr hne k0 k1 k2 k3 HRr
          go_wp2_with fail
          go_roundw
          case rel => exact ⟨i + 1, by omega, by go_num, HS9.out⟩
          case measure => simp [intOf]; omega
        · have hge : ¬ (i : Int) < (mb : Int) := by omega
          clear hin hi
          go_wp2_with fail
          go_ret
          exact ⟨rfl, HS3.out.trans HSr.out⟩
  | true =>
    have HT := hid (HEt.out he)
    have HE := hid he
    rw [HT.out]
    clear he HEt
    go_wp2_with fail
    go_loopw [10] (fun u wr => ∃ i : Nat, i ≤ ma ∧ u = .int .i64 (i : Int) ∧ Still w3 wr) (fun u _ => ma - (intOf u).toNat)
    case atStart => exact ⟨0, by omega, rfl, Fr.refl _ _⟩
    case round =>
      obtain ⟨i, hi, rfl, hs⟩ := hrel
      have HSr := hid hs
      clear hs
      by_cases hin : i < ma
      · have hlt : (i : Int) < (ma : Int) := by omega
        obtain ⟨j, k, hj, hk, hpp, hP, hprev⟩ := sho_at HE.out (i := i) (by rw [HMa.out]; exact hin)
        rw [HLS.out] at hj
        rw [HL.out] at hk
        have HOr := hid (HOA.out.still HSr.out)
        obtain ⟨g, cg, ee, _, _⟩ := HOr.out.head (by rw [HMa.out]; omega)
        rw [HMa.out] at ee
        cases ee
        have HV := hid (fun u (hu : Still wr u) => by
          have := owT (HOr.out.still hu) (i := i) (by rw [HMa.out]; exact hin)
          rw [hpp] at this
          exact And.intro this.1 this.2.1)
        have HPv := hid (fun (h0 : 0 < i) => (owT HOr.out (i := i - 1) (by rw [HMa.out]; omega)).1)
        have HPv2 := hid hprev
        have HRr := hid ((HR.out.still HS3.out).still HSr.out)
        have HRs := hid ((HRS.out.still HS3.out).still HSr.out)
        obtain ⟨B, o, rfl⟩ := HRr.out.at (by omega)
        obtain ⟨B2, o2, rfl⟩ := HRs.out.at (by omega)
        obtain ⟨y, ey⟩ : ∃ y, (pp (sho L S) (i - 1)).1 = y := ⟨_, rfl⟩
        rw [ey] at HPv HPv2
        unfold hS at hP
        simp only [Bool.and_eq_true, Bool.not_eq_true'] at hP
        obtain ⟨⟨hP1, hP2⟩, hP3⟩ := hP
        obtain ⟨x, ex⟩ : ∃ x, mm L k = x := ⟨_, rfl⟩
        obtain ⟨z, ez⟩ : ∃ x, ss S j = x := ⟨_, rfl⟩
        rw [ex] at hP1 hP3
        rw [ez] at hP2 hP3
        obtain ⟨m0, m1, m2, m3, m4, m5, m6, m7, m8, m9, m10, m11, m12⟩ := rdM HRr.out hk
        obtain ⟨s0, s1, s2, s3, s4, s5, s6, s7⟩ := rdS HRs.out hj
        rw [ex] at m0 m1 m2 m3 m4 m5 m6 m7 m8 m9 m10 m11 m12
        rw [ez] at s0 s1 s2 s3 s4 s5 s6 s7
        have hou : x.ou = 0 := by simpa using hP1
        have hou2 : decide (0 < x.ou) = false := by simp; omega
        have how : (z.ow == (k : Int)) = false := by
          rw [beq_eq_false_iff_ne] at hP2 ⊢
          exact fun h => hP2 h.symm
        have HAr := hid (fun w => around_any x.ax x.ay 1280 w)
        rw [c1280] at HAr
        have HIn := hid (fun w => inside_any (subf x.ax 1280) (subf x.ay 1280) (addf x.ax 1280) (addf x.ay 1280) z.ax z.ay w)
        unfold inn at hP3
        rw [hP3] at HIn
        clear ex ez ey hP1 hP2 hP3 hprev hpp hou
        obtain ⟨x1, e1'⟩ : ∃ z, subf x.ax 1280 = z := ⟨_, rfl⟩
        obtain ⟨x2, e2'⟩ : ∃ z, subf x.ay 1280 = z := ⟨_, rfl⟩
        obtain ⟨x3, e3'⟩ : ∃ z, addf x.ax 1280 = z := ⟨_, rfl⟩
        obtain ⟨x4, e4'⟩ : ∃ z, addf x.ay 1280 = z := ⟨_, rfl⟩
        rw [e1', e2', e3', e4'] at HAr HIn
        clear e1' e2' e3' e4'
        have hj0 : ¬ (j : Int) < 0 := by omega
        have hj0' : decide ((j : Int) < 0) = false := by simp
        have hk0 : ¬ (k : Int) < 0 := by omega
        have hk0' : decide ((k : Int) < 0) = false := by simp
        have hjr1 : decide ((r : Int) ≤ (j : Int)) = false := by simp; omega
        have hjr2 : decide (r ≤ j) = false := by simp; omega
        have hkn1 : decide ((n : Int) ≤ (k : Int)) = false := by simp; omega
        have hkn2 : decide (n ≤ k) = false := by simp; omega
        have hjr3 : (j : Int) < (r : Int) := by omega
        have hkn3 : (k : Int) < (n : Int) := by omega
        have hi48 : i < 48 := by omega
        have k0 := Cl.cell (HV.out _ (Fr.refl _ _)).1
        have k1 := Cl.cell (HV.out _ (Fr.refl _ _)).2
        have hne := Aft.here wr
        have HM1 : Hid (∀ u, Still wr u → u.cell? ⟨B, o + k * 13, none⟩ = some (.int .i64 x.ax) ∧ u.cell? ⟨B, o + k * 13 + 1, none⟩ = some (.int .i64 x.ay) ∧ u.cell? ⟨B, o + k * 13 + 2, none⟩ = some (.int .i64 x.sx) ∧ u.cell? ⟨B, o + k * 13 + 3, none⟩ = some (.int .i64 x.sy) ∧ u.cell? ⟨B, o + k * 13 + 4, none⟩ = some (.int .i64 x.px) ∧ u.cell? ⟨B, o + k * 13 + 5, none⟩ = some (.int .i64 x.py) ∧ u.cell? ⟨B, o + k * 13 + 6, none⟩ = some (.int .i64 x.fc) ∧ u.cell? ⟨B, o + k * 13 + 7, none⟩ = some (.int .i64 x.hl) ∧ u.cell? ⟨B, o + k * 13 + 8, none⟩ = some (.int .i64 x.en) ∧ u.cell? ⟨B, o + k * 13 + 9, none⟩ = some (.bool x.sh) ∧ u.cell? ⟨B, o + k * 13 + 10, none⟩ = some (.int .i64 x.co) ∧ u.cell? ⟨B, o + k * 13 + 11, none⟩ = some (.int .i64 x.ou) ∧ u.cell? ⟨B, o + k * 13 + 12, none⟩ = some (.int .i64 x.sd)) := hid (fun u hu => ⟨(hu.cell (World.block_lt_of_cell? wr _ m0) (fun e => e)).trans m0, (hu.cell (World.block_lt_of_cell? wr _ m1) (fun e => e)).trans m1, (hu.cell (World.block_lt_of_cell? wr _ m2) (fun e => e)).trans m2, (hu.cell (World.block_lt_of_cell? wr _ m3) (fun e => e)).trans m3, (hu.cell (World.block_lt_of_cell? wr _ m4) (fun e => e)).trans m4, (hu.cell (World.block_lt_of_cell? wr _ m5) (fun e => e)).trans m5, (hu.cell (World.block_lt_of_cell? wr _ m6) (fun e => e)).trans m6, (hu.cell (World.block_lt_of_cell? wr _ m7) (fun e => e)).trans m7, (hu.cell (World.block_lt_of_cell? wr _ m8) (fun e => e)).trans m8, (hu.cell (World.block_lt_of_cell? wr _ m9) (fun e => e)).trans m9, (hu.cell (World.block_lt_of_cell? wr _ m10) (fun e => e)).trans m10, (hu.cell (World.block_lt_of_cell? wr _ m11) (fun e => e)).trans m11, (hu.cell (World.block_lt_of_cell? wr _ m12) (fun e => e)).trans m12⟩)
        have HS1 : Hid (∀ u, Still wr u → u.cell? ⟨B2, o2 + j * 8, none⟩ = some (.int .i64 z.no) ∧ u.cell? ⟨B2, o2 + j * 8 + 1, none⟩ = some (.int .i64 z.ow) ∧ u.cell? ⟨B2, o2 + j * 8 + 2, none⟩ = some (.int .i64 z.pw) ∧ u.cell? ⟨B2, o2 + j * 8 + 3, none⟩ = some (.int .i64 z.ax) ∧ u.cell? ⟨B2, o2 + j * 8 + 4, none⟩ = some (.int .i64 z.ay) ∧ u.cell? ⟨B2, o2 + j * 8 + 5, none⟩ = some (.int .i64 z.sx) ∧ u.cell? ⟨B2, o2 + j * 8 + 6, none⟩ = some (.int .i64 z.sy) ∧ u.cell? ⟨B2, o2 + j * 8 + 7, none⟩ = some (.int .i64 z.lf)) := hid (fun u hu => ⟨(hu.cell (World.block_lt_of_cell? wr _ s0) (fun e => e)).trans s0, (hu.cell (World.block_lt_of_cell? wr _ s1) (fun e => e)).trans s1, (hu.cell (World.block_lt_of_cell? wr _ s2) (fun e => e)).trans s2, (hu.cell (World.block_lt_of_cell? wr _ s3) (fun e => e)).trans s3, (hu.cell (World.block_lt_of_cell? wr _ s4) (fun e => e)).trans s4, (hu.cell (World.block_lt_of_cell? wr _ s5) (fun e => e)).trans s5, (hu.cell (World.block_lt_of_cell? wr _ s6) (fun e => e)).trans s6, (hu.cell (World.block_lt_of_cell? wr _ s7) (fun e => e)).trans s7⟩)
        clear m0 m1 m2 m3 m4 m5 m6 m7 m8 m9 m10 m11 m12 s0 s1 s2 s3 s4 s5 s6 s7
        have HGo : Hid ((0 < i ∧ decide (0 < i) = true ∧ (0 : Int) < (i : Int) ∧ decide ((0 : Int) < (i : Int)) = true ∧ wr.cell? ⟨g, (i - 1) * 2, none⟩ = some (.int .i64 y) ∧ decide ((j : Int) ≤ y) = false) ∨ (¬ 0 < i ∧ decide (0 < i) = false ∧ ¬ (0 : Int) < (i : Int) ∧ decide ((0 : Int) < (i : Int)) = false)) := hid (by
          by_cases h0 : 0 < i
          · exact .inl ⟨h0, by simpa using h0, by omega, by simp; omega, HPv.out h0, by have := HPv2.out h0; simp; omega⟩
          · exact .inr ⟨h0, by simpa using h0, by omega, by simp; omega⟩)
        clear HPv HPv2
        rcases HGo.out with ⟨q1, q2, q3, q4, q5, q6⟩ | ⟨q1, q2, q3, q4⟩
        all_goals
          clear HGo
          (try have k2 := Cl.cell q5)
          (try clear q5)
          go_wp2_with fail
          refine region_all (by kernel_rfl) (by kernel_rfl) ?_
          repeat (go_big_quiet_step (fail))
          refine wpQuiet_nil ?_
          intro w5 h5
          obtain ⟨s0, s1, s2, s3, s4, s5, s6, s7⟩ := HS1.out _ h5
          obtain ⟨v0, v1⟩ := HV.out _ h5
          have A6 := Still.alloc w5 (.cells (scs z) 49)
          have A7 := Still.alloc (newS w5 z) (.cells (mcs x) 35)
          have h56 := h5.trans A6
          have h67 := h56.trans A7
          have sb := (newS_sb w5 z).still A7
          have mb7 := newM_mb (newS w5 z) x
          simp only [size_alloc] at mb7
          obtain ⟨m0, m1, m2, m3, m4, m5, m6, m7, m8, m9, m10, m11, m12⟩ := HM1.out _ h56
          obtain ⟨v2, v3⟩ := HV.out _ h56
          obtain ⟨v4, v5⟩ := HV.out _ h67
          have HS7 := hid (HSr.out.trans h67)
          clear hne k0 k1 h5 A6 A7 h56 h67
          (try clear k2)
          obtain ⟨W7, eW7⟩ : ∃ W, (w5.alloc (.cells (scs z) 49)).alloc (.cells (mcs x) 35) = W := ⟨_, rfl⟩
          have sb7 : Sb W7 w5.heap.size z := by rw [← eW7]; exact sb
          have mb8 : Mb W7 (w5.heap.size + 1) x := by rw [← eW7]; exact mb7
          have v6 : W7.cell? ⟨g, i * 2 + 1, none⟩ = some (.int .i64 (k : Int)) := by rw [← eW7]; exact v5
          have HS8 : Hid (Still w3 W7) := hid (by rw [← eW7]; exact HS7.out)
          clear sb mb7 HS7 v4 v5
          go_upto_region 12 with fail
          clear eW7 m0 m1 m2 m3 m4 m5 m6 m7 m8 m9 m10 m11 m12 s0 s1 s2 s3 s4 s5 s6 s7 v0 v1 v2 v3
          obtain ⟨s0, s1, s2, s3, s4, s5, s6, s7, sf⟩ := sb7.cells
          obtain ⟨m0, m1, m2, m3, m4, m5, m6, m7, m8, m9, m10, m11, m12, mf⟩ := mb8.cells
          have k0 := Cl.cell v6
          have k1 := Cl.cell s1
          have k2 := Cl.cell s3
          have k3 := Cl.cell s4
          have k4 := Cl.cell m0
          have k5 := Cl.cell m1
          have k6 := Cl.cell m11
          have hne := Aft.here W7
          clear m0 m1 m2 m3 m4 m5 m6 m7 m8 m9 m10 m11 m12 mf s0 s1 s2 s3 s4 s5 s6 s7 sf v6
          refine region_all (by kernel_rfl) (by kernel_rfl) ?_
          repeat (go_big_quiet_step ((first | (go_at_call 22; with_reducible exact Calls.cl (HAr.out _)) | (go_at_call 21; with_reducible exact Calls.cl (HIn.out _)))))
          refine wpQuiet_nil ?_
          intro w9 h9
          have HS9 := hid (HS8.out.trans h9)
          clear h9 HS8 hne k0 k1 k2 k3 k4 k5 k6
          go_wp2_with fail
          go_roundw
          case rel => exact ⟨i + 1, by omega, by go_num, HS9.out⟩
          case measure => simp [intOf]; omega
      · have hge : ¬ (i : Int) < (ma : Int) := by omega
        clear hin hi
        go_wp2_with fail
        go_loopw [13] (fun u wr => ∃ i : Nat, i ≤ mb ∧ u = .int .i64 (i : Int) ∧ Still w3 wr) (fun u _ => mb - (intOf u).toNat)
        case atStart => exact ⟨0, by omega, rfl, HSr.out⟩
        case round =>
          obtain ⟨i, hi, rfl, hs⟩ := hrel
          clear HSr
          have HSr := hid hs
          clear hs
          by_cases hin : i < mb
          · have hlt : (i : Int) < (mb : Int) := by omega
            obtain ⟨j, k, hjk, hkn, hpp, ho1, ho2⟩ := bod_at HT.out (i := i) (by rw [HMb.out]; exact hin)
            rw [HL.out] at hkn
            have HOr := HOB.out.still HSr.out
            obtain ⟨g, cg, e1, _, _⟩ := HOr.head (by rw [HMb.out]; omega)
            rw [HMb.out] at e1
            cases e1
            obtain ⟨c0, c1, _⟩ := owT HOr (i := i) (by rw [HMb.out]; exact hin)
            rw [hpp] at c0 c1
            have HRr := hid ((HR.out.still HS3.out).still HSr.out)
            obtain ⟨B, o, rfl⟩ := HRr.out.at (by omega)
            have d1 := (rdM HRr.out (i := j) (by omega)).2.2.2.2.2.2.2.2.2.2.2.1
            have d2 := (rdM HRr.out (i := k) hkn).2.2.2.2.2.2.2.2.2.2.2.1
            rw [ho1] at d1
            rw [ho2] at d2
            simp only at c0 c1
            have k0 := Cl.cell c0
            have k1 := Cl.cell c1
            have k2 := Cl.cell d1
            have k3 := Cl.cell d2
            have hne := Aft.here wr
            have hj0 : ¬ (j : Int) < 0 := by omega
            have hj0' : decide ((j : Int) < 0) = false := by simp
            have hjk1 : decide ((k : Int) ≤ (j : Int)) = false := by simp; omega
            have hjk2 : decide (k ≤ j) = false := by simp; omega
            have hkn1 : decide ((n : Int) ≤ (k : Int)) = false := by simp; omega
            have hkn2 : decide (n ≤ k) = false := by simp; omega
            have hjn : (j : Int) < (n : Int) := by omega
            have hkn3 : (k : Int) < (n : Int) := by omega
            have hjn' : j < n := by omega
            clear c0 c1 d1 d2 HOr hpp ho1 ho2
            go_wp2_with fail
            refine region_all (by kernel_rfl) (by kernel_rfl) ?_
            repeat (go_big_quiet_step (fail))
            refine wpQuiet_nil ?_
            intro w9 h9
            have HS9 := hid (HSr.out.trans h9)
            clear h9 HSr hne k0 k1 k2 k3 HRr
            go_wp2_with fail
            go_roundw
            case rel => exact ⟨i + 1, by omega, by go_num, HS9.out⟩
            case measure => simp [intOf]; omega
          · have hge : ¬ (i : Int) < (mb : Int) := by omega
            clear hin hi
            go_wp2_with fail
            go_ret
            exact ⟨rfl, HS3.out.trans HSr.out⟩
end Go.Proofs.Ytpohikhiekmfgaa
