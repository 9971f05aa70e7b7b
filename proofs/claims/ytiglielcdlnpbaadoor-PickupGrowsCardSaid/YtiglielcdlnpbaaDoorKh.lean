/- The law on how pickups grow. -/
import Derived.Test.YtiglielcdlnpbaaDoorKg
namespace Go.Proofs.YtiglielcdlnpbaaDoor
open Go.RowKit
open Pu Gp Np Ka
set_option maxRecDepth 100000

theorem pk_out {L : List Pk} {i : Nat} (h : ¬ i < L.length) : pk L i = zK := by
  simp [pk, List.getD, List.getElem?_eq_none (show L.length ≤ i by omega)]
theorem may_in {L : List Pk} {s : Int} (h : MayK L s) : InK L := fun i => by
  by_cases hi : i < L.length
  · obtain ⟨h1, _, h3, h4, _⟩ := h.2.2 i hi
    have := h.1
    exact ⟨⟨by omega, by omega⟩, ⟨by omega, by omega⟩, by omega, by omega⟩
  · rw [pk_out hi]
    exact ⟨⟨by decide, by decide⟩, ⟨by decide, by decide⟩, by decide, by decide⟩
theorem may_nil {s : Int} (h0 : 0 ≤ s) (h1 : s ≤ 16) : MayK [] s := ⟨⟨h0, h1⟩, by simp, fun i hi => by simp at hi⟩
theorem err_may {L : List Pk} {s : Int} {i : Nat} (h : MayK L s) (hi : i ≤ 400) : errK L (i : Int) s ((i : Int) + 1) = 0 := by
  unfold errK
  rw [mayK_iff.2 h, argK_iff.2 ⟨⟨by omega, by omega⟩, by omega, by omega⟩]
  rfl
theorem come_room {L : List Pk} {s : Int} {i : Nat} (h : MayK L s) (hi : i ≤ 400) (h1 : i % 16 = 0) (h2 : L.length < 8) (h3 : (L.length : Int) < s) : comes L (i : Int) s ((i : Int) + 1) = true := by
  have hf := may_free h
  have := h.1
  unfold comes
  rw [err_may h hi]
  have e1 : ((i : Int) % 16 == 0) = true := by simp; omega
  have e2 : (L.length == 8) = false := by simp; omega
  have e3 : ((fre L s.toNat).length == 0) = false := by rw [beq_eq_false_iff_ne]; omega
  rw [e1, e2, e3]
  rfl
theorem room_come {L : List Pk} {s : Int} {i : Nat} (h : comes L (i : Int) s ((i : Int) + 1) = true) : i % 16 = 0 ∧ L.length < 8 ∧ (L.length : Int) < s := by
  obtain ⟨h1, _, _, h4, h5, h6⟩ := comes_may h
  have hf := may_free h1
  have := h1.1
  exact ⟨by omega, h5, by omega⟩
set_option maxHeartbeats 4000000 in
theorem grows_law (q f s no fr : Int) (hq : InQ q f s no) (w : World) (C : Cts10 w) : Calls Tryd.prog 6 #[.agg (qcs q f s no), .int .i64 fr] w fun e w' => e = .returned (.bool true) ∧ Still w w' := by
  have A0 := Still.alloc w (.cells (qcs q f s no) 31)
  have p0 := newQ_qb w q f s no
  have HS0 := hid A0
  have HQ := hid hq
  have G1 := guard_kv
  clear hq A0
  go_enter Tryd.func6, Tryd.ntmps6
  go_wp2_with fail
  refine (awake10_any _ (C.still HS0.out)).mono ?_
  rintro e w1 ⟨rfl, h1⟩
  have p1 := p0.still h1
  have HS1 := hid (HS0.out.trans h1)
  clear h1 HS0 p0
  obtain ⟨c0, c1, c2, c3, cf⟩ := p1.cells
  by_cases z0 : s < 0
  · go_wp2_with fail
    go_ret
    exact ⟨rfl, HS1.out⟩
  by_cases z1 : s > 16
  · go_wp2_with fail
    go_ret
    exact ⟨rfl, HS1.out⟩
  by_cases z2 : fr > 400
  · have z1' : decide (16 < s) = false := by simpa using z1
    go_wp2_with fail
    go_ret
    exact ⟨rfl, HS1.out⟩
  have z1' : decide (16 < s) = false := by simpa using z1
  have z2' : decide (400 < fr) = false := by simpa using z2
  have HZ := hid (show (0 ≤ s ∧ s ≤ 16) ∧ fr ≤ 400 by omega)
  clear z1 z2
  go_wp2_with fail
  clear z0 z1' z2' c0 c1 c2 c3 cf
  have HB := hid (show w.heap.size ≤ w1.heap.size from HS1.out.size)
  have HP := hid (block_lt p1)
  go_loopw [6, 7] (fun v u wr => ∃ (i : Nat) (L : List Pk), i ≤ fr.toNat ∧ u = .int .i64 (i : Int) ∧ OwK wr w1.heap.size v L ∧ Hid (MayK L s ∧ ∀ j, j < L.length → (pk L j).no ≤ (i : Int)) ∧ Qb wr w.heap.size q f s no ∧ Still w wr ∧ w1.heap.size ≤ wr.heap.size) (fun _ u _ => fr.toNat - (intOf u).toNat)
  case atStart => exact ⟨0, [], Nat.zero_le _, rfl, OwK.nil _ _, hid ⟨may_nil HZ.out.1.1 HZ.out.1.2, fun j hj => by simp at hj⟩, p1, HS1.out, Nat.le_refl _⟩
  case round =>
    clear HS1 p1
    obtain ⟨i, L, hi, rfl, o1, HM, p1, hs, hb⟩ := hrel
    by_cases hlt : (i : Int) < fr
    · obtain ⟨ao, cap, rfl, _⟩ := o1.slice
      have hi4 : i < 400 := by have := HZ.out; omega
      have HLE := hid (show L.length ≤ 8 from HM.out.1.2.1)
      have HRd := hid (show RdK wr ao L.length L from OwK.rd (M := []) (by rw [List.append_nil]; exact o1) (by have := HLE.out; omega))
      have HCp := hid o1.cap
      have HC := hid (C.spw q (i : Int) s ((i : Int) + 1) L ao L.length cap wr HQ.out.1 ⟨by omega, by omega⟩ HQ.out.2.2.1 ⟨by omega, by omega⟩ (may_in HM.out.1) HRd.out HCp.out hs)
      rw [err_may HM.out.1 (by omega)] at HC
      have HS1 := hid hs
      have HO1 := hid o1
      have HK := hid (fun (M : List Pk) (v : Option Addr) (cp : Nat) (u : World) (hm : MayK M s) (hr : RdK u v M.length M) (hcp : M.length ≤ cp) (hu : Still w u) => C.chk M s v M.length cp u HQ.out.2.2.1 (may_in hm) hr hcp hu)
      have HCR := hid (fun h1 h2 h3 => come_room (L := L) (s := s) (i := i) HM.out.1 (by omega) h1 h2 h3)
      have HRC := hid (fun h => room_come (L := L) (s := s) (i := i) h)
      have HG := hid (fun h => may_spawn (L := L) (q := q) (f := (i : Int)) (s := s) (no := (i : Int) + 1) h (fun j hj => by have := HM.out.2 j hj; omega))
      have HX : Hid (comes L (i : Int) s ((i : Int) + 1) = true → (spwn q (i : Int) L s ((i : Int) + 1)).no = (i : Int) + 1) := hid (fun h => by unfold spwn; rw [if_pos h])
      have HX0 : Hid (comes L (i : Int) s ((i : Int) + 1) = false → spwn q (i : Int) L s ((i : Int) + 1) = zK) := hid (fun h => by unfold spwn; rw [h]; rfl)
      obtain ⟨X, eX⟩ : ∃ X, spwn q (i : Int) L s ((i : Int) + 1) = X := ⟨_, rfl⟩
      obtain ⟨D, eD⟩ : ∃ D, comes L (i : Int) s ((i : Int) + 1) = D := ⟨_, rfl⟩
      rw [eX, eD] at HC HX HX0
      rw [eX] at HG
      have HED := hid eD
      obtain ⟨n, en⟩ : ∃ n, L.length = n := ⟨_, rfl⟩
      rw [en] at HC HRd ⊢
      have HEN := hid en
      clear eX eD hs o1 en
      obtain ⟨c0, c1, c2, c3, cf⟩ := p1.cells
      go_wp2_with fail
      refine HC.out.mono ?_
      rintro e w2 ⟨rfl, h2⟩
      have A2 := Still.alloc w2 (.cells (kcs X) 33)
      have p2 := (p1.still h2).still A2
      have x2 := newK_kb w2 X
      have HS2 := hid ((HS1.out.trans h2).trans A2)
      have HO2 := hid ((HO1.out.still h2).still A2)
      have HRd2 := hid ((HRd.out.still h2).still A2)
      have hb2 : w1.heap.size ≤ w2.heap.size := Nat.le_trans hb h2.size
      clear h2 A2 HS1 HO1 HRd HC p1 c0 c1 c2 c3 cf
      obtain ⟨c0, c1, c2, c3, cf⟩ := p2.cells
      obtain ⟨d0, d1, d2, df⟩ := x2.cells
      have hn8 : n ≤ 8 := by have := HLE.out; have := HEN.out; omega
      cases D with
      | true =>
        obtain ⟨r1, r2, r3⟩ := HRC.out HED.out
        rw [HEN.out] at r2 r3
        obtain ⟨xa, xb, xc⟩ := X
        obtain rfl : xa = (i : Int) + 1 := HX.out rfl
        have r1' : (i : Int) % 16 = 0 := by omega
        have r2' : (n : Int) < 8 := by omega
        have HMy := hid (HG.out HED.out)
        have A3 := Still.alloc (newK w2 ⟨(i : Int) + 1, xb, xc⟩) (.cells (kcs ⟨(i : Int) + 1, xb, xc⟩) 33)
        have HP3 := hid (p2.still A3)
        have x3 := newK_kb (newK w2 ⟨(i : Int) + 1, xb, xc⟩) ⟨(i : Int) + 1, xb, xc⟩
        simp only [size_alloc] at x3
        have HX3 := hid x3
        clear x3
        have HS3 := hid (HS2.out.trans A3)
        have HO3 := hid (HO2.out.still A3)
        have HBB := hid (show w1.heap.size ≤ (newK (newK w2 ⟨(i : Int) + 1, xb, xc⟩) ⟨(i : Int) + 1, xb, xc⟩).heap.size by simp only [size_alloc]; omega)
        simp only at d0 d1 d2
        clear A3 HO2 HS2 HRd2 p2 x2 HRC HCR HX HX0 HG
        go_upto_region 13 with fail
        rw [HEN.out] at HO3
        go_wp2_with (
          at_builtin
          refine wpList_appK _ rfl _ _ rfl w1.heap.size (w2.heap.size + 1) _ L ⟨(i : Int) + 1, xb, xc⟩ rfl rfl HO3.out HX3.out (by have := HLE.out; omega) HBB.out ?_
          intro v' w' ho' hf'
          have p4 := hf'.kept HP3.out (fun hk => by have := (HO3.out.block hk).1; have := HP.out; omega)
          have HS4 := hid (still_appK HS3.out HO3.out hf' HB.out)
          have hb4 : w1.heap.size ≤ w'.heap.size := Nat.le_trans HBB.out hf'.size
          obtain ⟨ao', cap', rfl, _⟩ := ho'.slice
          have HRd4 : Hid (RdK w' ao' (L ++ [(⟨(i : Int) + 1, xb, xc⟩ : Pk)]).length (L ++ [⟨(i : Int) + 1, xb, xc⟩])) := hid (OwK.rd (M := []) (by rw [List.append_nil]; exact ho') (by simp; have := HLE.out; omega))
          have HKc := hid (HK.out _ ao' cap' w' HMy.out HRd4.out ho'.cap HS4.out)
          rw [chkK_yes HMy.out] at HKc
          obtain ⟨n', en'⟩ : ∃ n', (L ++ [(⟨(i : Int) + 1, xb, xc⟩ : Pk)]).length = n' := ⟨_, rfl⟩
          rw [en'] at ho' HKc ⊢
          have HO4 := hid ho'
          have HEq := hid (show ∀ j, j < (L ++ [(⟨(i : Int) + 1, xb, xc⟩ : Pk)]).length → (pk (L ++ [⟨(i : Int) + 1, xb, xc⟩]) j).no ≤ ((i + 1 : Nat) : Int) from fun j hj => by
            by_cases hj2 : j < L.length
            · rw [pk_app hj2]; have := HM.out.2 j hj2; omega
            · obtain rfl : j = L.length := by simp at hj; omega
              rw [pk_end]
              show (i : Int) + 1 ≤ _
              omega)
          clear ho' hf' HO3 HX3 HP3 HS3 HBB HRd4 en' d0 d1 d2 df c0 c1 c2 c3 cf r1 r1' r2 r2' r3
          obtain ⟨c0, c1, c2, c3, cf⟩ := Qb.cells p4)
        refine HKc.out.mono ?_
        rintro e w5 ⟨rfl, h5⟩
        have HS5 := hid (HS4.out.trans h5)
        have HO5 := hid (HO4.out.still h5)
        have HP5 := hid (Qb.still p4 h5)
        have HB5 := hid (Nat.le_trans hb4 h5.size)
        clear h5 HS4 HO4 p4 c0 c1 c2 c3 cf HKc hb4
        go_wp2_with fail
        go_roundw
        case rel => exact ⟨i + 1, _, by omega, by go_num, HO5.out, hid ⟨HMy.out, HEq.out⟩, HP5.out, HS5.out, HB5.out⟩
        case measure => simp [intOf]; omega
      | false =>
        obtain ⟨xa, xb, xc⟩ := X
        have HZK : (⟨xa, xb, xc⟩ : Pk) = ⟨0, 0, 0⟩ := HX0.out rfl
        cases HZK
        have E2 : ∀ w, (binOp .neq 33 (.agg #[.int .i64 0, .int .i64 0, .int .i64 0]) (.agg #[.int .i64 0, .int .i64 0, .int .i64 0])).run Tryd.prog w = .ok (.bool false) w := neq_kv_f zK
        simp only at d0 d1 d2
        have HKc := hid (HK.out L ao cap _ HM.out.1 (by rw [HEN.out]; exact HRd2.out) HCp.out HS2.out)
        rw [chkK_yes HM.out.1, HEN.out] at HKc
        have HNo := hid (show ¬ (i % 16 = 0 ∧ n < 8 ∧ (n : Int) < s) from fun h => by
          have := HCR.out h.1 (by rw [HEN.out]; exact h.2.1) (by rw [HEN.out]; exact h.2.2)
          rw [HED.out] at this
          cases this)
        have hb3 : w1.heap.size ≤ (newK w2 ⟨0, 0, 0⟩).heap.size := by simp only [size_alloc]; omega
        have HB3 := hid hb3
        rw [HEN.out] at HO2
        have HEq := hid (show ∀ j, j < L.length → (pk L j).no ≤ ((i + 1 : Nat) : Int) from fun j hj => by have := HM.out.2 j hj; omega)
        clear HCR HRC HG HX HX0 HRd2 hb3 x2
        by_cases r1 : i % 16 = 0
        · have r1' : (i : Int) % 16 = 0 := by omega
          by_cases r2 : n < 8
          · have r2' : (n : Int) < 8 := by omega
            have r3 : ¬ (n : Int) < s := fun h => HNo.out ⟨r1, r2, h⟩
            have r3' : decide ((n : Int) < s) = false := by simpa using r3
            go_wp2_with fail
            refine HKc.out.mono ?_
            rintro e w5 ⟨rfl, h5⟩
            have HS5 := hid (HS2.out.trans h5)
            have HO5 := hid (HO2.out.still h5)
            have HP5 := hid (p2.still h5)
            have HB5 := hid (Nat.le_trans HB3.out h5.size)
            clear h5 HS2 HO2 p2 c0 c1 c2 c3 cf d0 d1 d2 df HKc
            go_wp2_with fail
            go_roundw
            case rel => exact ⟨i + 1, L, by omega, by go_num, HO5.out, hid ⟨HM.out.1, HEq.out⟩, HP5.out, HS5.out, HB5.out⟩
            case measure => simp [intOf]; omega
          · have r2' : ¬ (n : Int) < 8 := by omega
            have r2'' : decide ((n : Int) < 8) = false := by simpa using r2'
            go_wp2_with fail
            refine HKc.out.mono ?_
            rintro e w5 ⟨rfl, h5⟩
            have HS5 := hid (HS2.out.trans h5)
            have HO5 := hid (HO2.out.still h5)
            have HP5 := hid (p2.still h5)
            have HB5 := hid (Nat.le_trans HB3.out h5.size)
            clear h5 HS2 HO2 p2 c0 c1 c2 c3 cf d0 d1 d2 df HKc
            go_wp2_with fail
            go_roundw
            case rel => exact ⟨i + 1, L, by omega, by go_num, HO5.out, hid ⟨HM.out.1, HEq.out⟩, HP5.out, HS5.out, HB5.out⟩
            case measure => simp [intOf]; omega
        · have r1' : ¬ (i : Int) % 16 = 0 := by omega
          go_wp2_with fail
          refine HKc.out.mono ?_
          rintro e w5 ⟨rfl, h5⟩
          have HS5 := hid (HS2.out.trans h5)
          have HO5 := hid (HO2.out.still h5)
          have HP5 := hid (p2.still h5)
          have HB5 := hid (Nat.le_trans HB3.out h5.size)
          clear h5 HS2 HO2 p2 c0 c1 c2 c3 cf d0 d1 d2 df HKc
          go_wp2_with fail
          go_roundw
          case rel => exact ⟨i + 1, L, by omega, by go_num, HO5.out, hid ⟨HM.out.1, HEq.out⟩, HP5.out, HS5.out, HB5.out⟩
          case measure => simp [intOf]; omega
    · have hge : ¬ (i : Int) < fr := hlt
      have HS1 := hid hs
      clear hs o1 p1 hlt
      go_wp2_with fail
      go_ret
      exact ⟨rfl, HS1.out⟩
end Go.Proofs.YtiglielcdlnpbaaDoor
