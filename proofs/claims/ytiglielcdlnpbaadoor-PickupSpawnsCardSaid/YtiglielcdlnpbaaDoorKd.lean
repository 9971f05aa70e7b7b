/- The document's Spawn of pickups. -/
import Derived.Test.YtiglielcdlnpbaaDoorKc
import Derived.Test.YtiglielcdlnpbaaDoorK4
namespace Go.Proofs.YtiglielcdlnpbaaDoor
open Go.RowKit
open Pu Gp Np Ka
set_option maxRecDepth 100000

theorem rspawn_may (q f s no : Int) (L : List Pk) (ao : Option Addr) (n cap : Nat) (w : World) (hr : RdK w ao n L) (hm : mayK L s = false) : Calls Tryd.prog 14 #[.int .u64 q, .int .i64 f, .slice ao n cap, .int .i64 s, .int .i64 no] w fun e w' => e = .returned (.tuple #[kv zK, .bool false, .int .i64 100]) ∧ Still w w' := by
  have A0 := Still.alloc w (.cells (kcs zK) 33)
  have p0 := newK_kb w zK
  have H := hid (rchk10_any L s ao n cap _ (hr.still A0))
  rw [show chkK L s = 100 by unfold chkK; rw [hm]; rfl] at H
  have HS0 := hid A0
  clear hm hr A0
  go_enter Tryd.func14, Tryd.ntmps14
  go_wp2_with fail
  refine H.out.mono ?_
  rintro e w1 ⟨rfl, h1⟩
  have p1 := p0.still h1
  have HS1 := hid (HS0.out.trans h1)
  clear h1 HS0 p0 H
  obtain ⟨c0, c1, c2, cf⟩ := p1.cells
  go_wp2_with fail
  refine bodyPost_ret (Kb.rest3 (Kb.put p1 _ _ _) rfl _ _ _ rfl rfl rfl) rfl ⟨rfl, ?_⟩
  repeat (first | refine setC_fr ?_ _ _ _ (by omega) | with_reducible exact HS1.out)
set_option maxHeartbeats 1000000 in
theorem rspawn_arg (q f s no : Int) (L : List Pk) (ao : Option Addr) (n cap : Nat) (w : World) (hr : RdK w ao n L) (hm : mayK L s = true) (ha : argK f no = false) : Calls Tryd.prog 14 #[.int .u64 q, .int .i64 f, .slice ao n cap, .int .i64 s, .int .i64 no] w fun e w' => e = .returned (.tuple #[kv zK, .bool false, .int .i64 1]) ∧ Still w w' := by
  have HA : Hid (¬ f < 0 → ¬ f > 1099511627776 → ¬ no < 1 → no > 1099511627776) := hid (fun h1 h2 h3 => by
    cases h : decide (no > 1099511627776) with
    | true => simpa using h
    | false =>
      have h6 : ¬ no > 1099511627776 := by simpa using h
      have := argK_iff.2 (show (0 ≤ f ∧ f ≤ 1099511627776) ∧ 1 ≤ no ∧ no ≤ 1099511627776 by omega)
      rw [this] at ha
      cases ha)
  have A0 := Still.alloc w (.cells (kcs zK) 33)
  have p0 := newK_kb w zK
  have H := hid (rchk10_any L s ao n cap _ (hr.still A0))
  rw [show chkK L s = 0 by unfold chkK; rw [hm]; rfl] at H
  have HS0 := hid A0
  clear hm hr A0 ha
  go_enter Tryd.func14, Tryd.ntmps14
  go_wp2_with fail
  refine H.out.mono ?_
  rintro e w1 ⟨rfl, h1⟩
  have p1 := p0.still h1
  have HS1 := hid (HS0.out.trans h1)
  clear h1 HS0 p0 H
  obtain ⟨c0, c1, c2, cf⟩ := p1.cells
  by_cases g0 : f < 0
  · go_wp2_with fail
    refine bodyPost_ret (Kb.rest3 (Kb.put p1 _ _ _) rfl _ _ _ rfl rfl rfl) rfl ⟨rfl, ?_⟩
    repeat (first | refine setC_fr ?_ _ _ _ (by omega) | with_reducible exact HS1.out)
  · skip
    by_cases g1 : f > 1099511627776
    · go_wp2_with fail
      refine bodyPost_ret (Kb.rest3 (Kb.put p1 _ _ _) rfl _ _ _ rfl rfl rfl) rfl ⟨rfl, ?_⟩
      repeat (first | refine setC_fr ?_ _ _ _ (by omega) | with_reducible exact HS1.out)
    · skip
      by_cases g2 : no < 1
      · go_wp2_with fail
        refine bodyPost_ret (Kb.rest3 (Kb.put p1 _ _ _) rfl _ _ _ rfl rfl rfl) rfl ⟨rfl, ?_⟩
        repeat (first | refine setC_fr ?_ _ _ _ (by omega) | with_reducible exact HS1.out)
      · skip
        have g3 : no > 1099511627776 := HA.out (by omega) (by omega) (by omega)
        go_wp2_with fail
        refine bodyPost_ret (Kb.rest3 (Kb.put p1 _ _ _) rfl _ _ _ rfl rfl rfl) rfl ⟨rfl, ?_⟩
        repeat (first | refine setC_fr ?_ _ _ _ (by omega) | with_reducible exact HS1.out)
theorem fre_step (L : List Pk) (j : Nat) : fre L (j + 1) = fre L j ++ (if lies L j then [] else [(j : Int)]) := rfl
set_option maxHeartbeats 4000000 in
theorem rspawn_ok (q f no : Int) (S : Nat) (L : List Pk) (ao : Option Addr) (n cap : Nat) (w : World) (hr : RdK w ao n L) (hm : MayK L (S : Int)) (a0 : ¬ f < 0) (a1 : decide (1099511627776 < f) = false) (a2 : ¬ no < 1) (a3 : decide (1099511627776 < no) = false) (D : Bool) (X Y Z : Int)
    (hD : (f % 16 ≠ 0 ∨ n = 8 ∨ (fre L S).length = 0) → D = false ∧ X = 0 ∧ Y = 0 ∧ Z = 0) (hD2 : f % 16 = 0 → n ≠ 8 → (fre L S).length ≠ 0 → D = true ∧ X = no ∧ Y = (fre L S).getD (bel (atI q f 1) ((fre L S).length : Int)).toNat 0 ∧ Z = wgt (atI q f 2) [5, 3, 2] + 1) :
    Calls Tryd.prog 14 #[.int .u64 q, .int .i64 f, .slice ao n cap, .int .i64 (S : Int), .int .i64 no] w fun e w' => e = .returned (.tuple #[kv ⟨X, Y, Z⟩, .bool D, .int .i64 0]) ∧ Still w w' := by
  obtain ⟨i0, hi, hz, hz1, hz2⟩ := info_parts info_int
  have A0 := Still.alloc w (.cells (kcs zK) 33)
  have p0 := newK_kb w zK
  have H := hid (rchk10_any L (S : Int) ao n cap _ (hr.still A0))
  rw [chkK_yes hm] at H
  have HS0 := hid A0
  have HR := hid hr
  have HM := hid (show S ≤ 16 ∧ n ≤ 8 ∧ L.length = n by have := hm.1; have := hm.2.1; have := hr.1; omega)
  have HD := hid (And.intro hD hD2)
  have hn8 : n ≤ 8 := HM.out.2.1
  have hS16 : S ≤ 16 := HM.out.1
  clear hm hr A0 hD hD2
  go_enter Tryd.func14, Tryd.ntmps14
  go_wp2_with fail
  refine H.out.mono ?_
  rintro e w1 ⟨rfl, h1⟩
  have p1 := p0.still h1
  have HS1 := hid (HS0.out.trans h1)
  clear h1 HS0 p0 H
  go_wp2_with fail
  have hf0 : 0 ≤ f ∧ f ≤ 1099511627776 := by simp at a1; omega
  clear a0 a1 a2 a3
  go_loopw [14, 15] (fun v u wr => ∃ (j : Nat) (bo : Option Addr) (m cp : Nat), j ≤ S ∧ v = .slice bo m cp ∧ u = .int .i64 (j : Int) ∧ OwI 3 wr bo m cp (fre L j) ∧ Still w1 wr ∧ ∀ a, bo = some a → w1.heap.size ≤ a.block) (fun _ u _ => S - (intOf u).toNat)
  case atStart => exact ⟨0, none, 0, 0, Nat.zero_le _, rfl, rfl, OwI.empty _ _, Fr.refl _ _, fun _ h => by cases h⟩
  case round =>
    obtain ⟨j, bo, m, cp, hj, rfl, rfl, ho, hst, hbo⟩ := hrel
    by_cases hjS : j < S
    · have hlt : (j : Int) < (S : Int) := by omega
      have HO := hid (And.intro ho (And.intro hst hbo))
      have HR2 := hid ((HR.out.still HS1.out).still hst)
      clear ho hst hbo
      go_wp2_with fail
      go_loopw [16, 17] (fun v u wx => ∃ k : Nat, k ≤ n ∧ v = .bool (lies (L.take k) j) ∧ u = .int .i64 (k : Int) ∧ wx = wr) (fun _ u _ => n - (intOf u).toNat)
      case atStart => exact ⟨0, by omega, rfl, rfl, rfl⟩
      case round =>
        obtain ⟨k, hk, rfl, rfl, rfl⟩ := hrel
        by_cases hkn : k < n
        · have hlt2 : (k : Int) < (n : Int) := by omega
          obtain ⟨B, o, rfl, hc⟩ := HR2.out.at (by omega)
          obtain ⟨_, z1, _⟩ := hc k hkn
          have HB := hid (lies_step (L := L) (k := k) (j := j) (by have := HM.out; omega))
          obtain ⟨y, ey⟩ : ∃ y, (pk L k).sp = y := ⟨_, rfl⟩
          obtain ⟨b, eb⟩ : ∃ b, lies (L.take k) j = b := ⟨_, rfl⟩
          rw [ey] at z1 HB
          rw [eb] at HB ⊢
          clear ey eb hc
          cases b with
          | true =>
            go_wp2_with fail
            go_roundw
            case rel => exact ⟨k + 1, by omega, by rw [HB.out]; rfl, by go_num, by trivial⟩
            case measure => simp [intOf]; omega
          | false =>
            go_wp2_with fail
            go_roundw
            case rel => exact ⟨k + 1, by omega, by rw [HB.out]; rfl, by go_num, by trivial⟩
            case measure => simp [intOf]; omega
        · have hge2 : ¬ (k : Int) < (n : Int) := by omega
          have HT : Hid (L.take k = L) := hid (List.take_of_length_le (by have := HM.out; omega))
          have HFr := hid (fre_step L j)
          rw [HT.out]
          obtain ⟨b, eb⟩ : ∃ b, lies L j = b := ⟨_, rfl⟩
          rw [eb] at HFr ⊢
          clear eb hkn hk HT
          cases b with
          | true =>
            go_wp2_with fail
            go_roundw
            case rel => exact ⟨j + 1, bo, m, cp, by omega, rfl, by go_num, by rw [HFr.out]; simpa using HO.out.1, HO.out.2.1, HO.out.2.2⟩
            case measure => simp [intOf]; omega
          | false =>
            have hml : m ≤ 16 := by have := HO.out.1.rd.len; have := fre_len_le L j; have := HM.out; omega
            go_wp2_with (at_builtin; refine wpList_appI _ rfl _ _ 51 rfl 3 i0 Tryd.underlying51 hi hz hz1 hz2 bo (some ⟨wr.heap.size, 0, none⟩) m cp 1 1 (fre L j) [(j : Int)] rfl rfl (HO.out.1.alloc _) (OwI.one _ wr _).rd (by omega) ?_; intro bo' cp' w2 ho' hf' hn' _)
            obtain ⟨hst', hbo'⟩ := still_appI HO.out.2.1 HO.out.2.2 hf' hn'
            go_roundw
            case rel => exact ⟨j + 1, bo', m + 1, cp', by omega, rfl, by go_num, by rw [HFr.out]; exact ho', hst', hbo'⟩
            case measure => simp [intOf]; omega
    · have hge : ¬ (j : Int) < (S : Int) := by omega
      obtain rfl : j = S := by omega
      clear hi hz hz1 hz2 hge hj hjS
      have HL := hid ho.rd.len
      have HO := hid ho
      have p2 := p1.still hst
      have HS2 := hid (HS1.out.trans hst)
      have HBO := hid hbo
      clear ho hst hbo HS1 p1
      obtain ⟨c0, c1, c2, cf⟩ := p2.cells
      have hm16 : m ≤ 16 := by have := HL.out; have := fre_len_le L j; omega
      by_cases z0 : f % 16 = 0
      · have z0' : f.tmod 16 = 0 := by rw [Int.tmod_eq_emod_of_nonneg (by omega)]; exact z0
        have HZ := hid z0
        clear z0
        by_cases z1 : n = 8
        · have z1' : ((n : Int) == 8) = true := by simp; omega
          have HE := hid (HD.out.1 (.inr (.inl z1)))
          clear z1
          go_wp2_with fail
          obtain ⟨rfl, rfl, rfl, rfl⟩ := HE.out
          refine bodyPost_ret (Kb.rest3 (Kb.put p2 _ _ _) rfl _ _ _ rfl rfl rfl) rfl ⟨rfl, ?_⟩
          repeat (first | refine setC_fr ?_ _ _ _ (by omega) | with_reducible exact HS2.out)
        · have z1' : ((n : Int) == 8) = false := by simp; omega
          have HZ1 := hid z1
          clear z1
          by_cases z2 : m = 0
          · have z2' : ((m : Int) == 0) = true := by simp; omega
            have HE := hid (HD.out.1 (.inr (.inr (by have := HL.out; omega))))
            clear z2
            go_wp2_with fail
            obtain ⟨rfl, rfl, rfl, rfl⟩ := HE.out
            refine bodyPost_ret (Kb.rest3 (Kb.put p2 _ _ _) rfl _ _ _ rfl rfl rfl) rfl ⟨rfl, ?_⟩
            repeat (first | refine setC_fr ?_ _ _ _ (by omega) | with_reducible exact HS2.out)
          · have z2' : ((m : Int) == 0) = false := by simp; omega
            have HE := hid (HD.out.2 HZ.out HZ1.out (by have := HL.out; omega))
            rw [show (fre L j).length = m from HL.out] at HE
            have HZ2 := hid (show 0 < m by omega)
            clear z2 c0 c1 c2 cf
            go_wp2_with fail
            refine (rbelow_any q f 1 (m : Int) (by omega) _).mono ?_
            rintro e w3 ⟨he, hw⟩
            rw [he, hw]
            clear he hw w3
            have hb := bel_in (n := atI q f 1) (k := m) HZ2.out
            obtain ⟨A, eA⟩ : ∃ A : Nat, bel (atI q f 1) (m : Int) = (A : Int) := ⟨(bel (atI q f 1) (m : Int)).toNat, by omega⟩
            rw [eA] at hb HE ⊢
            have hA : A < m := by omega
            clear eA hb
            have A3 := Still.alloc wr (.cells #[.int .i64 5, .int .i64 3, .int .i64 2] 3)
            have p3 := p2.still A3
            have HS3 := hid (HS2.out.trans A3)
            have HO3 := hid (HO.out.still A3)
            have HW : Hid (RdI (wr.alloc (.cells #[.int .i64 5, .int .i64 3, .int .i64 2] 3)) (some ⟨wr.heap.size, 0, none⟩) 3 3 [5, 3, 2]) := hid (OwI.fresh (e := 3) wr _ 3 3 [5, 3, 2] rfl (Nat.le_refl _) (by unfold maxLen; omega) rfl (fun t ht => by
              simp at ht
              rcases (show t = 0 ∨ t = 1 ∨ t = 2 by omega) with rfl | rfl | rfl <;> rfl)).rd
            clear A3
            go_wp2_with fail
            refine (rweighted_any q f 2 _ 3 3 [5, 3, 2] _ HW.out).mono ?_
            rintro e w4 ⟨he, hw⟩
            rw [he, hw]
            clear he hw w4 HW
            have hk3 := kind_in q f
            unfold kindK at hk3
            obtain ⟨K, eK⟩ : ∃ K, wgt (atI q f 2) [5, 3, 2] = K := ⟨_, rfl⟩
            rw [eK] at HE hk3 ⊢
            rw [w532]
            clear eK
            obtain ⟨c0, c1, c2, cf⟩ := p3.cells
            obtain ⟨g, rfl⟩ := HO3.out.head (by omega)
            have d0 := HO3.out.rd.byte (k := A) (by rw [HL.out]; exact hA)
            rw [Nat.zero_add] at d0
            rw [show (fre L j).getD (A : Int).toNat 0 = (fre L j)[A]'(by rw [HL.out]; exact hA) by simp [List.getD, show A < (fre L j).length by rw [HL.out]; exact hA]] at HE
            obtain ⟨V, eV⟩ : ∃ V, (fre L j)[A]'(by rw [HL.out]; exact hA) = V := ⟨_, rfl⟩
            rw [eV] at d0 HE
            clear eV
            have hAi : (A : Int) < (m : Int) := by omega
            go_wp2_with fail
            obtain ⟨rfl, rfl, rfl, rfl⟩ := HE.out
            refine bodyPost_ret (Kb.rest3 (Kb.put p3 _ _ _) rfl _ _ _ rfl rfl rfl) rfl ⟨rfl, ?_⟩
            repeat (first | refine setC_fr ?_ _ _ _ (by omega) | with_reducible exact HS3.out)
      · have HE := hid (HD.out.1 (.inl z0))
        go_wp2_with fail
        obtain ⟨rfl, rfl, rfl, rfl⟩ := HE.out
        refine bodyPost_ret (Kb.rest3 (Kb.put p2 _ _ _) rfl _ _ _ rfl rfl rfl) rfl ⟨rfl, ?_⟩
        repeat (first | refine setC_fr ?_ _ _ _ (by omega) | with_reducible exact HS2.out)
theorem rspawn_any (q f s no : Int) (L : List Pk) (ao : Option Addr) (n cap : Nat) (w : World) (hr : RdK w ao n L) : Calls Tryd.prog 14 #[.int .u64 q, .int .i64 f, .slice ao n cap, .int .i64 s, .int .i64 no] w fun e w' => e = .returned (.tuple #[kv (spwn q f L s no), .bool (comes L f s no), .int .i64 (errK L f s no)]) ∧ Still w w' := by
  cases hm : mayK L s with
  | false =>
    have e : errK L f s no = 100 := by unfold errK; rw [hm]; rfl
    have e1 : comes L f s no = false := by unfold comes; rw [e]; rfl
    have e2 : spwn q f L s no = zK := by unfold spwn; rw [e1]; rfl
    rw [e, e1, e2]
    exact rspawn_may q f s no L ao n cap w hr hm
  | true =>
    cases ha : argK f no with
    | false =>
      have e : errK L f s no = 1 := by unfold errK; rw [hm, ha]; rfl
      have e1 : comes L f s no = false := by unfold comes; rw [e]; rfl
      have e2 : spwn q f L s no = zK := by unfold spwn; rw [e1]; rfl
      rw [e, e1, e2]
      exact rspawn_arg q f s no L ao n cap w hr hm ha
    | true =>
      have e : errK L f s no = 0 := by unfold errK; rw [hm, ha]; rfl
      have hM := mayK_iff.1 hm
      have hA := argK_iff.1 ha
      rw [e]
      obtain ⟨S, rfl⟩ : ∃ S : Nat, s = (S : Int) := ⟨s.toNat, by have := hM.1; omega⟩
      refine rspawn_ok q f no S L ao n cap w hr hM (by omega) (by simp; omega) (by omega) (by simp; omega) (comes L f S no) (spwn q f L S no).no (spwn q f L S no).sp (spwn q f L S no).kd (fun h => ?_) (fun h1 h2 h3 => ?_)
      · have e1 : comes L f S no = false := by
          unfold comes
          rw [e, Int.toNat_natCast]
          have hl := hr.1
          rcases h with h | h | h
          · simp [h]
          · rw [hl, h]; simp
          · rw [h]; simp
        have e2 : spwn q f L S no = zK := by unfold spwn; rw [e1]; rfl
        rw [e2]
        exact ⟨e1, rfl, rfl, rfl⟩
      · have e1 : comes L f S no = true := by
          unfold comes
          rw [e, Int.toNat_natCast, hr.1]
          simp [h1, h2, h3]
        have e2 : spwn q f L S no = ⟨no, spotK q f L S, kindK q f⟩ := by unfold spwn; rw [e1]; rfl
        rw [e2]
        refine ⟨e1, rfl, ?_, rfl⟩
        show spotK q f L S = _
        unfold spotK
        rw [Int.toNat_natCast]
end Go.Proofs.YtiglielcdlnpbaaDoor
