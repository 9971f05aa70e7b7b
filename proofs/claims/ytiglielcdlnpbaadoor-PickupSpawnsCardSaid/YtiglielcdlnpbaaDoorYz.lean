/- The program's Take and Spawn of pickups. -/
import Derived.Test.YtiglielcdlnpbaaDoorKg
import Derived.Test.YtiglielcdlnpbaaDoorYv
import Derived.Test.YtiglielcdlnpbaaDoorK8
import Derived.Test.YtiglielcdlnpbaaDoorK4
namespace Go.Proofs.YtiglielcdlnpbaaDoor
open Go.RowKit
open Pu Gp Np Ka
set_option maxRecDepth 100000

set_option maxHeartbeats 1000000 in
theorem ptake_may (m : Mv) (k : Int) (hm : mayB m = false) (w : World) : Calls Tryd.prog 15 #[mv m, .int .i64 k] w fun e w' => e = .returned (.tuple #[mv zM, .int .i64 0, .int .i64 80]) ∧ Still w w' := by
  have A0 := Still.alloc w (.cells (mcs m) 40)
  have A1 := Still.alloc (newM w m) (.cells (mcs zM) 40)
  have p0 := (newM_mb w m).still A1
  have q0 := newM_mb (newM w m) zM
  simp only [size_alloc] at q0
  have HS0 := hid (A0.trans A1)
  clear A0 A1
  obtain ⟨c0, c1, c2, c3, c4, c5, c6, c7, c8, c9, c10, c11, c12, cf⟩ := p0.cells
  have H := hid (fun w => check8_any m w)
  rw [show chkM m = 80 by unfold chkM; rw [hm]; rfl] at H
  clear hm
  go_enter Tryd.func15, Tryd.ntmps15
  go_wp2_with fail
  refine (H.out _).mono ?_
  rintro e w1 ⟨rfl, h1⟩
  have p1 := p0.still h1
  have q1 := q0.still h1
  have HS1 := hid (HS0.out.trans h1)
  clear h1 HS0 p0 q0 c0 c1 c2 c3 c4 c5 c6 c7 c8 c9 c10 c11 c12 cf H
  obtain ⟨c0, c1, c2, c3, c4, c5, c6, c7, c8, c9, c10, c11, c12, cf⟩ := p1.cells
  obtain ⟨k0, k1, k2, k3, k4, k5, k6, k7, k8, k9, k10, k11, k12, kf⟩ := q1.cells
  go_wp2_with fail
  refine bodyPost_ret (Mb.rest3 (Mb.put q1 _ _ _ _ _ _ _ _ _ _ _ _ _) rfl _ _ _ rfl rfl rfl) rfl ⟨rfl, ?_⟩
  repeat (first | refine setC_fr ?_ _ _ _ (by omega) | with_reducible exact HS1.out)
set_option maxHeartbeats 1000000 in
theorem ptake_arg (m : Mv) (k : Int) (hm : mayB m = true) (hk : amg k 1 3 = false) (w : World) : Calls Tryd.prog 15 #[mv m, .int .i64 k] w fun e w' => e = .returned (.tuple #[mv zM, .int .i64 0, .int .i64 1]) ∧ Still w w' := by
  have A0 := Still.alloc w (.cells (mcs m) 40)
  have A1 := Still.alloc (newM w m) (.cells (mcs zM) 40)
  have p0 := (newM_mb w m).still A1
  have q0 := newM_mb (newM w m) zM
  simp only [size_alloc] at q0
  have HS0 := hid (A0.trans A1)
  clear A0 A1
  obtain ⟨c0, c1, c2, c3, c4, c5, c6, c7, c8, c9, c10, c11, c12, cf⟩ := p0.cells
  have H := hid (fun w => check8_any m w)
  rw [show chkM m = 0 by unfold chkM; rw [hm]; rfl] at H
  have HK := hid (fun w => pkind_any k w)
  rw [hk] at HK
  clear hm hk
  go_enter Tryd.func15, Tryd.ntmps15
  go_wp2_with fail
  refine (H.out _).mono ?_
  rintro e w1 ⟨rfl, h1⟩
  have p1 := p0.still h1
  have q1 := q0.still h1
  have HS1 := hid (HS0.out.trans h1)
  clear h1 HS0 p0 q0 c0 c1 c2 c3 c4 c5 c6 c7 c8 c9 c10 c11 c12 cf H
  obtain ⟨c0, c1, c2, c3, c4, c5, c6, c7, c8, c9, c10, c11, c12, cf⟩ := p1.cells
  obtain ⟨k0, k1, k2, k3, k4, k5, k6, k7, k8, k9, k10, k11, k12, kf⟩ := q1.cells
  go_wp2_with fail
  refine (HK.out _).mono ?_
  rintro e w2 ⟨he, hw⟩
  rw [he, hw]
  clear he hw w2 HK
  go_wp2_with fail
  refine bodyPost_ret (Mb.rest3 (Mb.put q1 _ _ _ _ _ _ _ _ _ _ _ _ _) rfl _ _ _ rfl rfl rfl) rfl ⟨rfl, ?_⟩
  repeat (first | refine setC_fr ?_ _ _ _ (by omega) | with_reducible exact HS1.out)
set_option maxHeartbeats 1000000 in
theorem ptake_out (m : Mv) (k : Int) (hm : mayB m = true) (hk : amg k 1 3 = true) (ho : m.ou > 0) (w : World) : Calls Tryd.prog 15 #[mv m, .int .i64 k] w fun e w' => e = .returned (.tuple #[mv m, .int .i64 0, .int .i64 0]) ∧ Still w w' := by
  have A0 := Still.alloc w (.cells (mcs m) 40)
  have A1 := Still.alloc (newM w m) (.cells (mcs zM) 40)
  have p0 := (newM_mb w m).still A1
  have q0 := newM_mb (newM w m) zM
  simp only [size_alloc] at q0
  have HS0 := hid (A0.trans A1)
  clear A0 A1
  obtain ⟨c0, c1, c2, c3, c4, c5, c6, c7, c8, c9, c10, c11, c12, cf⟩ := p0.cells
  have H := hid (fun w => check8_any m w)
  rw [show chkM m = 0 by unfold chkM; rw [hm]; rfl] at H
  have HK := hid (fun w => pkind_any k w)
  rw [hk] at HK
  clear hm hk
  go_enter Tryd.func15, Tryd.ntmps15
  go_wp2_with fail
  refine (H.out _).mono ?_
  rintro e w1 ⟨rfl, h1⟩
  have p1 := p0.still h1
  have q1 := q0.still h1
  have HS1 := hid (HS0.out.trans h1)
  clear h1 HS0 p0 q0 c0 c1 c2 c3 c4 c5 c6 c7 c8 c9 c10 c11 c12 cf H
  obtain ⟨c0, c1, c2, c3, c4, c5, c6, c7, c8, c9, c10, c11, c12, cf⟩ := p1.cells
  obtain ⟨k0, k1, k2, k3, k4, k5, k6, k7, k8, k9, k10, k11, k12, kf⟩ := q1.cells
  go_wp2_with fail
  refine (HK.out _).mono ?_
  rintro e w2 ⟨he, hw⟩
  rw [he, hw]
  clear he hw w2 HK
  go_wp2_with fail
  refine bodyPost_ret (Mb.rest3 (Mb.put q1 _ _ _ _ _ _ _ _ _ _ _ _ _) rfl _ _ _ rfl rfl rfl) rfl ⟨rfl, ?_⟩
  repeat (first | refine setC_fr ?_ _ _ _ (by omega) | with_reducible exact HS1.out)
set_option maxHeartbeats 1000000 in
theorem ptake_three (m : Mv)  (hm : mayB m = true) (ho : decide (0 < m.ou) = false) (w : World) : Calls Tryd.prog 15 #[mv m, .int .i64 3] w fun e w' => e = .returned (.tuple #[mv m, .int .i64 5, .int .i64 0]) ∧ Still w w' := by
  have A0 := Still.alloc w (.cells (mcs m) 40)
  have A1 := Still.alloc (newM w m) (.cells (mcs zM) 40)
  have p0 := (newM_mb w m).still A1
  have q0 := newM_mb (newM w m) zM
  simp only [size_alloc] at q0
  have HS0 := hid (A0.trans A1)
  clear A0 A1
  obtain ⟨c0, c1, c2, c3, c4, c5, c6, c7, c8, c9, c10, c11, c12, cf⟩ := p0.cells
  have H := hid (fun w => check8_any m w)
  rw [show chkM m = 0 by unfold chkM; rw [hm]; rfl] at H
  have HK := hid (fun w => pkind_any 3 w)
  rw [show amg 3 1 3 = true from rfl] at HK
  clear hm
  go_enter Tryd.func15, Tryd.ntmps15
  go_wp2_with fail
  refine (H.out _).mono ?_
  rintro e w1 ⟨rfl, h1⟩
  have p1 := p0.still h1
  have q1 := q0.still h1
  have HS1 := hid (HS0.out.trans h1)
  clear h1 HS0 p0 q0 c0 c1 c2 c3 c4 c5 c6 c7 c8 c9 c10 c11 c12 cf H
  obtain ⟨c0, c1, c2, c3, c4, c5, c6, c7, c8, c9, c10, c11, c12, cf⟩ := p1.cells
  obtain ⟨k0, k1, k2, k3, k4, k5, k6, k7, k8, k9, k10, k11, k12, kf⟩ := q1.cells
  go_wp2_with fail
  refine (HK.out _).mono ?_
  rintro e w2 ⟨he, hw⟩
  rw [he, hw]
  clear he hw w2 HK
  go_wp2_with fail
  refine bodyPost_ret (Mb.rest3 (Mb.put q1 _ _ _ _ _ _ _ _ _ _ _ _ _) rfl _ _ _ rfl rfl rfl) rfl ⟨rfl, ?_⟩
  repeat (first | refine setC_fr ?_ _ _ _ (by omega) | with_reducible exact HS1.out)
set_option maxHeartbeats 1000000 in
theorem ptake_one (m : Mv)  (hm : mayB m = true) (ho : decide (0 < m.ou) = false) (h0 : 0 ≤ m.hl) (h1 : m.hl ≤ 100) (w : World) : Calls Tryd.prog 15 #[mv m, .int .i64 1] w fun e w' => e = .returned (.tuple #[mv { m with hl := min (m.hl + 30) 100 }, .int .i64 0, .int .i64 0]) ∧ Still w w' := by
  have A0 := Still.alloc w (.cells (mcs m) 40)
  have A1 := Still.alloc (newM w m) (.cells (mcs zM) 40)
  have p0 := (newM_mb w m).still A1
  have q0 := newM_mb (newM w m) zM
  simp only [size_alloc] at q0
  have HS0 := hid (A0.trans A1)
  clear A0 A1
  obtain ⟨c0, c1, c2, c3, c4, c5, c6, c7, c8, c9, c10, c11, c12, cf⟩ := p0.cells
  have H := hid (fun w => check8_any m w)
  rw [show chkM m = 0 by unfold chkM; rw [hm]; rfl] at H
  have HK := hid (fun w => pkind_any 1 w)
  rw [show amg 1 1 3 = true from rfl] at HK
  clear hm
  go_enter Tryd.func15, Tryd.ntmps15
  go_wp2_with fail
  refine (H.out _).mono ?_
  rintro e w1 ⟨rfl, h1'⟩
  have p1 := p0.still h1'
  have q1 := q0.still h1'
  have HS1 := hid (HS0.out.trans h1')
  clear h1' HS0 p0 q0 c0 c1 c2 c3 c4 c5 c6 c7 c8 c9 c10 c11 c12 cf H
  obtain ⟨c0, c1, c2, c3, c4, c5, c6, c7, c8, c9, c10, c11, c12, cf⟩ := p1.cells
  obtain ⟨k0, k1, k2, k3, k4, k5, k6, k7, k8, k9, k10, k11, k12, kf⟩ := q1.cells
  go_wp2_with fail
  refine (HK.out _).mono ?_
  rintro e w2 ⟨he, hw⟩
  rw [he, hw]
  clear he hw w2 HK
  have p3 := p1.hl (min (m.hl + 30) 100)
  have q3 := q1.other w.heap.size 7 (.int .i64 (min (m.hl + 30) 100)) (by omega)
  have HS3 := hid (setC_fr HS1.out w.heap.size 7 (.int .i64 (min (m.hl + 30) 100)) (Nat.le_refl _))
  obtain ⟨W3, eW3⟩ : ∃ W3, w1.setCell ⟨w.heap.size, 7, none⟩ (.int .i64 (min (m.hl + 30) 100)) = W3 := ⟨_, rfl⟩
  rw [eW3] at p3 q3 HS3
  go_upto_region 16 with fail
  clear eW3 p1 q1 HS1 c0 c1 c2 c3 c4 c5 c6 c7 c8 c9 c10 c11 c12 cf k0 k1 k2 k3 k4 k5 k6 k7 k8 k9 k10 k11 k12 kf
  obtain ⟨c0, c1, c2, c3, c4, c5, c6, c7, c8, c9, c10, c11, c12, cf⟩ := p3.cells
  obtain ⟨k0, k1, k2, k3, k4, k5, k6, k7, k8, k9, k10, k11, k12, kf⟩ := q3.cells
  go_wp2_with fail
  refine bodyPost_ret (Mb.rest3 (Mb.put q3 _ _ _ _ _ _ _ _ _ _ _ _ _) rfl _ _ _ rfl rfl rfl) rfl ⟨rfl, ?_⟩
  repeat (first | refine setC_fr ?_ _ _ _ (by omega) | with_reducible exact HS3.out)
set_option maxHeartbeats 1000000 in
theorem ptake_two (m : Mv)  (hm : mayB m = true) (ho : decide (0 < m.ou) = false) (h0 : 0 ≤ m.en) (h1 : m.en ≤ 100) (w : World) : Calls Tryd.prog 15 #[mv m, .int .i64 2] w fun e w' => e = .returned (.tuple #[mv { m with en := min (m.en + 40) 100 }, .int .i64 0, .int .i64 0]) ∧ Still w w' := by
  have A0 := Still.alloc w (.cells (mcs m) 40)
  have A1 := Still.alloc (newM w m) (.cells (mcs zM) 40)
  have p0 := (newM_mb w m).still A1
  have q0 := newM_mb (newM w m) zM
  simp only [size_alloc] at q0
  have HS0 := hid (A0.trans A1)
  clear A0 A1
  obtain ⟨c0, c1, c2, c3, c4, c5, c6, c7, c8, c9, c10, c11, c12, cf⟩ := p0.cells
  have H := hid (fun w => check8_any m w)
  rw [show chkM m = 0 by unfold chkM; rw [hm]; rfl] at H
  have HK := hid (fun w => pkind_any 2 w)
  rw [show amg 2 1 3 = true from rfl] at HK
  clear hm
  go_enter Tryd.func15, Tryd.ntmps15
  go_wp2_with fail
  refine (H.out _).mono ?_
  rintro e w1 ⟨rfl, h1'⟩
  have p1 := p0.still h1'
  have q1 := q0.still h1'
  have HS1 := hid (HS0.out.trans h1')
  clear h1' HS0 p0 q0 c0 c1 c2 c3 c4 c5 c6 c7 c8 c9 c10 c11 c12 cf H
  obtain ⟨c0, c1, c2, c3, c4, c5, c6, c7, c8, c9, c10, c11, c12, cf⟩ := p1.cells
  obtain ⟨k0, k1, k2, k3, k4, k5, k6, k7, k8, k9, k10, k11, k12, kf⟩ := q1.cells
  go_wp2_with fail
  refine (HK.out _).mono ?_
  rintro e w2 ⟨he, hw⟩
  rw [he, hw]
  clear he hw w2 HK
  have p3 := p1.en (min (m.en + 40) 100)
  have q3 := q1.other w.heap.size 8 (.int .i64 (min (m.en + 40) 100)) (by omega)
  have HS3 := hid (setC_fr HS1.out w.heap.size 8 (.int .i64 (min (m.en + 40) 100)) (Nat.le_refl _))
  obtain ⟨W3, eW3⟩ : ∃ W3, w1.setCell ⟨w.heap.size, 8, none⟩ (.int .i64 (min (m.en + 40) 100)) = W3 := ⟨_, rfl⟩
  rw [eW3] at p3 q3 HS3
  go_upto_region 16 with fail
  clear eW3 p1 q1 HS1 c0 c1 c2 c3 c4 c5 c6 c7 c8 c9 c10 c11 c12 cf k0 k1 k2 k3 k4 k5 k6 k7 k8 k9 k10 k11 k12 kf
  obtain ⟨c0, c1, c2, c3, c4, c5, c6, c7, c8, c9, c10, c11, c12, cf⟩ := p3.cells
  obtain ⟨k0, k1, k2, k3, k4, k5, k6, k7, k8, k9, k10, k11, k12, kf⟩ := q3.cells
  go_wp2_with fail
  refine bodyPost_ret (Mb.rest3 (Mb.put q3 _ _ _ _ _ _ _ _ _ _ _ _ _) rfl _ _ _ rfl rfl rfl) rfl ⟨rfl, ?_⟩
  repeat (first | refine setC_fr ?_ _ _ _ (by omega) | with_reducible exact HS3.out)
theorem ptake_any (m : Mv) (k : Int) (w : World) : Calls Tryd.prog 15 #[mv m, .int .i64 k] w fun e w' => e = .returned (.tuple #[mv (takM m k), .int .i64 (takP m k), .int .i64 (errT m k)]) ∧ Still w w' := by
  cases hm : mayB m with
  | false =>
    have e : errT m k = 80 := by unfold errT; rw [hm]; rfl
    have e1 : takM m k = zM := by unfold takM; rw [e]; rfl
    have e2 : takP m k = 0 := by unfold takP; rw [e]; rfl
    rw [e, e1, e2]
    exact ptake_may m k hm w
  | true =>
    by_cases hk : 1 ≤ k ∧ k ≤ 3
    · have e : errT m k = 0 := by unfold errT; rw [hm, if_pos hk]; rfl
      have e1 : takM m k = taken m k := by unfold takM; rw [e]; rfl
      obtain ⟨_, _, _, _, h5, h6, _, h8, _⟩ := mayB_iff.1 hm
      by_cases ho : m.ou = 0
      · have ho' : decide (0 < m.ou) = false := by simp; omega
        rcases (show k = 1 ∨ k = 2 ∨ k = 3 by omega) with rfl | rfl | rfl
        · have e2 : takP m 1 = 0 := by unfold takP; rw [if_neg (by omega)]
          have e3 : taken m 1 = { m with hl := min (m.hl + 30) 100 } := by unfold taken; rw [if_pos ho]; rfl
          rw [e, e1, e2, e3]
          exact ptake_one m hm ho' h5.1 h5.2 w
        · have e2 : takP m 2 = 0 := by unfold takP; rw [if_neg (by omega)]
          have e3 : taken m 2 = { m with en := min (m.en + 40) 100 } := by unfold taken; rw [if_pos ho]; rfl
          rw [e, e1, e2, e3]
          exact ptake_two m hm ho' h6.1 h6.2 w
        · have e2 : takP m 3 = 5 := by unfold takP; rw [if_pos ⟨e, ho, rfl⟩]
          have e3 : taken m 3 = m := by unfold taken; rw [if_pos ho]; rfl
          rw [e, e1, e2, e3]
          exact ptake_three m hm ho' w
      · have e2 : takP m k = 0 := by unfold takP; rw [if_neg (fun h => ho h.2.1)]
        have e3 : taken m k = m := by unfold taken; rw [if_neg ho]
        rw [e, e1, e2, e3]
        exact ptake_out m k hm (by unfold amg; simp; omega) (by omega) w
    · have e : errT m k = 1 := by unfold errT; rw [hm, if_neg hk]; rfl
      have e1 : takM m k = zM := by unfold takM; rw [e]; rfl
      have e2 : takP m k = 0 := by unfold takP; rw [e]; rfl
      rw [e, e1, e2]
      exact ptake_arg m k hm (by unfold amg; rw [Bool.and_eq_false_iff]; simp only [decide_eq_false_iff_not]; omega) w
theorem pfree_step (L : List Pk) (j : Nat) : fre L (j + 1) = fre L j ++ (if lieI L (j : Int) then [] else [(j : Int)]) := rfl
set_option maxHeartbeats 1000000 in
theorem freeSpots_any (L : List Pk) (S : Nat) (hS : S ≤ 16) (v : Value) (ao : Option Addr) (n cap : Nat) (w : World) (hr : RdK w ao n L) (hv : Fk w v ao n cap) :
    Calls Tryd.prog 23 #[v, .int .i64 (S : Int)] w fun e w' => ∃ bo m cp, e = .returned (.slice bo m cp) ∧ OwI 3 w' bo m cp (fre L S) ∧ Still w w' ∧ ∀ a, bo = some a → w.heap.size ≤ a.block := by
  obtain ⟨i0, hi, hz, hz1, hz2⟩ := info_parts info_int
  obtain ⟨b, rfl, hb⟩ := hv
  have HF := hid (fun (j : Nat) (u : World) (hu : Still w u) => free_any L (j : Int) ao n cap b u (hr.still hu) ((hu.cell (World.block_lt_of_cell? w _ hb) (fun e => e)).trans hb))
  clear hr hb
  go_enter Tryd.func23, Tryd.ntmps23
  go_wp2_with fail
  go_loopw [5, 8] (fun v u wr => ∃ (j : Nat) (bo : Option Addr) (m cp : Nat), j ≤ S ∧ v = .slice bo m cp ∧ u = .int .i64 (j : Int) ∧ OwI 3 wr bo m cp (fre L j) ∧ Still w wr ∧ ∀ a, bo = some a → w.heap.size ≤ a.block) (fun _ u _ => S - (intOf u).toNat)
  case atStart => exact ⟨0, none, 0, 0, Nat.zero_le _, rfl, rfl, OwI.empty _ _, Fr.refl _ _, fun _ h => by cases h⟩
  case round =>
    obtain ⟨j, bo, m, cp, hj, rfl, rfl, ho, hst, hbo⟩ := hrel
    by_cases hjS : j < S
    · have hlt : (j : Int) < (S : Int) := by omega
      have HO := hid (And.intro ho hbo)
      have HS1 := hid hst
      have HC := hid (HF.out j wr hst)
      have HFr := hid (pfree_step L j)
      have hml : m ≤ 16 := by have := ho.rd.len; have := fre_len_le L j; omega
      obtain ⟨f, ef⟩ : ∃ f, lieI L (j : Int) = f := ⟨_, rfl⟩
      rw [ef] at HC HFr
      clear ho hst hbo ef
      go_wp2_with fail
      refine HC.out.mono ?_
      rintro e w2 ⟨rfl, h2⟩
      have HS2 := hid (HS1.out.trans h2)
      have HO2 := hid (And.intro (HO.out.1.still h2) HO.out.2)
      clear h2 HS1 HO HC
      cases f with
      | true =>
        rw [show (!true) = false from rfl]
        go_wp2_with fail
        go_roundw
        case rel => exact ⟨j + 1, bo, m, cp, by omega, rfl, by go_num, by rw [HFr.out]; simpa using HO2.out.1, HS2.out, HO2.out.2⟩
        case measure => simp [intOf]; omega
      | false =>
        rw [show (!false) = true from rfl]
        go_wp2_with (at_builtin; refine wpList_appI _ rfl _ _ 51 rfl 3 i0 Tryd.underlying51 hi hz hz1 hz2 bo (some ⟨w2.heap.size, 0, none⟩) m cp 1 1 (fre L j) [(j : Int)] rfl rfl (HO2.out.1.alloc _) (OwI.one _ w2 _).rd (by omega) ?_; intro bo' cp' w3 ho' hf' hn' _)
        obtain ⟨hst', hbo'⟩ := still_appI HS2.out HO2.out.2 hf' hn'
        go_roundw
        case rel => exact ⟨j + 1, bo', m + 1, cp', by omega, rfl, by go_num, by rw [HFr.out]; exact ho', hst', hbo'⟩
        case measure => simp [intOf]; omega
    · have hge : ¬ (j : Int) < (S : Int) := by omega
      obtain rfl : j = S := by omega
      have HO := hid (And.intro ho (And.intro hst hbo))
      clear hi hz hz1 hz2 ho hst hbo hj hjS
      go_wp2_with fail
      go_ret
      exact ⟨bo, m, cp, rfl, HO.out.1, HO.out.2.1, HO.out.2.2⟩
theorem weights_any (w : World) : Calls Tryd.prog 27 #[] w fun e w' => ∃ g, e = .returned (.slice (some ⟨g, 0, none⟩) 3 3) ∧ RdI w' (some ⟨g, 0, none⟩) 3 3 [5, 3, 2] ∧ Still w w' := by
  go_enter Tryd.func27, Tryd.ntmps27
  go_wp2_with fail
  go_ret
  refine ⟨_, rfl, ?_, Still.alloc w _⟩
  exact (OwI.fresh (e := 3) w _ 3 3 [5, 3, 2] rfl (Nat.le_refl _) (by unfold maxLen; omega) rfl (fun t ht => by
    simp at ht
    rcases (show t = 0 ∨ t = 1 ∨ t = 2 by omega) with rfl | rfl | rfl <;> rfl)).rd
theorem pspawn_may (q f s no : Int) (L : List Pk) (ao : Option Addr) (n cap : Nat) (w : World) (hr : RdK w ao n L) (hcap : n ≤ cap) (hm : mayK L s = false) : Calls Tryd.prog 13 #[.int .u64 q, .int .i64 f, .slice ao n cap, .int .i64 s, .int .i64 no] w fun e w' => e = .returned (.tuple #[kv zK, .bool false, .int .i64 100]) ∧ Still w w' := by
  have A0 := Still.alloc w (.cells (kcs zK) 33)
  have p0 := newK_kb w zK
  have H := hid (pchk_any L s ao n cap _ (hr.still A0) hcap)
  rw [show chkK L s = 100 by unfold chkK; rw [hm]; rfl] at H
  have HS0 := hid A0
  clear hm hr A0 hcap
  go_enter Tryd.func13, Tryd.ntmps13
  go_wp2_with fail
  refine H.out.mono ?_
  rintro e w1 ⟨rfl, h1⟩
  have p1 := p0.still h1
  have HS1 := hid (HS0.out.trans h1)
  clear h1 HS0 p0 H
  obtain ⟨c0, c1, c2, cf⟩ := p1.cells
  go_wp2_with fail
  refine bodyPost_ret (Kb.rest3 (Kb.put p1 _ _ _) rfl _ _ _ rfl rfl rfl) rfl ⟨rfl, ?_⟩
  repeat (first | refine setC_fr ?_ _ _ _ (by omega) | with_reducible exact HS1.out)
set_option maxHeartbeats 1000000 in
theorem pspawn_arg (q f s no : Int) (L : List Pk) (ao : Option Addr) (n cap : Nat) (w : World) (hr : RdK w ao n L) (hcap : n ≤ cap) (hm : mayK L s = true) (ha : argK f no = false) : Calls Tryd.prog 13 #[.int .u64 q, .int .i64 f, .slice ao n cap, .int .i64 s, .int .i64 no] w fun e w' => e = .returned (.tuple #[kv zK, .bool false, .int .i64 1]) ∧ Still w w' := by
  have HA : Hid (¬ f < 0 → ¬ f > 1099511627776 → amg no 1 1099511627776 = false) := hid (fun h1 h2 => by
    cases h : amg no 1 1099511627776 with
    | false => rfl
    | true =>
      have h6 : 1 ≤ no ∧ no ≤ 1099511627776 := by unfold amg at h; simpa using h
      have := argK_iff.2 (show (0 ≤ f ∧ f ≤ 1099511627776) ∧ 1 ≤ no ∧ no ≤ 1099511627776 by omega)
      rw [this] at ha
      cases ha)
  have HI := hid (fun w => pisno_any no w)
  have A0 := Still.alloc w (.cells (kcs zK) 33)
  have p0 := newK_kb w zK
  have H := hid (pchk_any L s ao n cap _ (hr.still A0) hcap)
  rw [show chkK L s = 0 by unfold chkK; rw [hm]; rfl] at H
  have HS0 := hid A0
  clear hm hr A0 ha hcap
  go_enter Tryd.func13, Tryd.ntmps13
  go_wp2_with fail
  refine H.out.mono ?_
  rintro e w1 ⟨rfl, h1⟩
  have p1 := p0.still h1
  have HS1 := hid (HS0.out.trans h1)
  clear h1 HS0 p0 H
  obtain ⟨c0, c1, c2, cf⟩ := p1.cells
  by_cases g0 : f < 0
  · go_wp2_with fail
    refine bodyPost_ret (Kb.rest3 (Kb.put p1 _ _ _) rfl _ _ _ rfl rfl rfl) rfl ⟨rfl, ?_⟩
    repeat (first | refine setC_fr ?_ _ _ _ (by omega) | with_reducible exact HS1.out)
  · by_cases g1 : f > 1099511627776
    · go_wp2_with fail
      refine bodyPost_ret (Kb.rest3 (Kb.put p1 _ _ _) rfl _ _ _ rfl rfl rfl) rfl ⟨rfl, ?_⟩
      repeat (first | refine setC_fr ?_ _ _ _ (by omega) | with_reducible exact HS1.out)
    · rw [HA.out (by omega) (by omega)] at HI
      have g1' : decide (1099511627776 < f) = false := by simpa using g1
      clear g1
      go_wp2_with fail
      refine (HI.out _).mono ?_
      rintro e w2 ⟨he, hw⟩
      rw [he, hw]
      clear he hw w2
      go_wp2_with fail
      refine bodyPost_ret (Kb.rest3 (Kb.put p1 _ _ _) rfl _ _ _ rfl rfl rfl) rfl ⟨rfl, ?_⟩
      repeat (first | refine setC_fr ?_ _ _ _ (by omega) | with_reducible exact HS1.out)
set_option maxHeartbeats 4000000 in
theorem pspawn_ok (q f no : Int) (S : Nat) (L : List Pk) (ao : Option Addr) (n cap : Nat) (w : World) (ht : DTab w) (hr : RdK w ao n L) (hcap : n ≤ cap) (hm : MayK L (S : Int)) (a0 : ¬ f < 0) (a1 : decide (1099511627776 < f) = false) (a2 : amg no 1 1099511627776 = true) (D : Bool) (X Y Z : Int)
    (hD : (f % 16 ≠ 0 ∨ n = 8 ∨ (fre L S).length = 0) → D = false ∧ X = 0 ∧ Y = 0 ∧ Z = 0) (hD2 : f % 16 = 0 → n ≠ 8 → (fre L S).length ≠ 0 → D = true ∧ X = no ∧ Y = (fre L S).getD (bel (atI q f 1) ((fre L S).length : Int)).toNat 0 ∧ Z = wgt (atI q f 2) [5, 3, 2] + 1) :
    Calls Tryd.prog 13 #[.int .u64 q, .int .i64 f, .slice ao n cap, .int .i64 (S : Int), .int .i64 no] w fun e w' => e = .returned (.tuple #[kv ⟨X, Y, Z⟩, .bool D, .int .i64 0]) ∧ Still w w' := by
  have A0 := Still.alloc w (.cells (kcs zK) 33)
  have p0 := newK_kb w zK
  have H := hid (pchk_any L (S : Int) ao n cap _ (hr.still A0) hcap)
  rw [chkK_yes hm] at H
  have HI := hid (fun w => pisno_any no w)
  rw [a2] at HI
  have HS0 := hid A0
  have HR := hid hr
  have HT := hid ht
  have HM := hid (show S ≤ 16 ∧ n ≤ 8 ∧ L.length = n by have := hm.1; have := hm.2.1; have := hr.1; omega)
  have HD := hid (And.intro hD hD2)
  have hn8 : n ≤ 8 := HM.out.2.1
  have hf0 : 0 ≤ f ∧ f ≤ 1099511627776 := by simp at a1; omega
  clear hm hr A0 hD hD2 a2 hcap ht
  go_enter Tryd.func13, Tryd.ntmps13
  go_wp2_with fail
  refine H.out.mono ?_
  rintro e w1 ⟨rfl, h1⟩
  have p1 := p0.still h1
  have HS1 := hid (HS0.out.trans h1)
  clear h1 HS0 p0 H
  go_wp2_with fail
  refine (HI.out _).mono ?_
  rintro e w2 ⟨he, hw⟩
  rw [he, hw]
  clear he hw w2 HI a0 a1
  obtain ⟨c0, c1, c2, cf⟩ := p1.cells
  by_cases z0 : f % 16 = 0
  · have z0' : f.tmod 16 = 0 := by rw [Int.tmod_eq_emod_of_nonneg (by omega)]; exact z0
    have HZ := hid z0
    clear z0
    by_cases z1 : n = 8
    · have z1' : ((n : Int) == 8) = true := by simp; omega
      have HE := hid (HD.out.1 (.inr (.inl z1)))
      clear z1
      go_wp2_with fail
      obtain ⟨rfl, rfl, rfl, rfl⟩ := HE.out
      refine bodyPost_ret (Kb.rest3 (Kb.put p1 _ _ _) rfl _ _ _ rfl rfl rfl) rfl ⟨rfl, ?_⟩
      repeat (first | refine setC_fr ?_ _ _ _ (by omega) | with_reducible exact HS1.out)
    · have z1' : ((n : Int) == 8) = false := by simp; omega
      have HZ1 := hid z1
      clear z1 c0 c1 c2 cf
      go_wp2_with fail
      refine (freeAmong_any ao n cap _).mono ?_
      rintro e w2 ⟨v, rfl, hv, h2⟩
      have p2 := p1.still h2
      have HS2 := hid (HS1.out.trans h2)
      have HC := hid (freeSpots_any L S HM.out.1 v ao n cap w2 (HR.out.still HS2.out) hv)
      obtain ⟨bv, rfl, _⟩ := hv
      clear h2 HS1 p1
      go_wp2_with fail
      refine HC.out.mono ?_
      rintro e w3 ⟨bo, m, cp, rfl, ho, h3, _⟩
      have p3 := p2.still h3
      have HS3 := hid (HS2.out.trans h3)
      have HO := hid ho
      have HL := hid ho.rd.len
      have hm16 : m ≤ 16 := by have := HL.out; have := fre_len_le L S; have := HM.out; omega
      clear h3 ho HS2 p2 HC
      obtain ⟨c0, c1, c2, cf⟩ := p3.cells
      by_cases z2 : m = 0
      · have z2' : ((m : Int) == 0) = true := by simp; omega
        have HE := hid (HD.out.1 (.inr (.inr (by have := HL.out; omega))))
        clear z2
        go_wp2_with fail
        obtain ⟨rfl, rfl, rfl, rfl⟩ := HE.out
        refine bodyPost_ret (Kb.rest3 (Kb.put p3 _ _ _) rfl _ _ _ rfl rfl rfl) rfl ⟨rfl, ?_⟩
        repeat (first | refine setC_fr ?_ _ _ _ (by omega) | with_reducible exact HS3.out)
      · have z2' : ((m : Int) == 0) = false := by simp; omega
        have HE := hid (HD.out.2 HZ.out HZ1.out (by have := HL.out; omega))
        rw [show (fre L S).length = m from HL.out] at HE
        have HZ2 := hid (show 0 < m by omega)
        clear z2 c0 c1 c2 cf
        go_wp2_with fail
        refine (below_any q f 1 (m : Int) (by omega) _ (HT.out.still HS3.out)).mono ?_
        rintro e w4 ⟨rfl, h4⟩
        have p4 := p3.still h4
        have HS4 := hid (HS3.out.trans h4)
        have HO4 := hid (HO.out.still h4)
        clear h4 HS3 HO p3
        have hb := bel_in (n := atI q f 1) (k := m) HZ2.out
        obtain ⟨A, eA⟩ : ∃ A : Nat, bel (atI q f 1) (m : Int) = (A : Int) := ⟨(bel (atI q f 1) (m : Int)).toNat, by omega⟩
        rw [eA] at hb HE ⊢
        have hA : A < m := by omega
        clear eA hb
        obtain ⟨E4, eE4⟩ : ∃ E, belE (m : Int) = E := ⟨_, rfl⟩
        rw [eE4]
        clear eE4
        go_wp2_with fail
        refine (weights_any _).mono ?_
        rintro e w5 ⟨gw, rfl, hw, h5⟩
        have p5 := p4.still h5
        have HS5 := hid (HS4.out.trans h5)
        have HO5 := hid (HO4.out.still h5)
        have HW := hid hw
        clear h5 HS4 HO4 p4 hw
        go_wp2_with fail
        refine (weighted_any q f 2 _ 3 3 [5, 3, 2] _ HW.out (HT.out.still HS5.out)).mono ?_
        rintro e w6 ⟨rfl, h6⟩
        have p6 := p5.still h6
        have HS6 := hid (HS5.out.trans h6)
        have HO6 := hid (HO5.out.still h6)
        clear h6 HS5 HO5 p5 HW
        have hk3 := kind_in q f
        unfold kindK at hk3
        obtain ⟨K, eK⟩ : ∃ K, wgt (atI q f 2) [5, 3, 2] = K := ⟨_, rfl⟩
        rw [eK] at HE hk3 ⊢
        rw [w532]
        clear eK
        obtain ⟨c0, c1, c2, cf⟩ := p6.cells
        obtain ⟨g, rfl⟩ := HO6.out.head (by omega)
        have d0 := HO6.out.rd.byte (k := A) (by rw [HL.out]; exact hA)
        rw [Nat.zero_add] at d0
        rw [show (fre L S).getD (A : Int).toNat 0 = (fre L S)[A]'(by rw [HL.out]; exact hA) by simp [List.getD, show A < (fre L S).length by rw [HL.out]; exact hA]] at HE
        obtain ⟨V, eV⟩ : ∃ V, (fre L S)[A]'(by rw [HL.out]; exact hA) = V := ⟨_, rfl⟩
        rw [eV] at d0 HE
        clear eV
        have hAi : (A : Int) < (m : Int) := by omega
        go_wp2_with fail
        obtain ⟨rfl, rfl, rfl, rfl⟩ := HE.out
        rw [show K + 1 = 1 + K by omega]
        refine bodyPost_ret (Kb.rest3 (Kb.put p6 _ _ _) rfl _ _ _ rfl rfl rfl) rfl ⟨rfl, ?_⟩
        repeat (first | refine setC_fr ?_ _ _ _ (by omega) | with_reducible exact HS6.out)
  · have HE := hid (HD.out.1 (.inl z0))
    have z0' : ¬ f.tmod 16 = 0 := by rw [Int.tmod_eq_emod_of_nonneg (by omega)]; exact z0
    go_wp2_with fail
    obtain ⟨rfl, rfl, rfl, rfl⟩ := HE.out
    refine bodyPost_ret (Kb.rest3 (Kb.put p1 _ _ _) rfl _ _ _ rfl rfl rfl) rfl ⟨rfl, ?_⟩
    repeat (first | refine setC_fr ?_ _ _ _ (by omega) | with_reducible exact HS1.out)
theorem pspawn_any (q f s no : Int) (L : List Pk) (ao : Option Addr) (n cap : Nat) (w : World) (ht : DTab w) (hr : RdK w ao n L) (hcap : n ≤ cap) : Calls Tryd.prog 13 #[.int .u64 q, .int .i64 f, .slice ao n cap, .int .i64 s, .int .i64 no] w fun e w' => e = .returned (.tuple #[kv (spwn q f L s no), .bool (comes L f s no), .int .i64 (errK L f s no)]) ∧ Still w w' := by
  cases hm : mayK L s with
  | false =>
    have e : errK L f s no = 100 := by unfold errK; rw [hm]; rfl
    have e1 : comes L f s no = false := by unfold comes; rw [e]; rfl
    have e2 : spwn q f L s no = zK := by unfold spwn; rw [e1]; rfl
    rw [e, e1, e2]
    exact pspawn_may q f s no L ao n cap w hr hcap hm
  | true =>
    cases ha : argK f no with
    | false =>
      have e : errK L f s no = 1 := by unfold errK; rw [hm, ha]; rfl
      have e1 : comes L f s no = false := by unfold comes; rw [e]; rfl
      have e2 : spwn q f L s no = zK := by unfold spwn; rw [e1]; rfl
      rw [e, e1, e2]
      exact pspawn_arg q f s no L ao n cap w hr hcap hm ha
    | true =>
      have e : errK L f s no = 0 := by unfold errK; rw [hm, ha]; rfl
      have hM := mayK_iff.1 hm
      have hA := argK_iff.1 ha
      rw [e]
      obtain ⟨S, rfl⟩ : ∃ S : Nat, s = (S : Int) := ⟨s.toNat, by have := hM.1; omega⟩
      refine pspawn_ok q f no S L ao n cap w ht hr hcap hM (by omega) (by simp; omega) (by unfold amg; simp; omega) (comes L f S no) (spwn q f L S no).no (spwn q f L S no).sp (spwn q f L S no).kd (fun h => ?_) (fun h1 h2 h3 => ?_)
      · have e1 : comes L f S no = false := by
          unfold comes
          rw [e, Int.toNat_natCast]
          have hl := hr.1
          rcases h with h | h | h
          · simp [h]
          · rw [hl, h]; simp
          · rw [h]; simp
        have e2 : spwn q f L S no = zK := by unfold spwn; rw [e1]; rfl
        rw [e2]
        exact ⟨e1, rfl, rfl, rfl⟩
      · have e1 : comes L f S no = true := by
          unfold comes
          rw [e, Int.toNat_natCast, hr.1]
          simp [h1, h2, h3]
        have e2 : spwn q f L S no = ⟨no, spotK q f L S, kindK q f⟩ := by unfold spwn; rw [e1]; rfl
        rw [e2]
        refine ⟨e1, rfl, ?_, rfl⟩
        show spotK q f L S = _
        unfold spotK
        rw [Int.toNat_natCast]
theorem cts10_any (w : World) (ht : DTab w) : Cts10 w :=
  ⟨fun L s ao n cap u _ _ hr hc _ => pchk_any L s ao n cap u hr hc, fun q f s no L ao n cap u _ _ _ _ _ hr hc hs => pspawn_any q f s no L ao n cap u (ht.still hs) hr hc, fun m k u _ _ => ptake_any m k u⟩
end Go.Proofs.YtiglielcdlnpbaaDoor
