/- The document's Take. -/
import Derived.Test.YtiglielcdlnpbaaDoorKa
import Derived.Test.YtiglielcdlnpbaaDoorK8
import Derived.Test.YtiglielcdlnpbaaDoorK5a
namespace Go.Proofs.YtiglielcdlnpbaaDoor
open Go.RowKit
open Pu Gp Np Ka
set_option maxRecDepth 100000

theorem Mb.hl {w : World} {g : Nat} {m : Mv} (h : Mb w g m) (x : Int) : Mb (w.setCell ⟨g, 7, none⟩ (.int .i64 x)) g { m with hl := x } := (heap_setCell_same w g 7 _ _ (.int .i64 x) h).trans (by kernel_rfl)
theorem Mb.en {w : World} {g : Nat} {m : Mv} (h : Mb w g m) (x : Int) : Mb (w.setCell ⟨g, 8, none⟩ (.int .i64 x)) g { m with en := x } := (heap_setCell_same w g 8 _ _ (.int .i64 x) h).trans (by kernel_rfl)
theorem clamp100 {x : Int} (h0 : 0 ≤ x) (h1 : x ≤ 200) : clampf x 0 100 = min x 100 := by
  unfold clampf
  rw [Pu.bnd_id (show -2147483647 ≤ x by omega) (by omega), Pu.bnd_id (show -2147483647 ≤ (0 : Int) by omega) (by omega), Pu.bnd_id (show -2147483647 ≤ (100 : Int) by omega) (by omega)]
  repeat' split
  all_goals omega
set_option maxHeartbeats 1000000 in
theorem rtake_may (m : Mv) (k : Int) (hm : mayB m = false) (w : World) : Calls Tryd.prog 16 #[mv m, .int .i64 k] w fun e w' => e = .returned (.tuple #[mv zM, .int .i64 0, .int .i64 80]) ∧ Still w w' := by
  have A0 := Still.alloc w (.cells (mcs m) 40)
  have A1 := Still.alloc (newM w m) (.cells (mcs zM) 40)
  have p0 := (newM_mb w m).still A1
  have q0 := newM_mb (newM w m) zM
  simp only [size_alloc] at q0
  have HS0 := hid (A0.trans A1)
  clear A0 A1
  obtain ⟨c0, c1, c2, c3, c4, c5, c6, c7, c8, c9, c10, c11, c12, cf⟩ := p0.cells
  have H := hid (fun w => rcheck8_any m w)
  rw [show chkM m = 80 by unfold chkM; rw [hm]; rfl] at H
  clear hm
  go_enter Tryd.func16, Tryd.ntmps16
  go_wp2_with fail
  refine (H.out _).mono ?_
  rintro e w1 ⟨rfl, h1⟩
  have p1 := p0.still h1
  have q1 := q0.still h1
  have HS1 := hid (HS0.out.trans h1)
  clear h1 HS0 p0 q0 c0 c1 c2 c3 c4 c5 c6 c7 c8 c9 c10 c11 c12 cf H
  obtain ⟨c0, c1, c2, c3, c4, c5, c6, c7, c8, c9, c10, c11, c12, cf⟩ := p1.cells
  obtain ⟨k0, k1, k2, k3, k4, k5, k6, k7, k8, k9, k10, k11, k12, kf⟩ := q1.cells
  go_wp2_with fail
  refine bodyPost_ret (Mb.rest3 (Mb.put q1 _ _ _ _ _ _ _ _ _ _ _ _ _) rfl _ _ _ rfl rfl rfl) rfl ⟨rfl, ?_⟩
  repeat (first | refine setC_fr ?_ _ _ _ (by omega) | with_reducible exact HS1.out)
set_option maxHeartbeats 1000000 in
theorem rtake_arg (m : Mv) (k : Int) (hm : mayB m = true) (hk : ¬ (1 ≤ k ∧ k ≤ 3)) (w : World) : Calls Tryd.prog 16 #[mv m, .int .i64 k] w fun e w' => e = .returned (.tuple #[mv zM, .int .i64 0, .int .i64 1]) ∧ Still w w' := by
  have A0 := Still.alloc w (.cells (mcs m) 40)
  have A1 := Still.alloc (newM w m) (.cells (mcs zM) 40)
  have p0 := (newM_mb w m).still A1
  have q0 := newM_mb (newM w m) zM
  simp only [size_alloc] at q0
  have HS0 := hid (A0.trans A1)
  clear A0 A1
  obtain ⟨c0, c1, c2, c3, c4, c5, c6, c7, c8, c9, c10, c11, c12, cf⟩ := p0.cells
  have H := hid (fun w => rcheck8_any m w)
  rw [show chkM m = 0 by unfold chkM; rw [hm]; rfl] at H
  have HK := hid hk
  clear hm hk
  go_enter Tryd.func16, Tryd.ntmps16
  go_wp2_with fail
  refine (H.out _).mono ?_
  rintro e w1 ⟨rfl, h1⟩
  have p1 := p0.still h1
  have q1 := q0.still h1
  have HS1 := hid (HS0.out.trans h1)
  clear h1 HS0 p0 q0 c0 c1 c2 c3 c4 c5 c6 c7 c8 c9 c10 c11 c12 cf H
  obtain ⟨c0, c1, c2, c3, c4, c5, c6, c7, c8, c9, c10, c11, c12, cf⟩ := p1.cells
  obtain ⟨k0, k1, k2, k3, k4, k5, k6, k7, k8, k9, k10, k11, k12, kf⟩ := q1.cells
  by_cases g0 : k < 1
  · go_wp2_with fail
    refine bodyPost_ret (Mb.rest3 (Mb.put q1 _ _ _ _ _ _ _ _ _ _ _ _ _) rfl _ _ _ rfl rfl rfl) rfl ⟨rfl, ?_⟩
    repeat (first | refine setC_fr ?_ _ _ _ (by omega) | with_reducible exact HS1.out)
  · have g1 : k > 3 := by have := HK.out; omega
    go_wp2_with fail
    refine bodyPost_ret (Mb.rest3 (Mb.put q1 _ _ _ _ _ _ _ _ _ _ _ _ _) rfl _ _ _ rfl rfl rfl) rfl ⟨rfl, ?_⟩
    repeat (first | refine setC_fr ?_ _ _ _ (by omega) | with_reducible exact HS1.out)
set_option maxHeartbeats 1000000 in
theorem rtake_out (m : Mv) (k : Int) (hm : mayB m = true) (g0 : ¬ k < 1) (g1 : decide (3 < k) = false) (ho : m.ou > 0) (w : World) : Calls Tryd.prog 16 #[mv m, .int .i64 k] w fun e w' => e = .returned (.tuple #[mv m, .int .i64 0, .int .i64 0]) ∧ Still w w' := by
  have A0 := Still.alloc w (.cells (mcs m) 40)
  have A1 := Still.alloc (newM w m) (.cells (mcs zM) 40)
  have p0 := (newM_mb w m).still A1
  have q0 := newM_mb (newM w m) zM
  simp only [size_alloc] at q0
  have HS0 := hid (A0.trans A1)
  clear A0 A1
  obtain ⟨c0, c1, c2, c3, c4, c5, c6, c7, c8, c9, c10, c11, c12, cf⟩ := p0.cells
  have H := hid (fun w => rcheck8_any m w)
  rw [show chkM m = 0 by unfold chkM; rw [hm]; rfl] at H
  clear hm
  go_enter Tryd.func16, Tryd.ntmps16
  go_wp2_with fail
  refine (H.out _).mono ?_
  rintro e w1 ⟨rfl, h1⟩
  have p1 := p0.still h1
  have q1 := q0.still h1
  have HS1 := hid (HS0.out.trans h1)
  clear h1 HS0 p0 q0 c0 c1 c2 c3 c4 c5 c6 c7 c8 c9 c10 c11 c12 cf H
  obtain ⟨c0, c1, c2, c3, c4, c5, c6, c7, c8, c9, c10, c11, c12, cf⟩ := p1.cells
  obtain ⟨k0, k1, k2, k3, k4, k5, k6, k7, k8, k9, k10, k11, k12, kf⟩ := q1.cells
  go_wp2_with fail
  refine bodyPost_ret (Mb.rest3 (Mb.put q1 _ _ _ _ _ _ _ _ _ _ _ _ _) rfl _ _ _ rfl rfl rfl) rfl ⟨rfl, ?_⟩
  repeat (first | refine setC_fr ?_ _ _ _ (by omega) | with_reducible exact HS1.out)
set_option maxHeartbeats 1000000 in
theorem rtake_three (m : Mv) (hm : mayB m = true) (ho : decide (0 < m.ou) = false) (w : World) : Calls Tryd.prog 16 #[mv m, .int .i64 3] w fun e w' => e = .returned (.tuple #[mv m, .int .i64 5, .int .i64 0]) ∧ Still w w' := by
  have A0 := Still.alloc w (.cells (mcs m) 40)
  have A1 := Still.alloc (newM w m) (.cells (mcs zM) 40)
  have p0 := (newM_mb w m).still A1
  have q0 := newM_mb (newM w m) zM
  simp only [size_alloc] at q0
  have HS0 := hid (A0.trans A1)
  clear A0 A1
  obtain ⟨c0, c1, c2, c3, c4, c5, c6, c7, c8, c9, c10, c11, c12, cf⟩ := p0.cells
  have H := hid (fun w => rcheck8_any m w)
  rw [show chkM m = 0 by unfold chkM; rw [hm]; rfl] at H
  clear hm
  go_enter Tryd.func16, Tryd.ntmps16
  go_wp2_with fail
  refine (H.out _).mono ?_
  rintro e w1 ⟨rfl, h1⟩
  have p1 := p0.still h1
  have q1 := q0.still h1
  have HS1 := hid (HS0.out.trans h1)
  clear h1 HS0 p0 q0 c0 c1 c2 c3 c4 c5 c6 c7 c8 c9 c10 c11 c12 cf H
  obtain ⟨c0, c1, c2, c3, c4, c5, c6, c7, c8, c9, c10, c11, c12, cf⟩ := p1.cells
  obtain ⟨k0, k1, k2, k3, k4, k5, k6, k7, k8, k9, k10, k11, k12, kf⟩ := q1.cells
  go_wp2_with fail
  refine bodyPost_ret (Mb.rest3 (Mb.put q1 _ _ _ _ _ _ _ _ _ _ _ _ _) rfl _ _ _ rfl rfl rfl) rfl ⟨rfl, ?_⟩
  repeat (first | refine setC_fr ?_ _ _ _ (by omega) | with_reducible exact HS1.out)
set_option maxHeartbeats 1000000 in
theorem rtake_one (m : Mv) (hm : mayB m = true) (ho : decide (0 < m.ou) = false) (h0 : 0 ≤ m.hl) (h1 : m.hl ≤ 100) (w : World) : Calls Tryd.prog 16 #[mv m, .int .i64 1] w fun e w' => e = .returned (.tuple #[mv { m with hl := min (m.hl + 30) 100 }, .int .i64 0, .int .i64 0]) ∧ Still w w' := by
  have A0 := Still.alloc w (.cells (mcs m) 40)
  have A1 := Still.alloc (newM w m) (.cells (mcs zM) 40)
  have p0 := (newM_mb w m).still A1
  have q0 := newM_mb (newM w m) zM
  simp only [size_alloc] at q0
  have HS0 := hid (A0.trans A1)
  clear A0 A1
  obtain ⟨c0, c1, c2, c3, c4, c5, c6, c7, c8, c9, c10, c11, c12, cf⟩ := p0.cells
  have H := hid (fun w => rcheck8_any m w)
  rw [show chkM m = 0 by unfold chkM; rw [hm]; rfl] at H
  have HC := hid (fun w => rclamp_any (m.hl + 30) 0 100 w)
  rw [clamp100 (by omega) (by omega)] at HC
  obtain ⟨v, ev⟩ : ∃ v, min (m.hl + 30) 100 = v := ⟨_, rfl⟩
  rw [ev] at HC ⊢
  clear hm ev
  go_enter Tryd.func16, Tryd.ntmps16
  go_wp2_with fail
  refine (H.out _).mono ?_
  rintro e w1 ⟨rfl, h1⟩
  have p1 := p0.still h1
  have q1 := q0.still h1
  have HS1 := hid (HS0.out.trans h1)
  clear h1 HS0 p0 q0 c0 c1 c2 c3 c4 c5 c6 c7 c8 c9 c10 c11 c12 cf H
  obtain ⟨c0, c1, c2, c3, c4, c5, c6, c7, c8, c9, c10, c11, c12, cf⟩ := p1.cells
  obtain ⟨k0, k1, k2, k3, k4, k5, k6, k7, k8, k9, k10, k11, k12, kf⟩ := q1.cells
  go_wp2_with fail
  refine (HC.out _).mono ?_
  rintro e w2 ⟨he, hw⟩
  rw [he, hw]
  clear he hw w2 HC
  have p3 := p1.hl v
  have q3 := q1.other w.heap.size 7 (.int .i64 v) (by omega)
  have HS3 := hid (setC_fr HS1.out w.heap.size 7 (.int .i64 v) (Nat.le_refl _))
  obtain ⟨W3, eW3⟩ : ∃ W3, w1.setCell ⟨w.heap.size, 7, none⟩ (.int .i64 v) = W3 := ⟨_, rfl⟩
  rw [eW3] at p3 q3 HS3
  go_upto_region 14 with fail
  clear eW3 p1 q1 HS1 c0 c1 c2 c3 c4 c5 c6 c7 c8 c9 c10 c11 c12 cf k0 k1 k2 k3 k4 k5 k6 k7 k8 k9 k10 k11 k12 kf
  obtain ⟨c0, c1, c2, c3, c4, c5, c6, c7, c8, c9, c10, c11, c12, cf⟩ := p3.cells
  obtain ⟨k0, k1, k2, k3, k4, k5, k6, k7, k8, k9, k10, k11, k12, kf⟩ := q3.cells
  go_wp2_with fail
  refine bodyPost_ret (Mb.rest3 (Mb.put q3 _ _ _ _ _ _ _ _ _ _ _ _ _) rfl _ _ _ rfl rfl rfl) rfl ⟨rfl, ?_⟩
  repeat (first | refine setC_fr ?_ _ _ _ (by omega) | with_reducible exact HS3.out)
set_option maxHeartbeats 1000000 in
theorem rtake_two (m : Mv) (hm : mayB m = true) (ho : decide (0 < m.ou) = false) (h0 : 0 ≤ m.en) (h1 : m.en ≤ 100) (w : World) : Calls Tryd.prog 16 #[mv m, .int .i64 2] w fun e w' => e = .returned (.tuple #[mv { m with en := min (m.en + 40) 100 }, .int .i64 0, .int .i64 0]) ∧ Still w w' := by
  have A0 := Still.alloc w (.cells (mcs m) 40)
  have A1 := Still.alloc (newM w m) (.cells (mcs zM) 40)
  have p0 := (newM_mb w m).still A1
  have q0 := newM_mb (newM w m) zM
  simp only [size_alloc] at q0
  have HS0 := hid (A0.trans A1)
  clear A0 A1
  obtain ⟨c0, c1, c2, c3, c4, c5, c6, c7, c8, c9, c10, c11, c12, cf⟩ := p0.cells
  have H := hid (fun w => rcheck8_any m w)
  rw [show chkM m = 0 by unfold chkM; rw [hm]; rfl] at H
  have HC := hid (fun w => rclamp_any (m.en + 40) 0 100 w)
  rw [clamp100 (by omega) (by omega)] at HC
  obtain ⟨v, ev⟩ : ∃ v, min (m.en + 40) 100 = v := ⟨_, rfl⟩
  rw [ev] at HC ⊢
  clear hm ev
  go_enter Tryd.func16, Tryd.ntmps16
  go_wp2_with fail
  refine (H.out _).mono ?_
  rintro e w1 ⟨rfl, h1⟩
  have p1 := p0.still h1
  have q1 := q0.still h1
  have HS1 := hid (HS0.out.trans h1)
  clear h1 HS0 p0 q0 c0 c1 c2 c3 c4 c5 c6 c7 c8 c9 c10 c11 c12 cf H
  obtain ⟨c0, c1, c2, c3, c4, c5, c6, c7, c8, c9, c10, c11, c12, cf⟩ := p1.cells
  obtain ⟨k0, k1, k2, k3, k4, k5, k6, k7, k8, k9, k10, k11, k12, kf⟩ := q1.cells
  go_wp2_with fail
  refine (HC.out _).mono ?_
  rintro e w2 ⟨he, hw⟩
  rw [he, hw]
  clear he hw w2 HC
  have p3 := p1.en v
  have q3 := q1.other w.heap.size 8 (.int .i64 v) (by omega)
  have HS3 := hid (setC_fr HS1.out w.heap.size 8 (.int .i64 v) (Nat.le_refl _))
  obtain ⟨W3, eW3⟩ : ∃ W3, w1.setCell ⟨w.heap.size, 8, none⟩ (.int .i64 v) = W3 := ⟨_, rfl⟩
  rw [eW3] at p3 q3 HS3
  go_upto_region 14 with fail
  clear eW3 p1 q1 HS1 c0 c1 c2 c3 c4 c5 c6 c7 c8 c9 c10 c11 c12 cf k0 k1 k2 k3 k4 k5 k6 k7 k8 k9 k10 k11 k12 kf
  obtain ⟨c0, c1, c2, c3, c4, c5, c6, c7, c8, c9, c10, c11, c12, cf⟩ := p3.cells
  obtain ⟨k0, k1, k2, k3, k4, k5, k6, k7, k8, k9, k10, k11, k12, kf⟩ := q3.cells
  go_wp2_with fail
  refine bodyPost_ret (Mb.rest3 (Mb.put q3 _ _ _ _ _ _ _ _ _ _ _ _ _) rfl _ _ _ rfl rfl rfl) rfl ⟨rfl, ?_⟩
  repeat (first | refine setC_fr ?_ _ _ _ (by omega) | with_reducible exact HS3.out)
theorem rtake_any (m : Mv) (k : Int) (w : World) : Calls Tryd.prog 16 #[mv m, .int .i64 k] w fun e w' => e = .returned (.tuple #[mv (takM m k), .int .i64 (takP m k), .int .i64 (errT m k)]) ∧ Still w w' := by
  cases hm : mayB m with
  | false =>
    have e : errT m k = 80 := by unfold errT; rw [hm]; rfl
    have e1 : takM m k = zM := by unfold takM; rw [e]; rfl
    have e2 : takP m k = 0 := by unfold takP; rw [e]; rfl
    rw [e, e1, e2]
    exact rtake_may m k hm w
  | true =>
    by_cases hk : 1 ≤ k ∧ k ≤ 3
    · have e : errT m k = 0 := by unfold errT; rw [hm, if_pos hk]; rfl
      have e1 : takM m k = taken m k := by unfold takM; rw [e]; rfl
      obtain ⟨_, _, _, _, h5, h6, _, h8, _⟩ := mayB_iff.1 hm
      by_cases ho : m.ou = 0
      · have ho' : decide (0 < m.ou) = false := by simp; omega
        rcases (show k = 1 ∨ k = 2 ∨ k = 3 by omega) with rfl | rfl | rfl
        · have e2 : takP m 1 = 0 := by unfold takP; rw [if_neg (by omega)]
          have e3 : taken m 1 = { m with hl := min (m.hl + 30) 100 } := by unfold taken; rw [if_pos ho]; rfl
          rw [e, e1, e2, e3]
          exact rtake_one m hm ho' h5.1 h5.2 w
        · have e2 : takP m 2 = 0 := by unfold takP; rw [if_neg (by omega)]
          have e3 : taken m 2 = { m with en := min (m.en + 40) 100 } := by unfold taken; rw [if_pos ho]; rfl
          rw [e, e1, e2, e3]
          exact rtake_two m hm ho' h6.1 h6.2 w
        · have e2 : takP m 3 = 5 := by unfold takP; rw [if_pos ⟨e, ho, rfl⟩]
          have e3 : taken m 3 = m := by unfold taken; rw [if_pos ho]; rfl
          rw [e, e1, e2, e3]
          exact rtake_three m hm ho' w
      · have e2 : takP m k = 0 := by unfold takP; rw [if_neg (fun h => ho h.2.1)]
        have e3 : taken m k = m := by unfold taken; rw [if_neg ho]
        rw [e, e1, e2, e3]
        exact rtake_out m k hm (by omega) (by simp; omega) (by omega) w
    · have e : errT m k = 1 := by unfold errT; rw [hm, if_neg hk]; rfl
      have e1 : takM m k = zM := by unfold takM; rw [e]; rfl
      have e2 : takP m k = 0 := by unfold takP; rw [e]; rfl
      rw [e, e1, e2]
      exact rtake_arg m k hm hk w
end Go.Proofs.YtiglielcdlnpbaaDoor
