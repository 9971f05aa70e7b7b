/- The document's Glide, whole; its Hurt. -/
import Derived.Test.YtaalbkmdmocdeaaDoorNi
namespace Go.Proofs.YtaalbkmdmocdeaaDoor
open Go.RowKit
open Pu Gp Ap Vp Np
set_option maxRecDepth 100000

theorem tdiv_le {n d : Int} (hd : 1 ≤ d) (k : Int) (h1 : -k * d ≤ n) (h2 : n ≤ k * d) : -k ≤ n.tdiv d ∧ n.tdiv d ≤ k := by
  rcases Int.le_total 0 n with h | h
  · rw [Int.tdiv_eq_ediv_of_nonneg h]
    have h3 : n / d ≤ k := by
      have := Int.ediv_le_ediv (show 0 < d by omega) h2
      rwa [Int.mul_ediv_cancel _ (by omega)] at this
    have h4 : 0 ≤ n / d := Int.ediv_nonneg h (by omega)
    omega
  · have e : n.tdiv d = -((-n).tdiv d) := by rw [Int.neg_tdiv]; omega
    rw [e, Int.tdiv_eq_ediv_of_nonneg (by omega)]
    have h3 : -n / d ≤ k := by
      have := Int.ediv_le_ediv (show 0 < d by omega) (show -n ≤ k * d by rw [Int.neg_mul] at h1; omega)
      rwa [Int.mul_ediv_cancel _ (by omega)] at this
    have h4 : 0 ≤ -n / d := Int.ediv_nonneg (by omega) (by omega)
    omega
theorem side_4 (a b c d : Nat) : side a b c d = 0 ∨ side a b c d = 1 ∨ side a b c d = 2 ∨ side a b c d = 3 := by
  unfold side
  split <;> split <;> omega
theorem rglide_any (m : Mv) (C R : Int) (s : ByteArray) (hz : s.size ≤ 281474976710656) (hC : C ≤ 9223372036854775807) (w : World) : Calls Tryd.prog 17 #[mv m, ar C R s] w fun e w' => e = .returned (.tuple #[mv (gliM (solB C R s) m), .int .i64 (chkM m)]) ∧ Still w w' := by
  unfold gliM chkM
  cases hm : mayB m with
  | false => exact rglide_may m C R s hm w
  | true =>
    obtain ⟨g1, g2, g3, g4, g5, g6, g7, g8, g9, g10, g11⟩ := mayB_iff.1 hm
    simp only [if_true]
    unfold glideM
    by_cases h0 : m.ou = 0
    · rw [if_pos h0]
      have t1 := tdiv_le (n := m.sx * 7) (d := 8) (by omega) 1024 (by omega) (by omega)
      have t2 := tdiv_le (n := m.sy * 7) (d := 8) (by omega) 1024 (by omega) (by omega)
      have s1 := spd_in m.sx m.px
      have s2 := spd_in m.sy m.py
      have t3 := tdiv_le (n := spd m.sx m.px) (d := 2) (by omega) 1024 (by omega) (by omega)
      have t4 := tdiv_le (n := spd m.sy m.py) (d := 2) (by omega) 1024 (by omega) (by omega)
      exact rglide_in m C R s hm (by omega) g2.1 g2.2.1 g2.2.2.1 g2.2.2.2 g3.1 g3.2.1 g3.2.2.1 g3.2.2.2 _ _ (spd m.sx m.px) (spd m.sy m.py) _ _ _ _ _ rfl rfl t1.1 t1.2 t2.1 t2.2 rfl rfl rfl rfl t3.1 t3.2 t4.1 t4.2 (side_4 _ _ _ _)
        (fun u => rslide_any C R m.ax m.ay (spd m.sx m.px) (spd m.sy m.py) 1280 s hz hC _ _ _ _ 1280 _ _ _ _ _ _ rfl rfl rfl rfl (by decide) rfl rfl rfl rfl rfl rfl u) w
    · rw [if_neg h0]
      exact rglide_out m C R s hm (by omega) w
theorem rhurt_may (m : Mv) (h : Int) (hm : mayB m = false) (w : World) : Calls Tryd.prog 19 #[mv m, .int .i64 h] w fun e w' => e = .returned (.tuple #[mv zM, .bool false, .int .i64 80]) ∧ Still w w' := by
  have A0 := Still.alloc w (.cells (mcs m) 25)
  have A1 := Still.alloc (newM w m) (.cells (mcs zM) 25)
  have p0 := (newM_mb w m).still A1
  have q0 := newM_mb (newM w m) zM
  simp only [size_alloc] at q0
  have HS0 := hid (A0.trans A1)
  clear A0 A1
  obtain ⟨c0, c1, c2, c3, c4, c5, c6, c7, c8, c9, c10, c11, c12, cf⟩ := p0.cells
  have H := hid (fun w => rcheck8_any m w)
  rw [show chkM m = 80 by unfold chkM; rw [hm]; rfl] at H
  clear hm
  go_enter Tryd.func19, Tryd.ntmps19
  go_wp2_with fail
  refine (H.out _).mono ?_
  rintro e w1 ⟨rfl, h1⟩
  have p1 := p0.still h1
  have q1 := q0.still h1
  have HS1 := hid (HS0.out.trans h1)
  clear h1 HS0 p0 q0 c0 c1 c2 c3 c4 c5 c6 c7 c8 c9 c10 c11 c12 cf H
  obtain ⟨c0, c1, c2, c3, c4, c5, c6, c7, c8, c9, c10, c11, c12, cf⟩ := p1.cells
  obtain ⟨k0, k1, k2, k3, k4, k5, k6, k7, k8, k9, k10, k11, k12, kf⟩ := q1.cells
  go_wp2_with fail
  refine bodyPost_ret (Mb.rest3 (Mb.put q1 _ _ _ _ _ _ _ _ _ _ _ _ _) rfl _ _ _ rfl rfl rfl) rfl ⟨rfl, ?_⟩
  repeat (first | refine setC_fr ?_ _ _ _ (by omega) | with_reducible exact HS1.out)
theorem rhurt_low (m : Mv) (h : Int) (hm : mayB m = true) (hh : h < 1) (w : World) : Calls Tryd.prog 19 #[mv m, .int .i64 h] w fun e w' => e = .returned (.tuple #[mv zM, .bool false, .int .i64 1]) ∧ Still w w' := by
  have A0 := Still.alloc w (.cells (mcs m) 25)
  have A1 := Still.alloc (newM w m) (.cells (mcs zM) 25)
  have p0 := (newM_mb w m).still A1
  have q0 := newM_mb (newM w m) zM
  simp only [size_alloc] at q0
  have HS0 := hid (A0.trans A1)
  clear A0 A1
  obtain ⟨c0, c1, c2, c3, c4, c5, c6, c7, c8, c9, c10, c11, c12, cf⟩ := p0.cells
  have H := hid (fun w => rcheck8_any m w)
  rw [show chkM m = 0 by unfold chkM; rw [hm]; rfl] at H
  clear hm
  go_enter Tryd.func19, Tryd.ntmps19
  go_wp2_with fail
  refine (H.out _).mono ?_
  rintro e w1 ⟨rfl, h1⟩
  have p1 := p0.still h1
  have q1 := q0.still h1
  have HS1 := hid (HS0.out.trans h1)
  clear h1 HS0 p0 q0 c0 c1 c2 c3 c4 c5 c6 c7 c8 c9 c10 c11 c12 cf H
  obtain ⟨c0, c1, c2, c3, c4, c5, c6, c7, c8, c9, c10, c11, c12, cf⟩ := p1.cells
  obtain ⟨k0, k1, k2, k3, k4, k5, k6, k7, k8, k9, k10, k11, k12, kf⟩ := q1.cells
  go_wp2_with fail
  refine bodyPost_ret (Mb.rest3 (Mb.put q1 _ _ _ _ _ _ _ _ _ _ _ _ _) rfl _ _ _ rfl rfl rfl) rfl ⟨rfl, ?_⟩
  repeat (first | refine setC_fr ?_ _ _ _ (by omega) | with_reducible exact HS1.out)
theorem rhurt_high (m : Mv) (h : Int) (hm : mayB m = true) (hg : ¬ h < 1) (hh : h > 100) (w : World) : Calls Tryd.prog 19 #[mv m, .int .i64 h] w fun e w' => e = .returned (.tuple #[mv zM, .bool false, .int .i64 1]) ∧ Still w w' := by
  have A0 := Still.alloc w (.cells (mcs m) 25)
  have A1 := Still.alloc (newM w m) (.cells (mcs zM) 25)
  have p0 := (newM_mb w m).still A1
  have q0 := newM_mb (newM w m) zM
  simp only [size_alloc] at q0
  have HS0 := hid (A0.trans A1)
  clear A0 A1
  obtain ⟨c0, c1, c2, c3, c4, c5, c6, c7, c8, c9, c10, c11, c12, cf⟩ := p0.cells
  have H := hid (fun w => rcheck8_any m w)
  rw [show chkM m = 0 by unfold chkM; rw [hm]; rfl] at H
  clear hm
  go_enter Tryd.func19, Tryd.ntmps19
  go_wp2_with fail
  refine (H.out _).mono ?_
  rintro e w1 ⟨rfl, h1⟩
  have p1 := p0.still h1
  have q1 := q0.still h1
  have HS1 := hid (HS0.out.trans h1)
  clear h1 HS0 p0 q0 c0 c1 c2 c3 c4 c5 c6 c7 c8 c9 c10 c11 c12 cf H
  obtain ⟨c0, c1, c2, c3, c4, c5, c6, c7, c8, c9, c10, c11, c12, cf⟩ := p1.cells
  obtain ⟨k0, k1, k2, k3, k4, k5, k6, k7, k8, k9, k10, k11, k12, kf⟩ := q1.cells
  go_wp2_with fail
  refine bodyPost_ret (Mb.rest3 (Mb.put q1 _ _ _ _ _ _ _ _ _ _ _ _ _) rfl _ _ _ rfl rfl rfl) rfl ⟨rfl, ?_⟩
  repeat (first | refine setC_fr ?_ _ _ _ (by omega) | with_reducible exact HS1.out)
theorem rhurt_out (m : Mv) (h : Int) (hm : mayB m = true) (hg : ¬ h < 1) (hh : decide (100 < h) = false) (h0 : 0 < m.ou) (w : World) : Calls Tryd.prog 19 #[mv m, .int .i64 h] w fun e w' => e = .returned (.tuple #[mv m, .bool false, .int .i64 0]) ∧ Still w w' := by
  have A0 := Still.alloc w (.cells (mcs m) 25)
  have A1 := Still.alloc (newM w m) (.cells (mcs zM) 25)
  have p0 := (newM_mb w m).still A1
  have q0 := newM_mb (newM w m) zM
  simp only [size_alloc] at q0
  have HS0 := hid (A0.trans A1)
  clear A0 A1
  obtain ⟨c0, c1, c2, c3, c4, c5, c6, c7, c8, c9, c10, c11, c12, cf⟩ := p0.cells
  have H := hid (fun w => rcheck8_any m w)
  rw [show chkM m = 0 by unfold chkM; rw [hm]; rfl] at H
  clear hm
  go_enter Tryd.func19, Tryd.ntmps19
  go_wp2_with fail
  refine (H.out _).mono ?_
  rintro e w1 ⟨rfl, h1⟩
  have p1 := p0.still h1
  have q1 := q0.still h1
  have HS1 := hid (HS0.out.trans h1)
  clear h1 HS0 p0 q0 c0 c1 c2 c3 c4 c5 c6 c7 c8 c9 c10 c11 c12 cf H
  obtain ⟨c0, c1, c2, c3, c4, c5, c6, c7, c8, c9, c10, c11, c12, cf⟩ := p1.cells
  obtain ⟨k0, k1, k2, k3, k4, k5, k6, k7, k8, k9, k10, k11, k12, kf⟩ := q1.cells
  go_wp2_with fail
  refine bodyPost_ret (Mb.rest3 (Mb.put q1 _ _ _ _ _ _ _ _ _ _ _ _ _) rfl _ _ _ rfl rfl rfl) rfl ⟨rfl, ?_⟩
  repeat (first | refine setC_fr ?_ _ _ _ (by omega) | with_reducible exact HS1.out)
end Go.Proofs.YtaalbkmdmocdeaaDoor
