/- The document's Glide. The document's Glide, whole; its Hurt. The document's Hurt of one in play; whole. The document's Hurt, whole; its Rest. The document's Rest of one in play; whole. -/
import Derived.Test.YtaalbkmdmocdeaaDoorNd
import Derived.Test.YtaalbkmdmocdeaaDoorSl
namespace Go.Proofs.YtaalbkmdmocdeaaDoor
open Go.RowKit
open Pu Gp Ap Vp Np
set_option maxRecDepth 100000

theorem Mb.spd {w : World} {g : Nat} {m : Mv} (h : Mb w g m) (x y : Int) : Mb ((w.setCell ⟨g, 2, none⟩ (.int .i64 x)).setCell ⟨g, 3, none⟩ (.int .i64 y)) g { m with sx := x, sy := y } := by
  have h1 := heap_setCell_same w g 2 _ _ (.int .i64 x) h
  have h2 := heap_setCell_same _ g 3 _ _ (.int .i64 y) h1
  exact h2.trans (by kernel_rfl)
theorem rglide_may (m : Mv) (C R : Int) (s : ByteArray) (hm : mayB m = false) (w : World) : Calls Tryd.prog 17 #[mv m, ar C R s] w fun e w' => e = .returned (.tuple #[mv zM, .int .i64 80]) ∧ Still w w' := by
  have A0 := Still.alloc w (.cells (mcs m) 25)
  have A1 := Still.alloc (newM w m) (.cells #[.int .i64 C, .int .i64 R, .string s] 37)
  have A2 := Still.alloc (newA (newM w m) C R s) (.cells (mcs zM) 25)
  have p0 := ((newM_mb w m).still A1).still A2
  have o0 := (newA_ab (newM w m) C R s).still A2
  have q0 := newM_mb (newA (newM w m) C R s) zM
  simp only [size_alloc] at o0 q0
  have HS0 := hid ((A0.trans A1).trans A2)
  clear A0 A1 A2
  obtain ⟨c0, c1, c2, c3, c4, c5, c6, c7, c8, c9, c10, c11, c12, cf⟩ := p0.cells
  obtain ⟨d0, d1, d2, df⟩ := o0.cells
  have H := hid (fun w => rcheck8_any m w)
  rw [show chkM m = 80 by unfold chkM; rw [hm]; rfl] at H
  clear hm
  go_enter Tryd.func17, Tryd.ntmps17
  go_wp2_with fail
  refine (H.out _).mono ?_
  rintro e w1 ⟨rfl, h1⟩
  have q1 := q0.still h1
  have HS1 := hid (HS0.out.trans h1)
  clear h1 HS0 p0 o0 q0 c0 c1 c2 c3 c4 c5 c6 c7 c8 c9 c10 c11 c12 cf d0 d1 d2 df
  obtain ⟨k0, k1, k2, k3, k4, k5, k6, k7, k8, k9, k10, k11, k12, kf⟩ := q1.cells
  go_wp2_with fail
  refine bodyPost_ret (Mb.rest (Mb.put q1 _ _ _ _ _ _ _ _ _ _ _ _ _) rfl _ _ rfl rfl) rfl ⟨rfl, ?_⟩
  repeat (first | refine setC_fr ?_ _ _ _ (by omega) | with_reducible exact HS1.out)
theorem rglide_out (m : Mv) (C R : Int) (s : ByteArray) (hm : mayB m = true) (h0 : 0 < m.ou) (w : World) : Calls Tryd.prog 17 #[mv m, ar C R s] w fun e w' => e = .returned (.tuple #[mv m, .int .i64 0]) ∧ Still w w' := by
  have A0 := Still.alloc w (.cells (mcs m) 25)
  have A1 := Still.alloc (newM w m) (.cells #[.int .i64 C, .int .i64 R, .string s] 37)
  have A2 := Still.alloc (newA (newM w m) C R s) (.cells (mcs zM) 25)
  have p0 := ((newM_mb w m).still A1).still A2
  have o0 := (newA_ab (newM w m) C R s).still A2
  have q0 := newM_mb (newA (newM w m) C R s) zM
  simp only [size_alloc] at o0 q0
  have HS0 := hid ((A0.trans A1).trans A2)
  clear A0 A1 A2
  obtain ⟨c0, c1, c2, c3, c4, c5, c6, c7, c8, c9, c10, c11, c12, cf⟩ := p0.cells
  obtain ⟨d0, d1, d2, df⟩ := o0.cells
  have H := hid (fun w => rcheck8_any m w)
  rw [show chkM m = 0 by unfold chkM; rw [hm]; rfl] at H
  clear hm
  go_enter Tryd.func17, Tryd.ntmps17
  go_wp2_with fail
  refine (H.out _).mono ?_
  rintro e w1 ⟨rfl, h1⟩
  have p1 := p0.still h1
  have o1 := o0.still h1
  have q1 := q0.still h1
  have HS1 := hid (HS0.out.trans h1)
  clear h1 HS0 p0 o0 q0 c0 c1 c2 c3 c4 c5 c6 c7 c8 c9 c10 c11 c12 cf d0 d1 d2 df H
  obtain ⟨c0, c1, c2, c3, c4, c5, c6, c7, c8, c9, c10, c11, c12, cf⟩ := p1.cells
  obtain ⟨d0, d1, d2, df⟩ := o1.cells
  obtain ⟨k0, k1, k2, k3, k4, k5, k6, k7, k8, k9, k10, k11, k12, kf⟩ := q1.cells
  go_wp2_with fail
  refine bodyPost_ret (Mb.rest (Mb.put q1 _ _ _ _ _ _ _ _ _ _ _ _ _) rfl _ _ rfl rfl) rfl ⟨rfl, ?_⟩
  repeat (first | refine setC_fr ?_ _ _ _ (by omega) | with_reducible exact HS1.out)
set_option maxHeartbeats 4000000 in
theorem rglide_in (m : Mv) (C R : Int) (s : ByteArray) (hm : mayB m = true) (h0 : ¬ 0 < m.ou) (hx1 : -1024 ≤ m.sx) (hx2 : m.sx ≤ 1024) (hy1 : -1024 ≤ m.sy) (hy2 : m.sy ≤ 1024) (hp1 : -256 ≤ m.px) (hp2 : m.px ≤ 256) (hq1 : -256 ≤ m.py) (hq2 : m.py ≤ 256)
    (SX SY P Q X Y N DP DQ : Int) (eSX : (m.sx * 7).tdiv 8 = SX) (eSY : (m.sy * 7).tdiv 8 = SY) (hsx1 : -1024 ≤ SX) (hsx2 : SX ≤ 1024) (hsy1 : -1024 ≤ SY) (hsy2 : SY ≤ 1024) (eP : clampf (SX + m.px) (-1024) 1024 = P) (eQ : clampf (SY + m.py) (-1024) 1024 = Q)
    (eDP : P.tdiv 2 = DP) (eDQ : Q.tdiv 2 = DQ) (hdp1 : -1024 ≤ DP) (hdp2 : DP ≤ 1024) (hdq1 : -1024 ≤ DQ) (hdq2 : DQ ≤ 1024) (hN : N = 0 ∨ N = 1 ∨ N = 2 ∨ N = 3)
    (hS : ∀ u : World, Calls Tryd.prog 39 #[ar C R s, pt m.ax m.ay, pt P Q, .int .i64 1280] u fun e w' => e = .returned (.tuple #[pt X Y, .int .i64 N]) ∧ Still u w') (w : World) :
    Calls Tryd.prog 17 #[mv m, ar C R s] w fun e w' => e = .returned (.tuple #[mv { m with ax := X, ay := Y, sx := if N % 2 = 1 then -DP else P, sy := if 2 ≤ N then -DQ else Q }, .int .i64 0]) ∧ Still w w' := by
  have HSl := hid hS
  have HN := hid hN
  have HP := hid eP
  have HQ := hid eQ
  have HDP := hid eDP
  have HDQ := hid eDQ
  clear hS hN eP eQ eDP eDQ
  have A0 := Still.alloc w (.cells (mcs m) 25)
  have A1 := Still.alloc (newM w m) (.cells #[.int .i64 C, .int .i64 R, .string s] 37)
  have A2 := Still.alloc (newA (newM w m) C R s) (.cells (mcs zM) 25)
  have p0 := ((newM_mb w m).still A1).still A2
  have o0 := (newA_ab (newM w m) C R s).still A2
  have q0 := newM_mb (newA (newM w m) C R s) zM
  simp only [size_alloc] at o0 q0
  have HS0 := hid ((A0.trans A1).trans A2)
  clear A0 A1 A2
  obtain ⟨c0, c1, c2, c3, c4, c5, c6, c7, c8, c9, c10, c11, c12, cf⟩ := p0.cells
  obtain ⟨d0, d1, d2, df⟩ := o0.cells
  have H := hid (fun w => rcheck8_any m w)
  rw [show chkM m = 0 by unfold chkM; rw [hm]; rfl] at H
  clear hm
  go_enter Tryd.func17, Tryd.ntmps17
  go_wp2_with fail
  refine (H.out _).mono ?_
  rintro e w1 ⟨rfl, h1⟩
  have p1 := p0.still h1
  have o1 := o0.still h1
  have q1 := q0.still h1
  have HS1 := hid (HS0.out.trans h1)
  clear h1 HS0 p0 o0 q0 c0 c1 c2 c3 c4 c5 c6 c7 c8 c9 c10 c11 c12 cf d0 d1 d2 df H
  obtain ⟨c0, c1, c2, c3, c4, c5, c6, c7, c8, c9, c10, c11, c12, cf⟩ := p1.cells
  obtain ⟨d0, d1, d2, df⟩ := o1.cells
  obtain ⟨k0, k1, k2, k3, k4, k5, k6, k7, k8, k9, k10, k11, k12, kf⟩ := q1.cells
  go_wp2_with fail
  refine (rclamp_any _ _ _ _).mono ?_
  rintro e w2 ⟨he, hw⟩
  rw [he, hw, HP.out]
  clear he hw w2
  go_wp2_with fail
  refine (rclamp_any _ _ _ _).mono ?_
  rintro e w2 ⟨he, hw⟩
  rw [he, hw, HQ.out]
  clear he hw w2
  have p2 := p1.spd P Q
  have q2 := (q1.other w.heap.size 2 (.int .i64 P) (by omega)).other w.heap.size 3 (.int .i64 Q) (by omega)
  have HS2 := hid (setC_fr (setC_fr HS1.out w.heap.size 2 (.int .i64 P) (Nat.le_refl _)) w.heap.size 3 (.int .i64 Q) (Nat.le_refl _))
  go_wp2_with fail
  refine (HSl.out _).mono ?_
  rintro e w3 ⟨rfl, h3⟩
  have A3 := Still.alloc w3 (.cells #[.int .i64 X, .int .i64 Y] 23)
  have p3 := (p2.still h3).still A3
  have q3 := (q2.still h3).still A3
  have HS3 := hid ((HS2.out.trans h3).trans A3)
  have b3 := newP_pb w3 X Y
  have HL : Hid (w.heap.size + 1 + 1 < w3.heap.size) := hid ((q2.still h3).lt)
  clear h3 A3 HS2 p2 q2 HS1 p1 o1 q1 c0 c1 c2 c3 c4 c5 c6 c7 c8 c9 c10 c11 c12 cf d0 d1 d2 df k0 k1 k2 k3 k4 k5 k6 k7 k8 k9 k10 k11 k12 kf HSl
  obtain ⟨c0, c1, c2, c3, c4, c5, c6, c7, c8, c9, c10, c11, c12, cf⟩ := p3.cells
  obtain ⟨k0, k1, k2, k3, k4, k5, k6, k7, k8, k9, k10, k11, k12, kf⟩ := q3.cells
  obtain ⟨b0, b1, bf⟩ := b3.cells
  have eDP := HDP.out
  have eDQ := HDQ.out
  rcases HN.out with rfl | rfl | rfl | rfl
  all_goals
    go_wp2_with fail
    refine bodyPost_ret (Mb.rest (Mb.put (m := zM) ?_ _ _ _ _ _ _ _ _ _ _ _ _ _) rfl _ _ rfl rfl) rfl ⟨?_, ?_⟩
    · repeat (first | refine Mb.other ?_ _ _ _ (by omega) | with_reducible exact q3)
    · rfl
    · repeat (first | refine setC_fr ?_ _ _ _ (by omega) | with_reducible exact HS3.out)
end Go.Proofs.YtaalbkmdmocdeaaDoor
namespace Go.Proofs.YtaalbkmdmocdeaaDoor
open Go.RowKit
open Pu Gp Ap Vp Np
set_option maxRecDepth 100000

theorem tdiv_le {n d : Int} (hd : 1 ≤ d) (k : Int) (h1 : -k * d ≤ n) (h2 : n ≤ k * d) : -k ≤ n.tdiv d ∧ n.tdiv d ≤ k := by
  rcases Int.le_total 0 n with h | h
  · rw [Int.tdiv_eq_ediv_of_nonneg h]
    have h3 : n / d ≤ k := by
      have := Int.ediv_le_ediv (show 0 < d by omega) h2
      rwa [Int.mul_ediv_cancel _ (by omega)] at this
    have h4 : 0 ≤ n / d := Int.ediv_nonneg h (by omega)
    omega
  · have e : n.tdiv d = -((-n).tdiv d) := by rw [Int.neg_tdiv]; omega
    rw [e, Int.tdiv_eq_ediv_of_nonneg (by omega)]
    have h3 : -n / d ≤ k := by
      have := Int.ediv_le_ediv (show 0 < d by omega) (show -n ≤ k * d by rw [Int.neg_mul] at h1; omega)
      rwa [Int.mul_ediv_cancel _ (by omega)] at this
    have h4 : 0 ≤ -n / d := Int.ediv_nonneg (by omega) (by omega)
    omega
theorem side_4 (a b c d : Nat) : side a b c d = 0 ∨ side a b c d = 1 ∨ side a b c d = 2 ∨ side a b c d = 3 := by
  unfold side
  split <;> split <;> omega
theorem rglide_any (m : Mv) (C R : Int) (s : ByteArray) (hz : s.size ≤ 281474976710656) (hC : C ≤ 9223372036854775807) (w : World) : Calls Tryd.prog 17 #[mv m, ar C R s] w fun e w' => e = .returned (.tuple #[mv (gliM (solB C R s) m), .int .i64 (chkM m)]) ∧ Still w w' := by
  unfold gliM chkM
  cases hm : mayB m with
  | false => exact rglide_may m C R s hm w
  | true =>
    obtain ⟨g1, g2, g3, g4, g5, g6, g7, g8, g9, g10, g11⟩ := mayB_iff.1 hm
    simp only [if_true]
    unfold glideM
    by_cases h0 : m.ou = 0
    · rw [if_pos h0]
      have t1 := tdiv_le (n := m.sx * 7) (d := 8) (by omega) 1024 (by omega) (by omega)
      have t2 := tdiv_le (n := m.sy * 7) (d := 8) (by omega) 1024 (by omega) (by omega)
      have s1 := spd_in m.sx m.px
      have s2 := spd_in m.sy m.py
      have t3 := tdiv_le (n := spd m.sx m.px) (d := 2) (by omega) 1024 (by omega) (by omega)
      have t4 := tdiv_le (n := spd m.sy m.py) (d := 2) (by omega) 1024 (by omega) (by omega)
      exact rglide_in m C R s hm (by omega) g2.1 g2.2.1 g2.2.2.1 g2.2.2.2 g3.1 g3.2.1 g3.2.2.1 g3.2.2.2 _ _ (spd m.sx m.px) (spd m.sy m.py) _ _ _ _ _ rfl rfl t1.1 t1.2 t2.1 t2.2 rfl rfl rfl rfl t3.1 t3.2 t4.1 t4.2 (side_4 _ _ _ _)
        (fun u => rslide_any C R m.ax m.ay (spd m.sx m.px) (spd m.sy m.py) 1280 s hz hC _ _ _ _ 1280 _ _ _ _ _ _ rfl rfl rfl rfl (by decide) rfl rfl rfl rfl rfl rfl u) w
    · rw [if_neg h0]
      exact rglide_out m C R s hm (by omega) w
theorem rhurt_may (m : Mv) (h : Int) (hm : mayB m = false) (w : World) : Calls Tryd.prog 19 #[mv m, .int .i64 h] w fun e w' => e = .returned (.tuple #[mv zM, .bool false, .int .i64 80]) ∧ Still w w' := by
  have A0 := Still.alloc w (.cells (mcs m) 25)
  have A1 := Still.alloc (newM w m) (.cells (mcs zM) 25)
  have p0 := (newM_mb w m).still A1
  have q0 := newM_mb (newM w m) zM
  simp only [size_alloc] at q0
  have HS0 := hid (A0.trans A1)
  clear A0 A1
  obtain ⟨c0, c1, c2, c3, c4, c5, c6, c7, c8, c9, c10, c11, c12, cf⟩ := p0.cells
  have H := hid (fun w => rcheck8_any m w)
  rw [show chkM m = 80 by unfold chkM; rw [hm]; rfl] at H
  clear hm
  go_enter Tryd.func19, Tryd.ntmps19
  go_wp2_with fail
  refine (H.out _).mono ?_
  rintro e w1 ⟨rfl, h1⟩
  have p1 := p0.still h1
  have q1 := q0.still h1
  have HS1 := hid (HS0.out.trans h1)
  clear h1 HS0 p0 q0 c0 c1 c2 c3 c4 c5 c6 c7 c8 c9 c10 c11 c12 cf H
  obtain ⟨c0, c1, c2, c3, c4, c5, c6, c7, c8, c9, c10, c11, c12, cf⟩ := p1.cells
  obtain ⟨k0, k1, k2, k3, k4, k5, k6, k7, k8, k9, k10, k11, k12, kf⟩ := q1.cells
  go_wp2_with fail
  refine bodyPost_ret (Mb.rest3 (Mb.put q1 _ _ _ _ _ _ _ _ _ _ _ _ _) rfl _ _ _ rfl rfl rfl) rfl ⟨rfl, ?_⟩
  repeat (first | refine setC_fr ?_ _ _ _ (by omega) | with_reducible exact HS1.out)
theorem rhurt_low (m : Mv) (h : Int) (hm : mayB m = true) (hh : h < 1) (w : World) : Calls Tryd.prog 19 #[mv m, .int .i64 h] w fun e w' => e = .returned (.tuple #[mv zM, .bool false, .int .i64 1]) ∧ Still w w' := by
  have A0 := Still.alloc w (.cells (mcs m) 25)
  have A1 := Still.alloc (newM w m) (.cells (mcs zM) 25)
  have p0 := (newM_mb w m).still A1
  have q0 := newM_mb (newM w m) zM
  simp only [size_alloc] at q0
  have HS0 := hid (A0.trans A1)
  clear A0 A1
  obtain ⟨c0, c1, c2, c3, c4, c5, c6, c7, c8, c9, c10, c11, c12, cf⟩ := p0.cells
  have H := hid (fun w => rcheck8_any m w)
  rw [show chkM m = 0 by unfold chkM; rw [hm]; rfl] at H
  clear hm
  go_enter Tryd.func19, Tryd.ntmps19
  go_wp2_with fail
  refine (H.out _).mono ?_
  rintro e w1 ⟨rfl, h1⟩
  have p1 := p0.still h1
  have q1 := q0.still h1
  have HS1 := hid (HS0.out.trans h1)
  clear h1 HS0 p0 q0 c0 c1 c2 c3 c4 c5 c6 c7 c8 c9 c10 c11 c12 cf H
  obtain ⟨c0, c1, c2, c3, c4, c5, c6, c7, c8, c9, c10, c11, c12, cf⟩ := p1.cells
  obtain ⟨k0, k1, k2, k3, k4, k5, k6, k7, k8, k9, k10, k11, k12, kf⟩ := q1.cells
  go_wp2_with fail
  refine bodyPost_ret (Mb.rest3 (Mb.put q1 _ _ _ _ _ _ _ _ _ _ _ _ _) rfl _ _ _ rfl rfl rfl) rfl ⟨rfl, ?_⟩
  repeat (first | refine setC_fr ?_ _ _ _ (by omega) | with_reducible exact HS1.out)
theorem rhurt_high (m : Mv) (h : Int) (hm : mayB m = true) (hg : ¬ h < 1) (hh : h > 100) (w : World) : Calls Tryd.prog 19 #[mv m, .int .i64 h] w fun e w' => e = .returned (.tuple #[mv zM, .bool false, .int .i64 1]) ∧ Still w w' := by
  have A0 := Still.alloc w (.cells (mcs m) 25)
  have A1 := Still.alloc (newM w m) (.cells (mcs zM) 25)
  have p0 := (newM_mb w m).still A1
  have q0 := newM_mb (newM w m) zM
  simp only [size_alloc] at q0
  have HS0 := hid (A0.trans A1)
  clear A0 A1
  obtain ⟨c0, c1, c2, c3, c4, c5, c6, c7, c8, c9, c10, c11, c12, cf⟩ := p0.cells
  have H := hid (fun w => rcheck8_any m w)
  rw [show chkM m = 0 by unfold chkM; rw [hm]; rfl] at H
  clear hm
  go_enter Tryd.func19, Tryd.ntmps19
  go_wp2_with fail
  refine (H.out _).mono ?_
  rintro e w1 ⟨rfl, h1⟩
  have p1 := p0.still h1
  have q1 := q0.still h1
  have HS1 := hid (HS0.out.trans h1)
  clear h1 HS0 p0 q0 c0 c1 c2 c3 c4 c5 c6 c7 c8 c9 c10 c11 c12 cf H
  obtain ⟨c0, c1, c2, c3, c4, c5, c6, c7, c8, c9, c10, c11, c12, cf⟩ := p1.cells
  obtain ⟨k0, k1, k2, k3, k4, k5, k6, k7, k8, k9, k10, k11, k12, kf⟩ := q1.cells
  go_wp2_with fail
  refine bodyPost_ret (Mb.rest3 (Mb.put q1 _ _ _ _ _ _ _ _ _ _ _ _ _) rfl _ _ _ rfl rfl rfl) rfl ⟨rfl, ?_⟩
  repeat (first | refine setC_fr ?_ _ _ _ (by omega) | with_reducible exact HS1.out)
theorem rhurt_out (m : Mv) (h : Int) (hm : mayB m = true) (hg : ¬ h < 1) (hh : decide (100 < h) = false) (h0 : 0 < m.ou) (w : World) : Calls Tryd.prog 19 #[mv m, .int .i64 h] w fun e w' => e = .returned (.tuple #[mv m, .bool false, .int .i64 0]) ∧ Still w w' := by
  have A0 := Still.alloc w (.cells (mcs m) 25)
  have A1 := Still.alloc (newM w m) (.cells (mcs zM) 25)
  have p0 := (newM_mb w m).still A1
  have q0 := newM_mb (newM w m) zM
  simp only [size_alloc] at q0
  have HS0 := hid (A0.trans A1)
  clear A0 A1
  obtain ⟨c0, c1, c2, c3, c4, c5, c6, c7, c8, c9, c10, c11, c12, cf⟩ := p0.cells
  have H := hid (fun w => rcheck8_any m w)
  rw [show chkM m = 0 by unfold chkM; rw [hm]; rfl] at H
  clear hm
  go_enter Tryd.func19, Tryd.ntmps19
  go_wp2_with fail
  refine (H.out _).mono ?_
  rintro e w1 ⟨rfl, h1⟩
  have p1 := p0.still h1
  have q1 := q0.still h1
  have HS1 := hid (HS0.out.trans h1)
  clear h1 HS0 p0 q0 c0 c1 c2 c3 c4 c5 c6 c7 c8 c9 c10 c11 c12 cf H
  obtain ⟨c0, c1, c2, c3, c4, c5, c6, c7, c8, c9, c10, c11, c12, cf⟩ := p1.cells
  obtain ⟨k0, k1, k2, k3, k4, k5, k6, k7, k8, k9, k10, k11, k12, kf⟩ := q1.cells
  go_wp2_with fail
  refine bodyPost_ret (Mb.rest3 (Mb.put q1 _ _ _ _ _ _ _ _ _ _ _ _ _) rfl _ _ _ rfl rfl rfl) rfl ⟨rfl, ?_⟩
  repeat (first | refine setC_fr ?_ _ _ _ (by omega) | with_reducible exact HS1.out)
end Go.Proofs.YtaalbkmdmocdeaaDoor
namespace Go.Proofs.YtaalbkmdmocdeaaDoor
open Go.RowKit
open Pu Gp Ap Vp Np
set_option maxRecDepth 100000

theorem Mb.eng {w : World} {g : Nat} {m : Mv} (h : Mb w g m) (e : Int) : Mb (w.setCell ⟨g, 8, none⟩ (.int .i64 e)) g { m with en := e } := by
  have h1 := heap_setCell_same w g 8 _ _ (.int .i64 e) h
  exact h1.trans (by kernel_rfl)
theorem Mb.on {F : Nat → Prop} {w w' : World} {g : Nat} {m : Mv} (h : Mb w g m) (hs : Fr F w w') (hF : ¬ F g) : Mb w' g m := hs.kept h hF
set_option maxHeartbeats 4000000 in
theorem rhurt_n1 (m : Mv) (h : Int) (hm : mayB m = true) (hg : ¬ h < 1) (hh : decide (100 < h) = false) (hh2 : h ≤ 100) (h0 : ¬ 0 < m.ou) (hl1 : 0 ≤ m.hl) (hl2 : m.hl ≤ 100) (hsh : m.sh = false) (hd : ¬ m.hl - h ≤ 0) (w : World) : Calls Tryd.prog 19 #[mv m, .int .i64 h] w fun e w' => e = .returned (.tuple #[mv { m with sh := false, hl := m.hl - h }, .bool false, .int .i64 0]) ∧ Still w w' := by
  have HSH := hid hsh
  clear hsh
  have A0 := Still.alloc w (.cells (mcs m) 25)
  have A1 := Still.alloc (newM w m) (.cells (mcs zM) 25)
  have p0 := (newM_mb w m).still A1
  have q0 := newM_mb (newM w m) zM
  simp only [size_alloc] at q0
  have HS0 := hid (A0.trans A1)
  clear A0 A1
  obtain ⟨c0, c1, c2, c3, c4, c5, c6, c7, c8, c9, c10, c11, c12, cf⟩ := p0.cells
  have H := hid (fun w => rcheck8_any m w)
  rw [show chkM m = 0 by unfold chkM; rw [hm]; rfl] at H
  clear hm
  go_enter Tryd.func19, Tryd.ntmps19
  go_wp2_with fail
  refine (H.out _).mono ?_
  rintro e w1 ⟨rfl, h1⟩
  have p1 := p0.still h1
  have q1 := q0.still h1
  have HS1 := hid (HS0.out.trans h1)
  clear h1 HS0 p0 q0 c0 c1 c2 c3 c4 c5 c6 c7 c8 c9 c10 c11 c12 cf H
  obtain ⟨c0, c1, c2, c3, c4, c5, c6, c7, c8, c9, c10, c11, c12, cf⟩ := p1.cells
  obtain ⟨k0, k1, k2, k3, k4, k5, k6, k7, k8, k9, k10, k11, k12, kf⟩ := q1.cells
  rw [HSH.out] at c9
  go_wp2_with fail
  go_loopw [1] (fun x wr => x = .int .i64 h ∧ wr = w1) (fun _ _ => 0)
  case atStart => exact ⟨rfl, rfl⟩
  case round =>
    obtain ⟨rfl, hw⟩ := hrel
    rw [hw]
    clear hw
    go_wp2_with fail
    refine bodyPost_ret (Mb.rest3 (Mb.put (m := zM) ?_ _ _ _ _ _ _ _ _ _ _ _ _ _) rfl _ _ _ rfl rfl rfl) rfl ⟨?_, ?_⟩
    · repeat (first | refine Mb.other ?_ _ _ _ (by omega) | with_reducible exact q1)
    · rfl
    · repeat (first | refine setC_fr ?_ _ _ _ (by omega) | with_reducible exact HS1.out)
set_option maxHeartbeats 4000000 in
theorem rhurt_n2 (m : Mv) (h : Int) (hm : mayB m = true) (hg : ¬ h < 1) (hh : decide (100 < h) = false) (hh2 : h ≤ 100) (h0 : ¬ 0 < m.ou) (hl1 : 0 ≤ m.hl) (hl2 : m.hl ≤ 100) (hsh : m.sh = false) (hd : m.hl - h ≤ 0) (w : World) : Calls Tryd.prog 19 #[mv m, .int .i64 h] w fun e w' => e = .returned (.tuple #[mv (outM m), .bool true, .int .i64 0]) ∧ Still w w' := by
  have HSH := hid hsh
  clear hsh
  have A0 := Still.alloc w (.cells (mcs m) 25)
  have A1 := Still.alloc (newM w m) (.cells (mcs zM) 25)
  have p0 := (newM_mb w m).still A1
  have q0 := newM_mb (newM w m) zM
  simp only [size_alloc] at q0
  have HS0 := hid (A0.trans A1)
  clear A0 A1
  obtain ⟨c0, c1, c2, c3, c4, c5, c6, c7, c8, c9, c10, c11, c12, cf⟩ := p0.cells
  have H := hid (fun w => rcheck8_any m w)
  rw [show chkM m = 0 by unfold chkM; rw [hm]; rfl] at H
  clear hm
  go_enter Tryd.func19, Tryd.ntmps19
  go_wp2_with fail
  refine (H.out _).mono ?_
  rintro e w1 ⟨rfl, h1⟩
  have p1 := p0.still h1
  have q1 := q0.still h1
  have HS1 := hid (HS0.out.trans h1)
  clear h1 HS0 p0 q0 c0 c1 c2 c3 c4 c5 c6 c7 c8 c9 c10 c11 c12 cf H
  obtain ⟨c0, c1, c2, c3, c4, c5, c6, c7, c8, c9, c10, c11, c12, cf⟩ := p1.cells
  obtain ⟨k0, k1, k2, k3, k4, k5, k6, k7, k8, k9, k10, k11, k12, kf⟩ := q1.cells
  rw [HSH.out] at c9
  go_wp2_with fail
  go_loopw [1] (fun x wr => x = .int .i64 h ∧ wr = w1) (fun _ _ => 0)
  case atStart => exact ⟨rfl, rfl⟩
  case round =>
    obtain ⟨rfl, hw⟩ := hrel
    rw [hw]
    clear hw
    go_wp2_with fail
    refine bodyPost_ret (Mb.rest3 (Mb.put (m := zM) ?_ _ _ _ _ _ _ _ _ _ _ _ _ _) rfl _ _ _ rfl rfl rfl) rfl ⟨?_, ?_⟩
    · repeat (first | refine Mb.other ?_ _ _ _ (by omega) | with_reducible exact q1)
    · rfl
    · repeat (first | refine setC_fr ?_ _ _ _ (by omega) | with_reducible exact HS1.out)
set_option maxHeartbeats 4000000 in
theorem rhurt_s1 (m : Mv) (h : Int) (hm : mayB m = true) (hg : ¬ h < 1) (hh : decide (100 < h) = false) (hh2 : h ≤ 100) (h0 : ¬ 0 < m.ou) (hl1 : 0 ≤ m.hl) (hl2 : m.hl ≤ 100) (he1 : 0 ≤ m.en) (he2 : m.en ≤ 100) (hsh : m.sh = true) (hd : ¬ m.hl - (h - tak m h) ≤ 0) (w : World) : Calls Tryd.prog 19 #[mv m, .int .i64 h] w fun e w' => e = .returned (.tuple #[mv { m with en := m.en - tak m h, sh := decide (0 < m.en - tak m h), hl := m.hl - (h - tak m h) }, .bool false, .int .i64 0]) ∧ Still w w' := by
  have HSH := hid hsh
  clear hsh
  have A0 := Still.alloc w (.cells (mcs m) 25)
  have A1 := Still.alloc (newM w m) (.cells (mcs zM) 25)
  have p0 := (newM_mb w m).still A1
  have q0 := newM_mb (newM w m) zM
  simp only [size_alloc] at q0
  have HS0 := hid (A0.trans A1)
  clear A0 A1
  obtain ⟨c0, c1, c2, c3, c4, c5, c6, c7, c8, c9, c10, c11, c12, cf⟩ := p0.cells
  have H := hid (fun w => rcheck8_any m w)
  rw [show chkM m = 0 by unfold chkM; rw [hm]; rfl] at H
  clear hm
  go_enter Tryd.func19, Tryd.ntmps19
  go_wp2_with fail
  refine (H.out _).mono ?_
  rintro e w1 ⟨rfl, h1⟩
  have p1 := p0.still h1
  have q1 := q0.still h1
  have HS1 := hid (HS0.out.trans h1)
  clear h1 HS0 p0 q0 c0 c1 c2 c3 c4 c5 c6 c7 c8 c9 c10 c11 c12 cf H
  obtain ⟨c0, c1, c2, c3, c4, c5, c6, c7, c8, c9, c10, c11, c12, cf⟩ := p1.cells
  obtain ⟨k0, k1, k2, k3, k4, k5, k6, k7, k8, k9, k10, k11, k12, kf⟩ := q1.cells
  rw [HSH.out] at c9
  have HLT := hid q1.lt
  go_wp2_with fail
  go_loopw [1] (fun x wr => ∃ t : Nat, (t : Int) ≤ m.en ∧ (t : Int) ≤ h ∧ x = .int .i64 (h - (t : Int)) ∧ Mb wr w.heap.size { m with en := m.en - (t : Int) } ∧ Fr (fun b => b = w.heap.size) w1 wr) (fun x _ => (intOf x).toNat)
  case atStart => exact ⟨0, by omega, by omega, by simp, by simpa using p1, Fr.refl _ _⟩
  case round =>
    obtain ⟨t, ht1, ht2, rfl, pt, hf⟩ := hrel
    have qt := q1.on hf (by omega)
    have HST : Hid (Still w wr) := hid (Fr.trans HS1.out hf (fun j h1 h2 => by omega))
    have HF := hid hf
    clear hf c0 c1 c2 c3 c4 c5 c6 c7 c8 c9 c10 c11 c12 cf k0 k1 k2 k3 k4 k5 k6 k7 k8 k9 k10 k11 k12 kf
    obtain ⟨c0, c1, c2, c3, c4, c5, c6, c7, c8, c9, c10, c11, c12, cf⟩ := pt.cells
    obtain ⟨k0, k1, k2, k3, k4, k5, k6, k7, k8, k9, k10, k11, k12, kf⟩ := qt.cells
    rw [HSH.out] at c9
    by_cases e1 : (t : Int) < m.en
    · by_cases e2 : (t : Int) < h
      · go_wp2_with fail
        go_roundw
        case rel =>
          refine ⟨t + 1, by omega, by omega, by congr 1; omega, ?_, HF.out.setCell _ _ (.inl rfl)⟩
          have := pt.eng (m.en - (t : Int) - 1)
          rw [show m.en - (t : Int) - 1 = m.en - ((t + 1 : Nat) : Int) by omega] at this
          rw [show m.en - (t : Int) - 1 = m.en - ((t + 1 : Nat) : Int) by omega]
          exact this
        case measure => simp [intOf]; omega
      · have e2d : decide ((t : Int) < h) = false := by simpa using e2
        have et : tak m h = (t : Int) := by
          unfold tak
          rw [if_pos HSH.out]
          omega
        have HT := hid et
        have HE := hid e1
        rw [et] at hd
        clear e2 et
        go_wp2_with fail
        refine bodyPost_ret (Mb.rest3 (Mb.put (m := zM) ?_ _ _ _ _ _ _ _ _ _ _ _ _ _) rfl _ _ _ rfl rfl rfl) rfl ⟨?_, ?_⟩
        · repeat (first | refine Mb.other ?_ _ _ _ (by omega) | with_reducible exact qt)
        · (rw [HT.out, decide_eq_true HE.out]; rfl)
        · repeat (first | refine setC_fr ?_ _ _ _ (by omega) | with_reducible exact HST.out)
    · have e1d : decide ((t : Int) < m.en) = false := by simpa using e1
      have et : tak m h = (t : Int) := by
        unfold tak
        rw [if_pos HSH.out]
        omega
      have HT := hid et
      have HE := hid e1d
      rw [et] at hd
      clear e1 et
      go_wp2_with fail
      refine bodyPost_ret (Mb.rest3 (Mb.put (m := zM) ?_ _ _ _ _ _ _ _ _ _ _ _ _ _) rfl _ _ _ rfl rfl rfl) rfl ⟨?_, ?_⟩
      · repeat (first | refine Mb.other ?_ _ _ _ (by omega) | with_reducible exact qt)
      · (rw [HT.out, HE.out]; rfl)
      · repeat (first | refine setC_fr ?_ _ _ _ (by omega) | with_reducible exact HST.out)
set_option maxHeartbeats 4000000 in
theorem rhurt_s2 (m : Mv) (h : Int) (hm : mayB m = true) (hg : ¬ h < 1) (hh : decide (100 < h) = false) (hh2 : h ≤ 100) (h0 : ¬ 0 < m.ou) (hl1 : 0 ≤ m.hl) (hl2 : m.hl ≤ 100) (he1 : 0 ≤ m.en) (he2 : m.en ≤ 100) (hsh : m.sh = true) (hd : m.hl - (h - tak m h) ≤ 0) (w : World) : Calls Tryd.prog 19 #[mv m, .int .i64 h] w fun e w' => e = .returned (.tuple #[mv (outM m), .bool true, .int .i64 0]) ∧ Still w w' := by
  have HSH := hid hsh
  clear hsh
  have A0 := Still.alloc w (.cells (mcs m) 25)
  have A1 := Still.alloc (newM w m) (.cells (mcs zM) 25)
  have p0 := (newM_mb w m).still A1
  have q0 := newM_mb (newM w m) zM
  simp only [size_alloc] at q0
  have HS0 := hid (A0.trans A1)
  clear A0 A1
  obtain ⟨c0, c1, c2, c3, c4, c5, c6, c7, c8, c9, c10, c11, c12, cf⟩ := p0.cells
  have H := hid (fun w => rcheck8_any m w)
  rw [show chkM m = 0 by unfold chkM; rw [hm]; rfl] at H
  clear hm
  go_enter Tryd.func19, Tryd.ntmps19
  go_wp2_with fail
  refine (H.out _).mono ?_
  rintro e w1 ⟨rfl, h1⟩
  have p1 := p0.still h1
  have q1 := q0.still h1
  have HS1 := hid (HS0.out.trans h1)
  clear h1 HS0 p0 q0 c0 c1 c2 c3 c4 c5 c6 c7 c8 c9 c10 c11 c12 cf H
  obtain ⟨c0, c1, c2, c3, c4, c5, c6, c7, c8, c9, c10, c11, c12, cf⟩ := p1.cells
  obtain ⟨k0, k1, k2, k3, k4, k5, k6, k7, k8, k9, k10, k11, k12, kf⟩ := q1.cells
  rw [HSH.out] at c9
  have HLT := hid q1.lt
  go_wp2_with fail
  go_loopw [1] (fun x wr => ∃ t : Nat, (t : Int) ≤ m.en ∧ (t : Int) ≤ h ∧ x = .int .i64 (h - (t : Int)) ∧ Mb wr w.heap.size { m with en := m.en - (t : Int) } ∧ Fr (fun b => b = w.heap.size) w1 wr) (fun x _ => (intOf x).toNat)
  case atStart => exact ⟨0, by omega, by omega, by simp, by simpa using p1, Fr.refl _ _⟩
  case round =>
    obtain ⟨t, ht1, ht2, rfl, pt, hf⟩ := hrel
    have qt := q1.on hf (by omega)
    have HST : Hid (Still w wr) := hid (Fr.trans HS1.out hf (fun j h1 h2 => by omega))
    have HF := hid hf
    clear hf c0 c1 c2 c3 c4 c5 c6 c7 c8 c9 c10 c11 c12 cf k0 k1 k2 k3 k4 k5 k6 k7 k8 k9 k10 k11 k12 kf
    obtain ⟨c0, c1, c2, c3, c4, c5, c6, c7, c8, c9, c10, c11, c12, cf⟩ := pt.cells
    obtain ⟨k0, k1, k2, k3, k4, k5, k6, k7, k8, k9, k10, k11, k12, kf⟩ := qt.cells
    rw [HSH.out] at c9
    by_cases e1 : (t : Int) < m.en
    · by_cases e2 : (t : Int) < h
      · go_wp2_with fail
        go_roundw
        case rel =>
          refine ⟨t + 1, by omega, by omega, by congr 1; omega, ?_, HF.out.setCell _ _ (.inl rfl)⟩
          have := pt.eng (m.en - (t : Int) - 1)
          rw [show m.en - (t : Int) - 1 = m.en - ((t + 1 : Nat) : Int) by omega] at this
          rw [show m.en - (t : Int) - 1 = m.en - ((t + 1 : Nat) : Int) by omega]
          exact this
        case measure => simp [intOf]; omega
      · have e2d : decide ((t : Int) < h) = false := by simpa using e2
        have et : tak m h = (t : Int) := by
          unfold tak
          rw [if_pos HSH.out]
          omega
        rw [et] at hd
        clear e2 et
        go_wp2_with fail
        refine bodyPost_ret (Mb.rest3 (Mb.put (m := zM) ?_ _ _ _ _ _ _ _ _ _ _ _ _ _) rfl _ _ _ rfl rfl rfl) rfl ⟨?_, ?_⟩
        · repeat (first | refine Mb.other ?_ _ _ _ (by omega) | with_reducible exact qt)
        · rfl
        · repeat (first | refine setC_fr ?_ _ _ _ (by omega) | with_reducible exact HST.out)
    · have e1d : decide ((t : Int) < m.en) = false := by simpa using e1
      have et : tak m h = (t : Int) := by
        unfold tak
        rw [if_pos HSH.out]
        omega
      rw [et] at hd
      clear e1 et
      go_wp2_with fail
      refine bodyPost_ret (Mb.rest3 (Mb.put (m := zM) ?_ _ _ _ _ _ _ _ _ _ _ _ _ _) rfl _ _ _ rfl rfl rfl) rfl ⟨?_, ?_⟩
      · repeat (first | refine Mb.other ?_ _ _ _ (by omega) | with_reducible exact qt)
      · rfl
      · repeat (first | refine setC_fr ?_ _ _ _ (by omega) | with_reducible exact HST.out)
end Go.Proofs.YtaalbkmdmocdeaaDoor
namespace Go.Proofs.YtaalbkmdmocdeaaDoor
open Go.RowKit
open Pu Gp Ap Vp Np
set_option maxRecDepth 100000

theorem rhurt_any (m : Mv) (h : Int) (w : World) : Calls Tryd.prog 19 #[mv m, .int .i64 h] w fun e w' => e = .returned (.tuple #[mv (hurM m h), .bool (hurD m h), .int .i64 (errH m h)]) ∧ Still w w' := by
  unfold hurM hurD errH
  cases hm : mayB m with
  | false => exact rhurt_may m h hm w
  | true =>
    obtain ⟨g1, g2, g3, g4, g5, g6, g7, g8, g9, g10, g11⟩ := mayB_iff.1 hm
    simp only [if_true]
    by_cases h1 : h < 1
    · rw [show (if h < 1 ∨ 100 < h then (1 : Int) else 0) = 1 from if_pos (.inl h1), if_neg (by decide)]
      exact rhurt_low m h hm h1 w
    · by_cases h2 : 100 < h
      · rw [show (if h < 1 ∨ 100 < h then (1 : Int) else 0) = 1 from if_pos (.inr h2), if_neg (by decide)]
        exact rhurt_high m h hm h1 h2 w
      · rw [show (if h < 1 ∨ 100 < h then (1 : Int) else 0) = 0 from if_neg (by omega), if_pos rfl]
        have h2d : decide (100 < h) = false := by simpa using h2
        unfold hurtM went
        by_cases h0 : m.ou = 0
        · have h0' : (m.ou == 0) = true := by simpa using h0
          rw [if_pos h0, h0']
          cases hs : m.sh with
          | false =>
            have et : tak m h = 0 := by unfold tak; rw [hs]; rfl
            simp only [et, Int.sub_zero]
            by_cases hd : m.hl - h ≤ 0
            · rw [if_pos hd]
              have := rhurt_n2 m h hm h1 h2d (by omega) (by omega) g5.1 g5.2 hs (by omega) w
              simpa [hd] using this
            · rw [if_neg hd]
              have := rhurt_n1 m h hm h1 h2d (by omega) (by omega) g5.1 g5.2 hs (by omega) w
              simpa [hd] using this
          | true =>
            by_cases hd : m.hl - (h - tak m h) ≤ 0
            · rw [if_pos hd]
              have := rhurt_s2 m h hm h1 h2d (by omega) (by omega) g5.1 g5.2 g6.1 g6.2 hs hd w
              simpa [hd] using this
            · rw [if_neg hd]
              have := rhurt_s1 m h hm h1 h2d (by omega) (by omega) g5.1 g5.2 g6.1 g6.2 hs hd w
              simpa [hd] using this
        · have h0' : (m.ou == 0) = false := by simpa using h0
          rw [if_neg h0, h0']
          exact rhurt_out m h hm h1 h2d (by omega) w
theorem rrest_may (m : Mv) (x y : Int) (hm : mayB m = false)  (w : World) : Calls Tryd.prog 21 #[mv m, pt x y] w fun e w' => e = .returned (.tuple #[mv zM, .bool false, .int .i64 80]) ∧ Still w w' := by
  have A0 := Still.alloc w (.cells (mcs m) 25)
  have A1 := Still.alloc (newM w m) (.cells #[.int .i64 x, .int .i64 y] 23)
  have A2 := Still.alloc (newP (newM w m) x y) (.cells (mcs zM) 25)
  have p0 := ((newM_mb w m).still A1).still A2
  have o0 := (newP_pb (newM w m) x y).still A2
  have q0 := newM_mb (newP (newM w m) x y) zM
  simp only [size_alloc] at o0 q0
  have HS0 := hid ((A0.trans A1).trans A2)
  clear A0 A1 A2
  obtain ⟨c0, c1, c2, c3, c4, c5, c6, c7, c8, c9, c10, c11, c12, cf⟩ := p0.cells
  have H := hid (fun w => rcheck8_any m w)
  rw [show chkM m = 80 by unfold chkM; rw [hm]; rfl] at H
  clear hm
  go_enter Tryd.func21, Tryd.ntmps21
  go_wp2_with fail
  refine (H.out _).mono ?_
  rintro e w1 ⟨rfl, h1⟩
  have p1 := p0.still h1
  have o1 := o0.still h1
  have q1 := q0.still h1
  have HS1 := hid (HS0.out.trans h1)
  clear h1 HS0 p0 o0 q0 c0 c1 c2 c3 c4 c5 c6 c7 c8 c9 c10 c11 c12 cf H
  obtain ⟨c0, c1, c2, c3, c4, c5, c6, c7, c8, c9, c10, c11, c12, cf⟩ := p1.cells
  obtain ⟨k0, k1, k2, k3, k4, k5, k6, k7, k8, k9, k10, k11, k12, kf⟩ := q1.cells
  go_wp2_with fail
  refine bodyPost_ret (Mb.rest3 (Mb.put (m := zM) ?_ _ _ _ _ _ _ _ _ _ _ _ _ _) rfl _ _ _ rfl rfl rfl) rfl ⟨?_, ?_⟩
  · repeat (first | refine Mb.other ?_ _ _ _ (by omega) | with_reducible exact q1)
  · rfl
  · repeat (first | refine setC_fr ?_ _ _ _ (by omega) | with_reducible exact HS1.out)
theorem rrest_wait (m : Mv) (x y : Int) (hm : mayB m = true) (h1 : (m.ou == 1) = false) (h2 : 1 < m.ou) (h3 : m.ou ≤ 30) (w : World) : Calls Tryd.prog 21 #[mv m, pt x y] w fun e w' => e = .returned (.tuple #[mv { m with ou := m.ou - 1 }, .bool false, .int .i64 0]) ∧ Still w w' := by
  have A0 := Still.alloc w (.cells (mcs m) 25)
  have A1 := Still.alloc (newM w m) (.cells #[.int .i64 x, .int .i64 y] 23)
  have A2 := Still.alloc (newP (newM w m) x y) (.cells (mcs zM) 25)
  have p0 := ((newM_mb w m).still A1).still A2
  have o0 := (newP_pb (newM w m) x y).still A2
  have q0 := newM_mb (newP (newM w m) x y) zM
  simp only [size_alloc] at o0 q0
  have HS0 := hid ((A0.trans A1).trans A2)
  clear A0 A1 A2
  obtain ⟨c0, c1, c2, c3, c4, c5, c6, c7, c8, c9, c10, c11, c12, cf⟩ := p0.cells
  have H := hid (fun w => rcheck8_any m w)
  rw [show chkM m = 0 by unfold chkM; rw [hm]; rfl] at H
  clear hm
  go_enter Tryd.func21, Tryd.ntmps21
  go_wp2_with fail
  refine (H.out _).mono ?_
  rintro e w1 ⟨rfl, h1⟩
  have p1 := p0.still h1
  have o1 := o0.still h1
  have q1 := q0.still h1
  have HS1 := hid (HS0.out.trans h1)
  clear h1 HS0 p0 o0 q0 c0 c1 c2 c3 c4 c5 c6 c7 c8 c9 c10 c11 c12 cf H
  obtain ⟨c0, c1, c2, c3, c4, c5, c6, c7, c8, c9, c10, c11, c12, cf⟩ := p1.cells
  obtain ⟨k0, k1, k2, k3, k4, k5, k6, k7, k8, k9, k10, k11, k12, kf⟩ := q1.cells
  go_wp2_with fail
  refine bodyPost_ret (Mb.rest3 (Mb.put (m := zM) ?_ _ _ _ _ _ _ _ _ _ _ _ _ _) rfl _ _ _ rfl rfl rfl) rfl ⟨?_, ?_⟩
  · repeat (first | refine Mb.other ?_ _ _ _ (by omega) | with_reducible exact q1)
  · rfl
  · repeat (first | refine setC_fr ?_ _ _ _ (by omega) | with_reducible exact HS1.out)
end Go.Proofs.YtaalbkmdmocdeaaDoor
namespace Go.Proofs.YtaalbkmdmocdeaaDoor
open Go.RowKit
open Pu Gp Ap Vp Np
set_option maxRecDepth 100000

set_option maxHeartbeats 2000000 in
theorem rrest_back (m : Mv) (x y : Int) (hm : mayB m = true) (h1 : (m.ou == 1) = true) (w : World) : Calls Tryd.prog 21 #[mv m, pt x y] w fun e w' => e = .returned (.tuple #[mv { startM x y m.fc with sd := m.sd }, .bool true, .int .i64 0]) ∧ Still w w' := by
  have A0 := Still.alloc w (.cells (mcs m) 25)
  have A1 := Still.alloc (newM w m) (.cells #[.int .i64 x, .int .i64 y] 23)
  have A2 := Still.alloc (newP (newM w m) x y) (.cells (mcs zM) 25)
  have p0 := ((newM_mb w m).still A1).still A2
  have o0 := (newP_pb (newM w m) x y).still A2
  have q0 := newM_mb (newP (newM w m) x y) zM
  simp only [size_alloc] at o0 q0
  have HS0 := hid ((A0.trans A1).trans A2)
  clear A0 A1 A2
  obtain ⟨c0, c1, c2, c3, c4, c5, c6, c7, c8, c9, c10, c11, c12, cf⟩ := p0.cells
  have H := hid (fun w => rcheck8_any m w)
  rw [show chkM m = 0 by unfold chkM; rw [hm]; rfl] at H
  clear hm
  go_enter Tryd.func21, Tryd.ntmps21
  go_wp2_with fail
  refine (H.out _).mono ?_
  rintro e w1 ⟨rfl, h1⟩
  have p1 := p0.still h1
  have o1 := o0.still h1
  have q1 := q0.still h1
  have HS1 := hid (HS0.out.trans h1)
  clear h1 HS0 p0 o0 q0 c0 c1 c2 c3 c4 c5 c6 c7 c8 c9 c10 c11 c12 cf H
  obtain ⟨c0, c1, c2, c3, c4, c5, c6, c7, c8, c9, c10, c11, c12, cf⟩ := p1.cells
  obtain ⟨d0, d1, df⟩ := o1.cells
  obtain ⟨k0, k1, k2, k3, k4, k5, k6, k7, k8, k9, k10, k11, k12, kf⟩ := q1.cells
  go_wp2_with fail
  refine (rstart_any x y m.fc _).mono ?_
  rintro e w2 ⟨rfl, h2⟩
  have p2 := p1.still h2
  have q2 := q1.still h2
  have HS2 := hid (HS1.out.trans h2)
  have hl := q2.lt
  have hl0 := p2.lt
  clear h2 HS1 p1 o1 q1 c0 c1 c2 c3 c4 c5 c6 c7 c8 c9 c10 c11 c12 cf d0 d1 df k0 k1 k2 k3 k4 k5 k6 k7 k8 k9 k10 k11 k12 kf
  obtain ⟨c0, c1, c2, c3, c4, c5, c6, c7, c8, c9, c10, c11, c12, cf⟩ := p2.cells
  obtain ⟨k0, k1, k2, k3, k4, k5, k6, k7, k8, k9, k10, k11, k12, kf⟩ := q2.cells
  go_wp2_with fail
  refine bodyPost_ret (Mb.rest3 (Mb.still (Mb.put q2 _ _ _ _ _ _ _ _ _ _ _ _ _) (Still.alloc _ _)) rfl _ _ _ rfl rfl rfl) rfl ⟨rfl, ?_⟩
  refine Still.trans ?_ (Still.alloc _ _)
  repeat (first | refine setC_fr ?_ _ _ _ (by omega) | with_reducible exact HS2.out)
theorem Mb.coo {w : World} {g : Nat} {m : Mv} (h : Mb w g m) (e : Int) : Mb (w.setCell ⟨g, 10, none⟩ (.int .i64 e)) g { m with co := e } := by
  have h1 := heap_setCell_same w g 10 _ _ (.int .i64 e) h
  exact h1.trans (by kernel_rfl)
theorem Mb.shd {w : World} {g : Nat} {m : Mv} (h : Mb w g m) (e : Bool) : Mb (w.setCell ⟨g, 9, none⟩ (.bool e)) g { m with sh := e } := by
  have h1 := heap_setCell_same w g 9 _ _ (.bool e) h
  exact h1.trans (by kernel_rfl)
set_option maxHeartbeats 1000000 in
theorem rrest_c1 (m : Mv) (x y : Int) (hm : mayB m = true) (h1 : (m.ou == 1) = false) (h2 : ¬ 1 < m.ou) (hc1 : 0 < m.co) (hc2 : m.co ≤ 12) (he1 : 0 ≤ m.en) (he2 : m.en ≤ 100) (hsh : m.sh = true) (he : m.en - 2 ≤ 0) (w : World) : Calls Tryd.prog 21 #[mv m, pt x y] w fun e w' => e = .returned (.tuple #[mv { m with co := m.co - 1, en := 0, sh := false }, .bool false, .int .i64 0]) ∧ Still w w' := by
  have HSH := hid hsh
  clear hsh
  have A0 := Still.alloc w (.cells (mcs m) 25)
  have A1 := Still.alloc (newM w m) (.cells #[.int .i64 x, .int .i64 y] 23)
  have A2 := Still.alloc (newP (newM w m) x y) (.cells (mcs zM) 25)
  have p0 := ((newM_mb w m).still A1).still A2
  have o0 := (newP_pb (newM w m) x y).still A2
  have q0 := newM_mb (newP (newM w m) x y) zM
  simp only [size_alloc] at o0 q0
  have HS0 := hid ((A0.trans A1).trans A2)
  clear A0 A1 A2
  obtain ⟨c0, c1, c2, c3, c4, c5, c6, c7, c8, c9, c10, c11, c12, cf⟩ := p0.cells
  have H := hid (fun w => rcheck8_any m w)
  rw [show chkM m = 0 by unfold chkM; rw [hm]; rfl] at H
  clear hm
  go_enter Tryd.func21, Tryd.ntmps21
  go_wp2_with fail
  refine (H.out _).mono ?_
  rintro e w1 ⟨rfl, h1⟩
  have p1 := p0.still h1
  have o1 := o0.still h1
  have q1 := q0.still h1
  have HS1 := hid (HS0.out.trans h1)
  clear h1 HS0 p0 o0 q0 c0 c1 c2 c3 c4 c5 c6 c7 c8 c9 c10 c11 c12 cf H
  obtain ⟨c0, c1, c2, c3, c4, c5, c6, c7, c8, c9, c10, c11, c12, cf⟩ := p1.cells
  obtain ⟨k0, k1, k2, k3, k4, k5, k6, k7, k8, k9, k10, k11, k12, kf⟩ := q1.cells
  rw [HSH.out] at c9
  go_upto_region 20 with fail
  have pW := (((p1.coo (m.co - 1)).eng (m.en - 2)).eng 0).shd false
  have qW := (((q1.other w.heap.size 10 (.int .i64 (m.co - 1)) (by omega)).other w.heap.size 8 (.int .i64 (m.en - 2)) (by omega)).other w.heap.size 8 (.int .i64 0) (by omega)).other w.heap.size 9 (.bool false) (by omega)
  have HW := hid (setC_fr (setC_fr (setC_fr (setC_fr HS1.out w.heap.size 10 (.int .i64 (m.co - 1)) (Nat.le_refl _)) w.heap.size 8 (.int .i64 (m.en - 2)) (Nat.le_refl _)) w.heap.size 8 (.int .i64 0) (Nat.le_refl _)) w.heap.size 9 (.bool false) (Nat.le_refl _))
  obtain ⟨W, eW⟩ : ∃ W, (((w1.setCell ⟨w.heap.size, 10, none⟩ (.int .i64 (m.co - 1))).setCell ⟨w.heap.size, 8, none⟩ (.int .i64 (m.en - 2))).setCell ⟨w.heap.size, 8, none⟩ (.int .i64 0)).setCell ⟨w.heap.size, 9, none⟩ (.bool false) = W := ⟨_, rfl⟩
  rw [eW] at pW qW HW ⊢
  clear eW p1 q1 o1 HS1 c0 c1 c2 c3 c4 c5 c6 c7 c8 c9 c10 c11 c12 cf k0 k1 k2 k3 k4 k5 k6 k7 k8 k9 k10 k11 k12 kf
  obtain ⟨c0, c1, c2, c3, c4, c5, c6, c7, c8, c9, c10, c11, c12, cf⟩ := pW.cells
  obtain ⟨k0, k1, k2, k3, k4, k5, k6, k7, k8, k9, k10, k11, k12, kf⟩ := qW.cells
  go_wp2_with fail
  refine bodyPost_ret (Mb.rest3 (Mb.put (m := zM) ?_ _ _ _ _ _ _ _ _ _ _ _ _ _) rfl _ _ _ rfl rfl rfl) rfl ⟨?_, ?_⟩
  · repeat (first | refine Mb.other ?_ _ _ _ (by omega) | with_reducible exact qW)
  · first | rfl | (rw [HSH.out]; rfl)
  · repeat (first | refine setC_fr ?_ _ _ _ (by omega) | with_reducible exact HW.out)
set_option maxHeartbeats 1000000 in
theorem rrest_c2 (m : Mv) (x y : Int) (hm : mayB m = true) (h1 : (m.ou == 1) = false) (h2 : ¬ 1 < m.ou) (hc1 : 0 < m.co) (hc2 : m.co ≤ 12) (he1 : 0 ≤ m.en) (he2 : m.en ≤ 100) (hsh : m.sh = true) (he : ¬ m.en - 2 ≤ 0) (w : World) : Calls Tryd.prog 21 #[mv m, pt x y] w fun e w' => e = .returned (.tuple #[mv { m with co := m.co - 1, en := m.en - 2, sh := true }, .bool false, .int .i64 0]) ∧ Still w w' := by
  have HSH := hid hsh
  clear hsh
  have A0 := Still.alloc w (.cells (mcs m) 25)
  have A1 := Still.alloc (newM w m) (.cells #[.int .i64 x, .int .i64 y] 23)
  have A2 := Still.alloc (newP (newM w m) x y) (.cells (mcs zM) 25)
  have p0 := ((newM_mb w m).still A1).still A2
  have o0 := (newP_pb (newM w m) x y).still A2
  have q0 := newM_mb (newP (newM w m) x y) zM
  simp only [size_alloc] at o0 q0
  have HS0 := hid ((A0.trans A1).trans A2)
  clear A0 A1 A2
  obtain ⟨c0, c1, c2, c3, c4, c5, c6, c7, c8, c9, c10, c11, c12, cf⟩ := p0.cells
  have H := hid (fun w => rcheck8_any m w)
  rw [show chkM m = 0 by unfold chkM; rw [hm]; rfl] at H
  clear hm
  go_enter Tryd.func21, Tryd.ntmps21
  go_wp2_with fail
  refine (H.out _).mono ?_
  rintro e w1 ⟨rfl, h1⟩
  have p1 := p0.still h1
  have o1 := o0.still h1
  have q1 := q0.still h1
  have HS1 := hid (HS0.out.trans h1)
  clear h1 HS0 p0 o0 q0 c0 c1 c2 c3 c4 c5 c6 c7 c8 c9 c10 c11 c12 cf H
  obtain ⟨c0, c1, c2, c3, c4, c5, c6, c7, c8, c9, c10, c11, c12, cf⟩ := p1.cells
  obtain ⟨k0, k1, k2, k3, k4, k5, k6, k7, k8, k9, k10, k11, k12, kf⟩ := q1.cells
  rw [HSH.out] at c9
  go_wp2_with fail
  refine bodyPost_ret (Mb.rest3 (Mb.put (m := zM) ?_ _ _ _ _ _ _ _ _ _ _ _ _ _) rfl _ _ _ rfl rfl rfl) rfl ⟨?_, ?_⟩
  · repeat (first | refine Mb.other ?_ _ _ _ (by omega) | with_reducible exact q1)
  · first | rfl | (rw [HSH.out]; rfl)
  · repeat (first | refine setC_fr ?_ _ _ _ (by omega) | with_reducible exact HS1.out)
theorem rrest_c3 (m : Mv) (x y : Int) (hm : mayB m = true) (h1 : (m.ou == 1) = false) (h2 : ¬ 1 < m.ou) (hc1 : 0 < m.co) (hc2 : m.co ≤ 12) (he1 : 0 ≤ m.en) (hsh : m.sh = false) (he : m.en < 100) (w : World) : Calls Tryd.prog 21 #[mv m, pt x y] w fun e w' => e = .returned (.tuple #[mv { m with co := m.co - 1, en := m.en + 1, sh := false }, .bool false, .int .i64 0]) ∧ Still w w' := by
  have HSH := hid hsh
  clear hsh
  have A0 := Still.alloc w (.cells (mcs m) 25)
  have A1 := Still.alloc (newM w m) (.cells #[.int .i64 x, .int .i64 y] 23)
  have A2 := Still.alloc (newP (newM w m) x y) (.cells (mcs zM) 25)
  have p0 := ((newM_mb w m).still A1).still A2
  have o0 := (newP_pb (newM w m) x y).still A2
  have q0 := newM_mb (newP (newM w m) x y) zM
  simp only [size_alloc] at o0 q0
  have HS0 := hid ((A0.trans A1).trans A2)
  clear A0 A1 A2
  obtain ⟨c0, c1, c2, c3, c4, c5, c6, c7, c8, c9, c10, c11, c12, cf⟩ := p0.cells
  have H := hid (fun w => rcheck8_any m w)
  rw [show chkM m = 0 by unfold chkM; rw [hm]; rfl] at H
  clear hm
  go_enter Tryd.func21, Tryd.ntmps21
  go_wp2_with fail
  refine (H.out _).mono ?_
  rintro e w1 ⟨rfl, h1⟩
  have p1 := p0.still h1
  have o1 := o0.still h1
  have q1 := q0.still h1
  have HS1 := hid (HS0.out.trans h1)
  clear h1 HS0 p0 o0 q0 c0 c1 c2 c3 c4 c5 c6 c7 c8 c9 c10 c11 c12 cf H
  obtain ⟨c0, c1, c2, c3, c4, c5, c6, c7, c8, c9, c10, c11, c12, cf⟩ := p1.cells
  obtain ⟨k0, k1, k2, k3, k4, k5, k6, k7, k8, k9, k10, k11, k12, kf⟩ := q1.cells
  rw [HSH.out] at c9
  go_wp2_with fail
  refine bodyPost_ret (Mb.rest3 (Mb.put (m := zM) ?_ _ _ _ _ _ _ _ _ _ _ _ _ _) rfl _ _ _ rfl rfl rfl) rfl ⟨?_, ?_⟩
  · repeat (first | refine Mb.other ?_ _ _ _ (by omega) | with_reducible exact q1)
  · first | rfl | (rw [HSH.out]; rfl)
  · repeat (first | refine setC_fr ?_ _ _ _ (by omega) | with_reducible exact HS1.out)
theorem rrest_c4 (m : Mv) (x y : Int) (hm : mayB m = true) (h1 : (m.ou == 1) = false) (h2 : ¬ 1 < m.ou) (hc1 : 0 < m.co) (hc2 : m.co ≤ 12) (hsh : m.sh = false) (he : ¬ m.en < 100) (w : World) : Calls Tryd.prog 21 #[mv m, pt x y] w fun e w' => e = .returned (.tuple #[mv { m with co := m.co - 1, sh := false }, .bool false, .int .i64 0]) ∧ Still w w' := by
  have HSH := hid hsh
  clear hsh
  have A0 := Still.alloc w (.cells (mcs m) 25)
  have A1 := Still.alloc (newM w m) (.cells #[.int .i64 x, .int .i64 y] 23)
  have A2 := Still.alloc (newP (newM w m) x y) (.cells (mcs zM) 25)
  have p0 := ((newM_mb w m).still A1).still A2
  have o0 := (newP_pb (newM w m) x y).still A2
  have q0 := newM_mb (newP (newM w m) x y) zM
  simp only [size_alloc] at o0 q0
  have HS0 := hid ((A0.trans A1).trans A2)
  clear A0 A1 A2
  obtain ⟨c0, c1, c2, c3, c4, c5, c6, c7, c8, c9, c10, c11, c12, cf⟩ := p0.cells
  have H := hid (fun w => rcheck8_any m w)
  rw [show chkM m = 0 by unfold chkM; rw [hm]; rfl] at H
  clear hm
  go_enter Tryd.func21, Tryd.ntmps21
  go_wp2_with fail
  refine (H.out _).mono ?_
  rintro e w1 ⟨rfl, h1⟩
  have p1 := p0.still h1
  have o1 := o0.still h1
  have q1 := q0.still h1
  have HS1 := hid (HS0.out.trans h1)
  clear h1 HS0 p0 o0 q0 c0 c1 c2 c3 c4 c5 c6 c7 c8 c9 c10 c11 c12 cf H
  obtain ⟨c0, c1, c2, c3, c4, c5, c6, c7, c8, c9, c10, c11, c12, cf⟩ := p1.cells
  obtain ⟨k0, k1, k2, k3, k4, k5, k6, k7, k8, k9, k10, k11, k12, kf⟩ := q1.cells
  rw [HSH.out] at c9
  go_wp2_with fail
  refine bodyPost_ret (Mb.rest3 (Mb.put (m := zM) ?_ _ _ _ _ _ _ _ _ _ _ _ _ _) rfl _ _ _ rfl rfl rfl) rfl ⟨?_, ?_⟩
  · repeat (first | refine Mb.other ?_ _ _ _ (by omega) | with_reducible exact q1)
  · first | rfl | (rw [HSH.out]; rfl)
  · repeat (first | refine setC_fr ?_ _ _ _ (by omega) | with_reducible exact HS1.out)
theorem rrest_d1 (m : Mv) (x y : Int) (hm : mayB m = true) (h1 : (m.ou == 1) = false) (h2 : ¬ 1 < m.ou) (hc1 : ¬ 0 < m.co) (he1 : 0 ≤ m.en) (he2 : m.en ≤ 100) (hsh : m.sh = true) (he : m.en - 2 ≤ 0) (w : World) : Calls Tryd.prog 21 #[mv m, pt x y] w fun e w' => e = .returned (.tuple #[mv { m with co := m.co, en := 0, sh := false }, .bool false, .int .i64 0]) ∧ Still w w' := by
  have HSH := hid hsh
  clear hsh
  have A0 := Still.alloc w (.cells (mcs m) 25)
  have A1 := Still.alloc (newM w m) (.cells #[.int .i64 x, .int .i64 y] 23)
  have A2 := Still.alloc (newP (newM w m) x y) (.cells (mcs zM) 25)
  have p0 := ((newM_mb w m).still A1).still A2
  have o0 := (newP_pb (newM w m) x y).still A2
  have q0 := newM_mb (newP (newM w m) x y) zM
  simp only [size_alloc] at o0 q0
  have HS0 := hid ((A0.trans A1).trans A2)
  clear A0 A1 A2
  obtain ⟨c0, c1, c2, c3, c4, c5, c6, c7, c8, c9, c10, c11, c12, cf⟩ := p0.cells
  have H := hid (fun w => rcheck8_any m w)
  rw [show chkM m = 0 by unfold chkM; rw [hm]; rfl] at H
  clear hm
  go_enter Tryd.func21, Tryd.ntmps21
  go_wp2_with fail
  refine (H.out _).mono ?_
  rintro e w1 ⟨rfl, h1⟩
  have p1 := p0.still h1
  have o1 := o0.still h1
  have q1 := q0.still h1
  have HS1 := hid (HS0.out.trans h1)
  clear h1 HS0 p0 o0 q0 c0 c1 c2 c3 c4 c5 c6 c7 c8 c9 c10 c11 c12 cf H
  obtain ⟨c0, c1, c2, c3, c4, c5, c6, c7, c8, c9, c10, c11, c12, cf⟩ := p1.cells
  obtain ⟨k0, k1, k2, k3, k4, k5, k6, k7, k8, k9, k10, k11, k12, kf⟩ := q1.cells
  rw [HSH.out] at c9
  go_wp2_with fail
  refine bodyPost_ret (Mb.rest3 (Mb.put (m := zM) ?_ _ _ _ _ _ _ _ _ _ _ _ _ _) rfl _ _ _ rfl rfl rfl) rfl ⟨?_, ?_⟩
  · repeat (first | refine Mb.other ?_ _ _ _ (by omega) | with_reducible exact q1)
  · first | rfl | (rw [HSH.out]; rfl)
  · repeat (first | refine setC_fr ?_ _ _ _ (by omega) | with_reducible exact HS1.out)
theorem rrest_d2 (m : Mv) (x y : Int) (hm : mayB m = true) (h1 : (m.ou == 1) = false) (h2 : ¬ 1 < m.ou) (hc1 : ¬ 0 < m.co) (he1 : 0 ≤ m.en) (he2 : m.en ≤ 100) (hsh : m.sh = true) (he : ¬ m.en - 2 ≤ 0) (w : World) : Calls Tryd.prog 21 #[mv m, pt x y] w fun e w' => e = .returned (.tuple #[mv { m with co := m.co, en := m.en - 2, sh := true }, .bool false, .int .i64 0]) ∧ Still w w' := by
  have HSH := hid hsh
  clear hsh
  have A0 := Still.alloc w (.cells (mcs m) 25)
  have A1 := Still.alloc (newM w m) (.cells #[.int .i64 x, .int .i64 y] 23)
  have A2 := Still.alloc (newP (newM w m) x y) (.cells (mcs zM) 25)
  have p0 := ((newM_mb w m).still A1).still A2
  have o0 := (newP_pb (newM w m) x y).still A2
  have q0 := newM_mb (newP (newM w m) x y) zM
  simp only [size_alloc] at o0 q0
  have HS0 := hid ((A0.trans A1).trans A2)
  clear A0 A1 A2
  obtain ⟨c0, c1, c2, c3, c4, c5, c6, c7, c8, c9, c10, c11, c12, cf⟩ := p0.cells
  have H := hid (fun w => rcheck8_any m w)
  rw [show chkM m = 0 by unfold chkM; rw [hm]; rfl] at H
  clear hm
  go_enter Tryd.func21, Tryd.ntmps21
  go_wp2_with fail
  refine (H.out _).mono ?_
  rintro e w1 ⟨rfl, h1⟩
  have p1 := p0.still h1
  have o1 := o0.still h1
  have q1 := q0.still h1
  have HS1 := hid (HS0.out.trans h1)
  clear h1 HS0 p0 o0 q0 c0 c1 c2 c3 c4 c5 c6 c7 c8 c9 c10 c11 c12 cf H
  obtain ⟨c0, c1, c2, c3, c4, c5, c6, c7, c8, c9, c10, c11, c12, cf⟩ := p1.cells
  obtain ⟨k0, k1, k2, k3, k4, k5, k6, k7, k8, k9, k10, k11, k12, kf⟩ := q1.cells
  rw [HSH.out] at c9
  go_wp2_with fail
  refine bodyPost_ret (Mb.rest3 (Mb.put (m := zM) ?_ _ _ _ _ _ _ _ _ _ _ _ _ _) rfl _ _ _ rfl rfl rfl) rfl ⟨?_, ?_⟩
  · repeat (first | refine Mb.other ?_ _ _ _ (by omega) | with_reducible exact q1)
  · first | rfl | (rw [HSH.out]; rfl)
  · repeat (first | refine setC_fr ?_ _ _ _ (by omega) | with_reducible exact HS1.out)
theorem rrest_d3 (m : Mv) (x y : Int) (hm : mayB m = true) (h1 : (m.ou == 1) = false) (h2 : ¬ 1 < m.ou) (hc1 : ¬ 0 < m.co) (he1 : 0 ≤ m.en) (hsh : m.sh = false) (he : m.en < 100) (w : World) : Calls Tryd.prog 21 #[mv m, pt x y] w fun e w' => e = .returned (.tuple #[mv { m with co := m.co, en := m.en + 1, sh := false }, .bool false, .int .i64 0]) ∧ Still w w' := by
  have HSH := hid hsh
  clear hsh
  have A0 := Still.alloc w (.cells (mcs m) 25)
  have A1 := Still.alloc (newM w m) (.cells #[.int .i64 x, .int .i64 y] 23)
  have A2 := Still.alloc (newP (newM w m) x y) (.cells (mcs zM) 25)
  have p0 := ((newM_mb w m).still A1).still A2
  have o0 := (newP_pb (newM w m) x y).still A2
  have q0 := newM_mb (newP (newM w m) x y) zM
  simp only [size_alloc] at o0 q0
  have HS0 := hid ((A0.trans A1).trans A2)
  clear A0 A1 A2
  obtain ⟨c0, c1, c2, c3, c4, c5, c6, c7, c8, c9, c10, c11, c12, cf⟩ := p0.cells
  have H := hid (fun w => rcheck8_any m w)
  rw [show chkM m = 0 by unfold chkM; rw [hm]; rfl] at H
  clear hm
  go_enter Tryd.func21, Tryd.ntmps21
  go_wp2_with fail
  refine (H.out _).mono ?_
  rintro e w1 ⟨rfl, h1⟩
  have p1 := p0.still h1
  have o1 := o0.still h1
  have q1 := q0.still h1
  have HS1 := hid (HS0.out.trans h1)
  clear h1 HS0 p0 o0 q0 c0 c1 c2 c3 c4 c5 c6 c7 c8 c9 c10 c11 c12 cf H
  obtain ⟨c0, c1, c2, c3, c4, c5, c6, c7, c8, c9, c10, c11, c12, cf⟩ := p1.cells
  obtain ⟨k0, k1, k2, k3, k4, k5, k6, k7, k8, k9, k10, k11, k12, kf⟩ := q1.cells
  rw [HSH.out] at c9
  go_wp2_with fail
  refine bodyPost_ret (Mb.rest3 (Mb.put (m := zM) ?_ _ _ _ _ _ _ _ _ _ _ _ _ _) rfl _ _ _ rfl rfl rfl) rfl ⟨?_, ?_⟩
  · repeat (first | refine Mb.other ?_ _ _ _ (by omega) | with_reducible exact q1)
  · first | rfl | (rw [HSH.out]; rfl)
  · repeat (first | refine setC_fr ?_ _ _ _ (by omega) | with_reducible exact HS1.out)
theorem rrest_d4 (m : Mv) (x y : Int) (hm : mayB m = true) (h1 : (m.ou == 1) = false) (h2 : ¬ 1 < m.ou) (hc1 : ¬ 0 < m.co) (hsh : m.sh = false) (he : ¬ m.en < 100) (w : World) : Calls Tryd.prog 21 #[mv m, pt x y] w fun e w' => e = .returned (.tuple #[mv { m with co := m.co, sh := false }, .bool false, .int .i64 0]) ∧ Still w w' := by
  have HSH := hid hsh
  clear hsh
  have A0 := Still.alloc w (.cells (mcs m) 25)
  have A1 := Still.alloc (newM w m) (.cells #[.int .i64 x, .int .i64 y] 23)
  have A2 := Still.alloc (newP (newM w m) x y) (.cells (mcs zM) 25)
  have p0 := ((newM_mb w m).still A1).still A2
  have o0 := (newP_pb (newM w m) x y).still A2
  have q0 := newM_mb (newP (newM w m) x y) zM
  simp only [size_alloc] at o0 q0
  have HS0 := hid ((A0.trans A1).trans A2)
  clear A0 A1 A2
  obtain ⟨c0, c1, c2, c3, c4, c5, c6, c7, c8, c9, c10, c11, c12, cf⟩ := p0.cells
  have H := hid (fun w => rcheck8_any m w)
  rw [show chkM m = 0 by unfold chkM; rw [hm]; rfl] at H
  clear hm
  go_enter Tryd.func21, Tryd.ntmps21
  go_wp2_with fail
  refine (H.out _).mono ?_
  rintro e w1 ⟨rfl, h1⟩
  have p1 := p0.still h1
  have o1 := o0.still h1
  have q1 := q0.still h1
  have HS1 := hid (HS0.out.trans h1)
  clear h1 HS0 p0 o0 q0 c0 c1 c2 c3 c4 c5 c6 c7 c8 c9 c10 c11 c12 cf H
  obtain ⟨c0, c1, c2, c3, c4, c5, c6, c7, c8, c9, c10, c11, c12, cf⟩ := p1.cells
  obtain ⟨k0, k1, k2, k3, k4, k5, k6, k7, k8, k9, k10, k11, k12, kf⟩ := q1.cells
  rw [HSH.out] at c9
  go_wp2_with fail
  refine bodyPost_ret (Mb.rest3 (Mb.put (m := zM) ?_ _ _ _ _ _ _ _ _ _ _ _ _ _) rfl _ _ _ rfl rfl rfl) rfl ⟨?_, ?_⟩
  · repeat (first | refine Mb.other ?_ _ _ _ (by omega) | with_reducible exact q1)
  · first | rfl | (rw [HSH.out]; rfl)
  · repeat (first | refine setC_fr ?_ _ _ _ (by omega) | with_reducible exact HS1.out)
theorem rrest_any (m : Mv) (x y : Int) (w : World) : Calls Tryd.prog 21 #[mv m, pt x y] w fun e w' => e = .returned (.tuple #[mv (resM m x y), .bool (resD m), .int .i64 (chkM m)]) ∧ Still w w' := by
  unfold resM resD chkM
  cases hm : mayB m with
  | false => exact rrest_may m x y hm w
  | true =>
    obtain ⟨g1, g2, g3, g4, g5, g6, g7, g8, g9, g10, g11⟩ := mayB_iff.1 hm
    simp only [if_true, Bool.true_and]
    unfold restM
    by_cases h1 : m.ou = 1
    · have h1' : (m.ou == 1) = true := by simpa using h1
      rw [if_pos h1, h1']
      exact rrest_back m x y hm h1' w
    · have h1' : (m.ou == 1) = false := by simpa using h1
      rw [if_neg h1, h1']
      by_cases h2 : 1 < m.ou
      · rw [if_pos h2]
        exact rrest_wait m x y hm h1' h2 g8.2 w
      · rw [if_neg h2]
        by_cases hc : 0 < m.co
        · rw [if_pos hc]
          cases hs : m.sh with
          | true =>
            by_cases he : m.en - 2 ≤ 0
            · have e2 : decide (0 < m.en - 2) = false := by simp; omega
              simp only [if_true, if_pos he, e2, Bool.and_false]
              exact rrest_c1 m x y hm h1' h2 hc g7.2 g6.1 g6.2 hs he w
            · have e2 : decide (0 < m.en - 2) = true := by simp; omega
              simp only [if_true, if_neg he, e2, Bool.and_true]
              exact rrest_c2 m x y hm h1' h2 hc g7.2 g6.1 g6.2 hs he w
          | false =>
            by_cases he : m.en < 100
            · simp only [if_pos he, Bool.false_and]
              exact rrest_c3 m x y hm h1' h2 hc g7.2 g6.1 hs he w
            · simp only [if_neg he, Bool.false_and]
              exact rrest_c4 m x y hm h1' h2 hc g7.2 hs he w
        · rw [if_neg hc]
          cases hs : m.sh with
          | true =>
            by_cases he : m.en - 2 ≤ 0
            · have e2 : decide (0 < m.en - 2) = false := by simp; omega
              simp only [if_true, if_pos he, e2, Bool.and_false]
              exact rrest_d1 m x y hm h1' h2 hc g6.1 g6.2 hs he w
            · have e2 : decide (0 < m.en - 2) = true := by simp; omega
              simp only [if_true, if_neg he, e2, Bool.and_true]
              exact rrest_d2 m x y hm h1' h2 hc g6.1 g6.2 hs he w
          | false =>
            by_cases he : m.en < 100
            · simp only [if_pos he, Bool.false_and]
              exact rrest_d3 m x y hm h1' h2 hc g6.1 hs he w
            · simp only [if_neg he, Bool.false_and]
              exact rrest_d4 m x y hm h1' h2 hc hs he w
end Go.Proofs.YtaalbkmdmocdeaaDoor
