/- The document's Glide. -/
import Derived.Test.YtaalbkmdmocdeaaDoorNd
import Derived.Test.YtaalbkmdmocdeaaDoorSl
namespace Go.Proofs.YtaalbkmdmocdeaaDoor
open Go.RowKit
open Pu Gp Ap Vp Np
set_option maxRecDepth 100000

theorem Mb.spd {w : World} {g : Nat} {m : Mv} (h : Mb w g m) (x y : Int) : Mb ((w.setCell ⟨g, 2, none⟩ (.int .i64 x)).setCell ⟨g, 3, none⟩ (.int .i64 y)) g { m with sx := x, sy := y } := by
  have h1 := heap_setCell_same w g 2 _ _ (.int .i64 x) h
  have h2 := heap_setCell_same _ g 3 _ _ (.int .i64 y) h1
  exact h2.trans (by kernel_rfl)
theorem rglide_may (m : Mv) (C R : Int) (s : ByteArray) (hm : mayB m = false) (w : World) : Calls Tryd.prog 17 #[mv m, ar C R s] w fun e w' => e = .returned (.tuple #[mv zM, .int .i64 80]) ∧ Still w w' := by
  have A0 := Still.alloc w (.cells (mcs m) 25)
  have A1 := Still.alloc (newM w m) (.cells #[.int .i64 C, .int .i64 R, .string s] 37)
  have A2 := Still.alloc (newA (newM w m) C R s) (.cells (mcs zM) 25)
  have p0 := ((newM_mb w m).still A1).still A2
  have o0 := (newA_ab (newM w m) C R s).still A2
  have q0 := newM_mb (newA (newM w m) C R s) zM
  simp only [size_alloc] at o0 q0
  have HS0 := hid ((A0.trans A1).trans A2)
  clear A0 A1 A2
  obtain ⟨c0, c1, c2, c3, c4, c5, c6, c7, c8, c9, c10, c11, c12, cf⟩ := p0.cells
  obtain ⟨d0, d1, d2, df⟩ := o0.cells
  have H := hid (fun w => rcheck8_any m w)
  rw [show chkM m = 80 by unfold chkM; rw [hm]; rfl] at H
  clear hm
  go_enter Tryd.func17, Tryd.ntmps17
  go_wp2_with fail
  refine (H.out _).mono ?_
  rintro e w1 ⟨rfl, h1⟩
  have q1 := q0.still h1
  have HS1 := hid (HS0.out.trans h1)
  clear h1 HS0 p0 o0 q0 c0 c1 c2 c3 c4 c5 c6 c7 c8 c9 c10 c11 c12 cf d0 d1 d2 df
  obtain ⟨k0, k1, k2, k3, k4, k5, k6, k7, k8, k9, k10, k11, k12, kf⟩ := q1.cells
  go_wp2_with fail
  refine bodyPost_ret (Mb.rest (Mb.put q1 _ _ _ _ _ _ _ _ _ _ _ _ _) rfl _ _ rfl rfl) rfl ⟨rfl, ?_⟩
  repeat (first | refine setC_fr ?_ _ _ _ (by omega) | with_reducible exact HS1.out)
theorem rglide_out (m : Mv) (C R : Int) (s : ByteArray) (hm : mayB m = true) (h0 : 0 < m.ou) (w : World) : Calls Tryd.prog 17 #[mv m, ar C R s] w fun e w' => e = .returned (.tuple #[mv m, .int .i64 0]) ∧ Still w w' := by
  have A0 := Still.alloc w (.cells (mcs m) 25)
  have A1 := Still.alloc (newM w m) (.cells #[.int .i64 C, .int .i64 R, .string s] 37)
  have A2 := Still.alloc (newA (newM w m) C R s) (.cells (mcs zM) 25)
  have p0 := ((newM_mb w m).still A1).still A2
  have o0 := (newA_ab (newM w m) C R s).still A2
  have q0 := newM_mb (newA (newM w m) C R s) zM
  simp only [size_alloc] at o0 q0
  have HS0 := hid ((A0.trans A1).trans A2)
  clear A0 A1 A2
  obtain ⟨c0, c1, c2, c3, c4, c5, c6, c7, c8, c9, c10, c11, c12, cf⟩ := p0.cells
  obtain ⟨d0, d1, d2, df⟩ := o0.cells
  have H := hid (fun w => rcheck8_any m w)
  rw [show chkM m = 0 by unfold chkM; rw [hm]; rfl] at H
  clear hm
  go_enter Tryd.func17, Tryd.ntmps17
  go_wp2_with fail
  refine (H.out _).mono ?_
  rintro e w1 ⟨rfl, h1⟩
  have p1 := p0.still h1
  have o1 := o0.still h1
  have q1 := q0.still h1
  have HS1 := hid (HS0.out.trans h1)
  clear h1 HS0 p0 o0 q0 c0 c1 c2 c3 c4 c5 c6 c7 c8 c9 c10 c11 c12 cf d0 d1 d2 df H
  obtain ⟨c0, c1, c2, c3, c4, c5, c6, c7, c8, c9, c10, c11, c12, cf⟩ := p1.cells
  obtain ⟨d0, d1, d2, df⟩ := o1.cells
  obtain ⟨k0, k1, k2, k3, k4, k5, k6, k7, k8, k9, k10, k11, k12, kf⟩ := q1.cells
  go_wp2_with fail
  refine bodyPost_ret (Mb.rest (Mb.put q1 _ _ _ _ _ _ _ _ _ _ _ _ _) rfl _ _ rfl rfl) rfl ⟨rfl, ?_⟩
  repeat (first | refine setC_fr ?_ _ _ _ (by omega) | with_reducible exact HS1.out)
set_option maxHeartbeats 4000000 in
theorem rglide_in (m : Mv) (C R : Int) (s : ByteArray) (hm : mayB m = true) (h0 : ¬ 0 < m.ou) (hx1 : -1024 ≤ m.sx) (hx2 : m.sx ≤ 1024) (hy1 : -1024 ≤ m.sy) (hy2 : m.sy ≤ 1024) (hp1 : -256 ≤ m.px) (hp2 : m.px ≤ 256) (hq1 : -256 ≤ m.py) (hq2 : m.py ≤ 256)
    (SX SY P Q X Y N DP DQ : Int) (eSX : (m.sx * 7).tdiv 8 = SX) (eSY : (m.sy * 7).tdiv 8 = SY) (hsx1 : -1024 ≤ SX) (hsx2 : SX ≤ 1024) (hsy1 : -1024 ≤ SY) (hsy2 : SY ≤ 1024) (eP : clampf (SX + m.px) (-1024) 1024 = P) (eQ : clampf (SY + m.py) (-1024) 1024 = Q)
    (eDP : P.tdiv 2 = DP) (eDQ : Q.tdiv 2 = DQ) (hdp1 : -1024 ≤ DP) (hdp2 : DP ≤ 1024) (hdq1 : -1024 ≤ DQ) (hdq2 : DQ ≤ 1024) (hN : N = 0 ∨ N = 1 ∨ N = 2 ∨ N = 3)
    (hS : ∀ u : World, Calls Tryd.prog 39 #[ar C R s, pt m.ax m.ay, pt P Q, .int .i64 1280] u fun e w' => e = .returned (.tuple #[pt X Y, .int .i64 N]) ∧ Still u w') (w : World) :
    Calls Tryd.prog 17 #[mv m, ar C R s] w fun e w' => e = .returned (.tuple #[mv { m with ax := X, ay := Y, sx := if N % 2 = 1 then -DP else P, sy := if 2 ≤ N then -DQ else Q }, .int .i64 0]) ∧ Still w w' := by
  have HSl := hid hS
  have HN := hid hN
  have HP := hid eP
  have HQ := hid eQ
  have HDP := hid eDP
  have HDQ := hid eDQ
  clear hS hN eP eQ eDP eDQ
  have A0 := Still.alloc w (.cells (mcs m) 25)
  have A1 := Still.alloc (newM w m) (.cells #[.int .i64 C, .int .i64 R, .string s] 37)
  have A2 := Still.alloc (newA (newM w m) C R s) (.cells (mcs zM) 25)
  have p0 := ((newM_mb w m).still A1).still A2
  have o0 := (newA_ab (newM w m) C R s).still A2
  have q0 := newM_mb (newA (newM w m) C R s) zM
  simp only [size_alloc] at o0 q0
  have HS0 := hid ((A0.trans A1).trans A2)
  clear A0 A1 A2
  obtain ⟨c0, c1, c2, c3, c4, c5, c6, c7, c8, c9, c10, c11, c12, cf⟩ := p0.cells
  obtain ⟨d0, d1, d2, df⟩ := o0.cells
  have H := hid (fun w => rcheck8_any m w)
  rw [show chkM m = 0 by unfold chkM; rw [hm]; rfl] at H
  clear hm
  go_enter Tryd.func17, Tryd.ntmps17
  go_wp2_with fail
  refine (H.out _).mono ?_
  rintro e w1 ⟨rfl, h1⟩
  have p1 := p0.still h1
  have o1 := o0.still h1
  have q1 := q0.still h1
  have HS1 := hid (HS0.out.trans h1)
  clear h1 HS0 p0 o0 q0 c0 c1 c2 c3 c4 c5 c6 c7 c8 c9 c10 c11 c12 cf d0 d1 d2 df H
  obtain ⟨c0, c1, c2, c3, c4, c5, c6, c7, c8, c9, c10, c11, c12, cf⟩ := p1.cells
  obtain ⟨d0, d1, d2, df⟩ := o1.cells
  obtain ⟨k0, k1, k2, k3, k4, k5, k6, k7, k8, k9, k10, k11, k12, kf⟩ := q1.cells
  go_wp2_with fail
  refine (rclamp_any _ _ _ _).mono ?_
  rintro e w2 ⟨he, hw⟩
  rw [he, hw, HP.out]
  clear he hw w2
  go_wp2_with fail
  refine (rclamp_any _ _ _ _).mono ?_
  rintro e w2 ⟨he, hw⟩
  rw [he, hw, HQ.out]
  clear he hw w2
  have p2 := p1.spd P Q
  have q2 := (q1.other w.heap.size 2 (.int .i64 P) (by omega)).other w.heap.size 3 (.int .i64 Q) (by omega)
  have HS2 := hid (setC_fr (setC_fr HS1.out w.heap.size 2 (.int .i64 P) (Nat.le_refl _)) w.heap.size 3 (.int .i64 Q) (Nat.le_refl _))
  go_wp2_with fail
  refine (HSl.out _).mono ?_
  rintro e w3 ⟨rfl, h3⟩
  have A3 := Still.alloc w3 (.cells #[.int .i64 X, .int .i64 Y] 23)
  have p3 := (p2.still h3).still A3
  have q3 := (q2.still h3).still A3
  have HS3 := hid ((HS2.out.trans h3).trans A3)
  have b3 := newP_pb w3 X Y
  have HL : Hid (w.heap.size + 1 + 1 < w3.heap.size) := hid ((q2.still h3).lt)
  clear h3 A3 HS2 p2 q2 HS1 p1 o1 q1 c0 c1 c2 c3 c4 c5 c6 c7 c8 c9 c10 c11 c12 cf d0 d1 d2 df k0 k1 k2 k3 k4 k5 k6 k7 k8 k9 k10 k11 k12 kf HSl
  obtain ⟨c0, c1, c2, c3, c4, c5, c6, c7, c8, c9, c10, c11, c12, cf⟩ := p3.cells
  obtain ⟨k0, k1, k2, k3, k4, k5, k6, k7, k8, k9, k10, k11, k12, kf⟩ := q3.cells
  obtain ⟨b0, b1, bf⟩ := b3.cells
  have eDP := HDP.out
  have eDQ := HDQ.out
  rcases HN.out with rfl | rfl | rfl | rfl
  all_goals
    go_wp2_with fail
    refine bodyPost_ret (Mb.rest (Mb.put (m := zM) ?_ _ _ _ _ _ _ _ _ _ _ _ _ _) rfl _ _ rfl rfl) rfl ⟨?_, ?_⟩
    · repeat (first | refine Mb.other ?_ _ _ _ (by omega) | with_reducible exact q3)
    · rfl
    · repeat (first | refine setC_fr ?_ _ _ _ (by omega) | with_reducible exact HS3.out)
end Go.Proofs.YtaalbkmdmocdeaaDoor
