/- The document's Rest of one in play; whole. -/
import Derived.Test.YtaalbkmdmocdeaaDoorNl
namespace Go.Proofs.YtaalbkmdmocdeaaDoor
open Go.RowKit
open Pu Gp Ap Vp Np
set_option maxRecDepth 100000

set_option maxHeartbeats 2000000 in
theorem rrest_back (m : Mv) (x y : Int) (hm : mayB m = true) (h1 : (m.ou == 1) = true) (w : World) : Calls Tryd.prog 21 #[mv m, pt x y] w fun e w' => e = .returned (.tuple #[mv { startM x y m.fc with sd := m.sd }, .bool true, .int .i64 0]) ∧ Still w w' := by
  have A0 := Still.alloc w (.cells (mcs m) 25)
  have A1 := Still.alloc (newM w m) (.cells #[.int .i64 x, .int .i64 y] 23)
  have A2 := Still.alloc (newP (newM w m) x y) (.cells (mcs zM) 25)
  have p0 := ((newM_mb w m).still A1).still A2
  have o0 := (newP_pb (newM w m) x y).still A2
  have q0 := newM_mb (newP (newM w m) x y) zM
  simp only [size_alloc] at o0 q0
  have HS0 := hid ((A0.trans A1).trans A2)
  clear A0 A1 A2
  obtain ⟨c0, c1, c2, c3, c4, c5, c6, c7, c8, c9, c10, c11, c12, cf⟩ := p0.cells
  have H := hid (fun w => rcheck8_any m w)
  rw [show chkM m = 0 by unfold chkM; rw [hm]; rfl] at H
  clear hm
  go_enter Tryd.func21, Tryd.ntmps21
  go_wp2_with fail
  refine (H.out _).mono ?_
  rintro e w1 ⟨rfl, h1⟩
  have p1 := p0.still h1
  have o1 := o0.still h1
  have q1 := q0.still h1
  have HS1 := hid (HS0.out.trans h1)
  clear h1 HS0 p0 o0 q0 c0 c1 c2 c3 c4 c5 c6 c7 c8 c9 c10 c11 c12 cf H
  obtain ⟨c0, c1, c2, c3, c4, c5, c6, c7, c8, c9, c10, c11, c12, cf⟩ := p1.cells
  obtain ⟨d0, d1, df⟩ := o1.cells
  obtain ⟨k0, k1, k2, k3, k4, k5, k6, k7, k8, k9, k10, k11, k12, kf⟩ := q1.cells
  go_wp2_with fail
  refine (rstart_any x y m.fc _).mono ?_
  rintro e w2 ⟨rfl, h2⟩
  have p2 := p1.still h2
  have q2 := q1.still h2
  have HS2 := hid (HS1.out.trans h2)
  have hl := q2.lt
  have hl0 := p2.lt
  clear h2 HS1 p1 o1 q1 c0 c1 c2 c3 c4 c5 c6 c7 c8 c9 c10 c11 c12 cf d0 d1 df k0 k1 k2 k3 k4 k5 k6 k7 k8 k9 k10 k11 k12 kf
  obtain ⟨c0, c1, c2, c3, c4, c5, c6, c7, c8, c9, c10, c11, c12, cf⟩ := p2.cells
  obtain ⟨k0, k1, k2, k3, k4, k5, k6, k7, k8, k9, k10, k11, k12, kf⟩ := q2.cells
  go_wp2_with fail
  refine bodyPost_ret (Mb.rest3 (Mb.still (Mb.put q2 _ _ _ _ _ _ _ _ _ _ _ _ _) (Still.alloc _ _)) rfl _ _ _ rfl rfl rfl) rfl ⟨rfl, ?_⟩
  refine Still.trans ?_ (Still.alloc _ _)
  repeat (first | refine setC_fr ?_ _ _ _ (by omega) | with_reducible exact HS2.out)
theorem Mb.coo {w : World} {g : Nat} {m : Mv} (h : Mb w g m) (e : Int) : Mb (w.setCell ⟨g, 10, none⟩ (.int .i64 e)) g { m with co := e } := by
  have h1 := heap_setCell_same w g 10 _ _ (.int .i64 e) h
  exact h1.trans (by kernel_rfl)
theorem Mb.shd {w : World} {g : Nat} {m : Mv} (h : Mb w g m) (e : Bool) : Mb (w.setCell ⟨g, 9, none⟩ (.bool e)) g { m with sh := e } := by
  have h1 := heap_setCell_same w g 9 _ _ (.bool e) h
  exact h1.trans (by kernel_rfl)
set_option maxHeartbeats 1000000 in
theorem rrest_c1 (m : Mv) (x y : Int) (hm : mayB m = true) (h1 : (m.ou == 1) = false) (h2 : ¬ 1 < m.ou) (hc1 : 0 < m.co) (hc2 : m.co ≤ 12) (he1 : 0 ≤ m.en) (he2 : m.en ≤ 100) (hsh : m.sh = true) (he : m.en - 2 ≤ 0) (w : World) : Calls Tryd.prog 21 #[mv m, pt x y] w fun e w' => e = .returned (.tuple #[mv { m with co := m.co - 1, en := 0, sh := false }, .bool false, .int .i64 0]) ∧ Still w w' := by
  have HSH := hid hsh
  clear hsh
  have A0 := Still.alloc w (.cells (mcs m) 25)
  have A1 := Still.alloc (newM w m) (.cells #[.int .i64 x, .int .i64 y] 23)
  have A2 := Still.alloc (newP (newM w m) x y) (.cells (mcs zM) 25)
  have p0 := ((newM_mb w m).still A1).still A2
  have o0 := (newP_pb (newM w m) x y).still A2
  have q0 := newM_mb (newP (newM w m) x y) zM
  simp only [size_alloc] at o0 q0
  have HS0 := hid ((A0.trans A1).trans A2)
  clear A0 A1 A2
  obtain ⟨c0, c1, c2, c3, c4, c5, c6, c7, c8, c9, c10, c11, c12, cf⟩ := p0.cells
  have H := hid (fun w => rcheck8_any m w)
  rw [show chkM m = 0 by unfold chkM; rw [hm]; rfl] at H
  clear hm
  go_enter Tryd.func21, Tryd.ntmps21
  go_wp2_with fail
  refine (H.out _).mono ?_
  rintro e w1 ⟨rfl, h1⟩
  have p1 := p0.still h1
  have o1 := o0.still h1
  have q1 := q0.still h1
  have HS1 := hid (HS0.out.trans h1)
  clear h1 HS0 p0 o0 q0 c0 c1 c2 c3 c4 c5 c6 c7 c8 c9 c10 c11 c12 cf H
  obtain ⟨c0, c1, c2, c3, c4, c5, c6, c7, c8, c9, c10, c11, c12, cf⟩ := p1.cells
  obtain ⟨k0, k1, k2, k3, k4, k5, k6, k7, k8, k9, k10, k11, k12, kf⟩ := q1.cells
  rw [HSH.out] at c9
  go_upto_region 20 with fail
  have pW := (((p1.coo (m.co - 1)).eng (m.en - 2)).eng 0).shd false
  have qW := (((q1.other w.heap.size 10 (.int .i64 (m.co - 1)) (by omega)).other w.heap.size 8 (.int .i64 (m.en - 2)) (by omega)).other w.heap.size 8 (.int .i64 0) (by omega)).other w.heap.size 9 (.bool false) (by omega)
  have HW := hid (setC_fr (setC_fr (setC_fr (setC_fr HS1.out w.heap.size 10 (.int .i64 (m.co - 1)) (Nat.le_refl _)) w.heap.size 8 (.int .i64 (m.en - 2)) (Nat.le_refl _)) w.heap.size 8 (.int .i64 0) (Nat.le_refl _)) w.heap.size 9 (.bool false) (Nat.le_refl _))
  obtain ⟨W, eW⟩ : ∃ W, (((w1.setCell ⟨w.heap.size, 10, none⟩ (.int .i64 (m.co - 1))).setCell ⟨w.heap.size, 8, none⟩ (.int .i64 (m.en - 2))).setCell ⟨w.heap.size, 8, none⟩ (.int .i64 0)).setCell ⟨w.heap.size, 9, none⟩ (.bool false) = W := ⟨_, rfl⟩
  rw [eW] at pW qW HW ⊢
  clear eW p1 q1 o1 HS1 c0 c1 c2 c3 c4 c5 c6 c7 c8 c9 c10 c11 c12 cf k0 k1 k2 k3 k4 k5 k6 k7 k8 k9 k10 k11 k12 kf
  obtain ⟨c0, c1, c2, c3, c4, c5, c6, c7, c8, c9, c10, c11, c12, cf⟩ := pW.cells
  obtain ⟨k0, k1, k2, k3, k4, k5, k6, k7, k8, k9, k10, k11, k12, kf⟩ := qW.cells
  go_wp2_with fail
  refine bodyPost_ret (Mb.rest3 (Mb.put (m := zM) ?_ _ _ _ _ _ _ _ _ _ _ _ _ _) rfl _ _ _ rfl rfl rfl) rfl ⟨?_, ?_⟩
  · repeat (first | refine Mb.other ?_ _ _ _ (by omega) | with_reducible exact qW)
  · first | rfl | (rw [HSH.out]; rfl)
  · repeat (first | refine setC_fr ?_ _ _ _ (by omega) | with_reducible exact HW.out)
set_option maxHeartbeats 1000000 in
theorem rrest_c2 (m : Mv) (x y : Int) (hm : mayB m = true) (h1 : (m.ou == 1) = false) (h2 : ¬ 1 < m.ou) (hc1 : 0 < m.co) (hc2 : m.co ≤ 12) (he1 : 0 ≤ m.en) (he2 : m.en ≤ 100) (hsh : m.sh = true) (he : ¬ m.en - 2 ≤ 0) (w : World) : Calls Tryd.prog 21 #[mv m, pt x y] w fun e w' => e = .returned (.tuple #[mv { m with co := m.co - 1, en := m.en - 2, sh := true }, .bool false, .int .i64 0]) ∧ Still w w' := by
  have HSH := hid hsh
  clear hsh
  have A0 := Still.alloc w (.cells (mcs m) 25)
  have A1 := Still.alloc (newM w m) (.cells #[.int .i64 x, .int .i64 y] 23)
  have A2 := Still.alloc (newP (newM w m) x y) (.cells (mcs zM) 25)
  have p0 := ((newM_mb w m).still A1).still A2
  have o0 := (newP_pb (newM w m) x y).still A2
  have q0 := newM_mb (newP (newM w m) x y) zM
  simp only [size_alloc] at o0 q0
  have HS0 := hid ((A0.trans A1).trans A2)
  clear A0 A1 A2
  obtain ⟨c0, c1, c2, c3, c4, c5, c6, c7, c8, c9, c10, c11, c12, cf⟩ := p0.cells
  have H := hid (fun w => rcheck8_any m w)
  rw [show chkM m = 0 by unfold chkM; rw [hm]; rfl] at H
  clear hm
  go_enter Tryd.func21, Tryd.ntmps21
  go_wp2_with fail
  refine (H.out _).mono ?_
  rintro e w1 ⟨rfl, h1⟩
  have p1 := p0.still h1
  have o1 := o0.still h1
  have q1 := q0.still h1
  have HS1 := hid (HS0.out.trans h1)
  clear h1 HS0 p0 o0 q0 c0 c1 c2 c3 c4 c5 c6 c7 c8 c9 c10 c11 c12 cf H
  obtain ⟨c0, c1, c2, c3, c4, c5, c6, c7, c8, c9, c10, c11, c12, cf⟩ := p1.cells
  obtain ⟨k0, k1, k2, k3, k4, k5, k6, k7, k8, k9, k10, k11, k12, kf⟩ := q1.cells
  rw [HSH.out] at c9
  go_wp2_with fail
  refine bodyPost_ret (Mb.rest3 (Mb.put (m := zM) ?_ _ _ _ _ _ _ _ _ _ _ _ _ _) rfl _ _ _ rfl rfl rfl) rfl ⟨?_, ?_⟩
  · repeat (first | refine Mb.other ?_ _ _ _ (by omega) | with_reducible exact q1)
  · first | rfl | (rw [HSH.out]; rfl)
  · repeat (first | refine setC_fr ?_ _ _ _ (by omega) | with_reducible exact HS1.out)
theorem rrest_c3 (m : Mv) (x y : Int) (hm : mayB m = true) (h1 : (m.ou == 1) = false) (h2 : ¬ 1 < m.ou) (hc1 : 0 < m.co) (hc2 : m.co ≤ 12) (he1 : 0 ≤ m.en) (hsh : m.sh = false) (he : m.en < 100) (w : World) : Calls Tryd.prog 21 #[mv m, pt x y] w fun e w' => e = .returned (.tuple #[mv { m with co := m.co - 1, en := m.en + 1, sh := false }, .bool false, .int .i64 0]) ∧ Still w w' := by
  have HSH := hid hsh
  clear hsh
  have A0 := Still.alloc w (.cells (mcs m) 25)
  have A1 := Still.alloc (newM w m) (.cells #[.int .i64 x, .int .i64 y] 23)
  have A2 := Still.alloc (newP (newM w m) x y) (.cells (mcs zM) 25)
  have p0 := ((newM_mb w m).still A1).still A2
  have o0 := (newP_pb (newM w m) x y).still A2
  have q0 := newM_mb (newP (newM w m) x y) zM
  simp only [size_alloc] at o0 q0
  have HS0 := hid ((A0.trans A1).trans A2)
  clear A0 A1 A2
  obtain ⟨c0, c1, c2, c3, c4, c5, c6, c7, c8, c9, c10, c11, c12, cf⟩ := p0.cells
  have H := hid (fun w => rcheck8_any m w)
  rw [show chkM m = 0 by unfold chkM; rw [hm]; rfl] at H
  clear hm
  go_enter Tryd.func21, Tryd.ntmps21
  go_wp2_with fail
  refine (H.out _).mono ?_
  rintro e w1 ⟨rfl, h1⟩
  have p1 := p0.still h1
  have o1 := o0.still h1
  have q1 := q0.still h1
  have HS1 := hid (HS0.out.trans h1)
  clear h1 HS0 p0 o0 q0 c0 c1 c2 c3 c4 c5 c6 c7 c8 c9 c10 c11 c12 cf H
  obtain ⟨c0, c1, c2, c3, c4, c5, c6, c7, c8, c9, c10, c11, c12, cf⟩ := p1.cells
  obtain ⟨k0, k1, k2, k3, k4, k5, k6, k7, k8, k9, k10, k11, k12, kf⟩ := q1.cells
  rw [HSH.out] at c9
  go_wp2_with fail
  refine bodyPost_ret (Mb.rest3 (Mb.put (m := zM) ?_ _ _ _ _ _ _ _ _ _ _ _ _ _) rfl _ _ _ rfl rfl rfl) rfl ⟨?_, ?_⟩
  · repeat (first | refine Mb.other ?_ _ _ _ (by omega) | with_reducible exact q1)
  · first | rfl | (rw [HSH.out]; rfl)
  · repeat (first | refine setC_fr ?_ _ _ _ (by omega) | with_reducible exact HS1.out)
theorem rrest_c4 (m : Mv) (x y : Int) (hm : mayB m = true) (h1 : (m.ou == 1) = false) (h2 : ¬ 1 < m.ou) (hc1 : 0 < m.co) (hc2 : m.co ≤ 12) (hsh : m.sh = false) (he : ¬ m.en < 100) (w : World) : Calls Tryd.prog 21 #[mv m, pt x y] w fun e w' => e = .returned (.tuple #[mv { m with co := m.co - 1, sh := false }, .bool false, .int .i64 0]) ∧ Still w w' := by
  have HSH := hid hsh
  clear hsh
  have A0 := Still.alloc w (.cells (mcs m) 25)
  have A1 := Still.alloc (newM w m) (.cells #[.int .i64 x, .int .i64 y] 23)
  have A2 := Still.alloc (newP (newM w m) x y) (.cells (mcs zM) 25)
  have p0 := ((newM_mb w m).still A1).still A2
  have o0 := (newP_pb (newM w m) x y).still A2
  have q0 := newM_mb (newP (newM w m) x y) zM
  simp only [size_alloc] at o0 q0
  have HS0 := hid ((A0.trans A1).trans A2)
  clear A0 A1 A2
  obtain ⟨c0, c1, c2, c3, c4, c5, c6, c7, c8, c9, c10, c11, c12, cf⟩ := p0.cells
  have H := hid (fun w => rcheck8_any m w)
  rw [show chkM m = 0 by unfold chkM; rw [hm]; rfl] at H
  clear hm
  go_enter Tryd.func21, Tryd.ntmps21
  go_wp2_with fail
  refine (H.out _).mono ?_
  rintro e w1 ⟨rfl, h1⟩
  have p1 := p0.still h1
  have o1 := o0.still h1
  have q1 := q0.still h1
  have HS1 := hid (HS0.out.trans h1)
  clear h1 HS0 p0 o0 q0 c0 c1 c2 c3 c4 c5 c6 c7 c8 c9 c10 c11 c12 cf H
  obtain ⟨c0, c1, c2, c3, c4, c5, c6, c7, c8, c9, c10, c11, c12, cf⟩ := p1.cells
  obtain ⟨k0, k1, k2, k3, k4, k5, k6, k7, k8, k9, k10, k11, k12, kf⟩ := q1.cells
  rw [HSH.out] at c9
  go_wp2_with fail
  refine bodyPost_ret (Mb.rest3 (Mb.put (m := zM) ?_ _ _ _ _ _ _ _ _ _ _ _ _ _) rfl _ _ _ rfl rfl rfl) rfl ⟨?_, ?_⟩
  · repeat (first | refine Mb.other ?_ _ _ _ (by omega) | with_reducible exact q1)
  · first | rfl | (rw [HSH.out]; rfl)
  · repeat (first | refine setC_fr ?_ _ _ _ (by omega) | with_reducible exact HS1.out)
theorem rrest_d1 (m : Mv) (x y : Int) (hm : mayB m = true) (h1 : (m.ou == 1) = false) (h2 : ¬ 1 < m.ou) (hc1 : ¬ 0 < m.co) (he1 : 0 ≤ m.en) (he2 : m.en ≤ 100) (hsh : m.sh = true) (he : m.en - 2 ≤ 0) (w : World) : Calls Tryd.prog 21 #[mv m, pt x y] w fun e w' => e = .returned (.tuple #[mv { m with co := m.co, en := 0, sh := false }, .bool false, .int .i64 0]) ∧ Still w w' := by
  have HSH := hid hsh
  clear hsh
  have A0 := Still.alloc w (.cells (mcs m) 25)
  have A1 := Still.alloc (newM w m) (.cells #[.int .i64 x, .int .i64 y] 23)
  have A2 := Still.alloc (newP (newM w m) x y) (.cells (mcs zM) 25)
  have p0 := ((newM_mb w m).still A1).still A2
  have o0 := (newP_pb (newM w m) x y).still A2
  have q0 := newM_mb (newP (newM w m) x y) zM
  simp only [size_alloc] at o0 q0
  have HS0 := hid ((A0.trans A1).trans A2)
  clear A0 A1 A2
  obtain ⟨c0, c1, c2, c3, c4, c5, c6, c7, c8, c9, c10, c11, c12, cf⟩ := p0.cells
  have H := hid (fun w => rcheck8_any m w)
  rw [show chkM m = 0 by unfold chkM; rw [hm]; rfl] at H
  clear hm
  go_enter Tryd.func21, Tryd.ntmps21
  go_wp2_with fail
  refine (H.out _).mono ?_
  rintro e w1 ⟨rfl, h1⟩
  have p1 := p0.still h1
  have o1 := o0.still h1
  have q1 := q0.still h1
  have HS1 := hid (HS0.out.trans h1)
  clear h1 HS0 p0 o0 q0 c0 c1 c2 c3 c4 c5 c6 c7 c8 c9 c10 c11 c12 cf H
  obtain ⟨c0, c1, c2, c3, c4, c5, c6, c7, c8, c9, c10, c11, c12, cf⟩ := p1.cells
  obtain ⟨k0, k1, k2, k3, k4, k5, k6, k7, k8, k9, k10, k11, k12, kf⟩ := q1.cells
  rw [HSH.out] at c9
  go_wp2_with fail
  refine bodyPost_ret (Mb.rest3 (Mb.put (m := zM) ?_ _ _ _ _ _ _ _ _ _ _ _ _ _) rfl _ _ _ rfl rfl rfl) rfl ⟨?_, ?_⟩
  · repeat (first | refine Mb.other ?_ _ _ _ (by omega) | with_reducible exact q1)
  · first | rfl | (rw [HSH.out]; rfl)
  · repeat (first | refine setC_fr ?_ _ _ _ (by omega) | with_reducible exact HS1.out)
theorem rrest_d2 (m : Mv) (x y : Int) (hm : mayB m = true) (h1 : (m.ou == 1) = false) (h2 : ¬ 1 < m.ou) (hc1 : ¬ 0 < m.co) (he1 : 0 ≤ m.en) (he2 : m.en ≤ 100) (hsh : m.sh = true) (he : ¬ m.en - 2 ≤ 0) (w : World) : Calls Tryd.prog 21 #[mv m, pt x y] w fun e w' => e = .returned (.tuple #[mv { m with co := m.co, en := m.en - 2, sh := true }, .bool false, .int .i64 0]) ∧ Still w w' := by
  have HSH := hid hsh
  clear hsh
  have A0 := Still.alloc w (.cells (mcs m) 25)
  have A1 := Still.alloc (newM w m) (.cells #[.int .i64 x, .int .i64 y] 23)
  have A2 := Still.alloc (newP (newM w m) x y) (.cells (mcs zM) 25)
  have p0 := ((newM_mb w m).still A1).still A2
  have o0 := (newP_pb (newM w m) x y).still A2
  have q0 := newM_mb (newP (newM w m) x y) zM
  simp only [size_alloc] at o0 q0
  have HS0 := hid ((A0.trans A1).trans A2)
  clear A0 A1 A2
  obtain ⟨c0, c1, c2, c3, c4, c5, c6, c7, c8, c9, c10, c11, c12, cf⟩ := p0.cells
  have H := hid (fun w => rcheck8_any m w)
  rw [show chkM m = 0 by unfold chkM; rw [hm]; rfl] at H
  clear hm
  go_enter Tryd.func21, Tryd.ntmps21
  go_wp2_with fail
  refine (H.out _).mono ?_
  rintro e w1 ⟨rfl, h1⟩
  have p1 := p0.still h1
  have o1 := o0.still h1
  have q1 := q0.still h1
  have HS1 := hid (HS0.out.trans h1)
  clear h1 HS0 p0 o0 q0 c0 c1 c2 c3 c4 c5 c6 c7 c8 c9 c10 c11 c12 cf H
  obtain ⟨c0, c1, c2, c3, c4, c5, c6, c7, c8, c9, c10, c11, c12, cf⟩ := p1.cells
  obtain ⟨k0, k1, k2, k3, k4, k5, k6, k7, k8, k9, k10, k11, k12, kf⟩ := q1.cells
  rw [HSH.out] at c9
  go_wp2_with fail
  refine bodyPost_ret (Mb.rest3 (Mb.put (m := zM) ?_ _ _ _ _ _ _ _ _ _ _ _ _ _) rfl _ _ _ rfl rfl rfl) rfl ⟨?_, ?_⟩
  · repeat (first | refine Mb.other ?_ _ _ _ (by omega) | with_reducible exact q1)
  · first | rfl | (rw [HSH.out]; rfl)
  · repeat (first | refine setC_fr ?_ _ _ _ (by omega) | with_reducible exact HS1.out)
theorem rrest_d3 (m : Mv) (x y : Int) (hm : mayB m = true) (h1 : (m.ou == 1) = false) (h2 : ¬ 1 < m.ou) (hc1 : ¬ 0 < m.co) (he1 : 0 ≤ m.en) (hsh : m.sh = false) (he : m.en < 100) (w : World) : Calls Tryd.prog 21 #[mv m, pt x y] w fun e w' => e = .returned (.tuple #[mv { m with co := m.co, en := m.en + 1, sh := false }, .bool false, .int .i64 0]) ∧ Still w w' := by
  have HSH := hid hsh
  clear hsh
  have A0 := Still.alloc w (.cells (mcs m) 25)
  have A1 := Still.alloc (newM w m) (.cells #[.int .i64 x, .int .i64 y] 23)
  have A2 := Still.alloc (newP (newM w m) x y) (.cells (mcs zM) 25)
  have p0 := ((newM_mb w m).still A1).still A2
  have o0 := (newP_pb (newM w m) x y).still A2
  have q0 := newM_mb (newP (newM w m) x y) zM
  simp only [size_alloc] at o0 q0
  have HS0 := hid ((A0.trans A1).trans A2)
  clear A0 A1 A2
  obtain ⟨c0, c1, c2, c3, c4, c5, c6, c7, c8, c9, c10, c11, c12, cf⟩ := p0.cells
  have H := hid (fun w => rcheck8_any m w)
  rw [show chkM m = 0 by unfold chkM; rw [hm]; rfl] at H
  clear hm
  go_enter Tryd.func21, Tryd.ntmps21
  go_wp2_with fail
  refine (H.out _).mono ?_
  rintro e w1 ⟨rfl, h1⟩
  have p1 := p0.still h1
  have o1 := o0.still h1
  have q1 := q0.still h1
  have HS1 := hid (HS0.out.trans h1)
  clear h1 HS0 p0 o0 q0 c0 c1 c2 c3 c4 c5 c6 c7 c8 c9 c10 c11 c12 cf H
  obtain ⟨c0, c1, c2, c3, c4, c5, c6, c7, c8, c9, c10, c11, c12, cf⟩ := p1.cells
  obtain ⟨k0, k1, k2, k3, k4, k5, k6, k7, k8, k9, k10, k11, k12, kf⟩ := q1.cells
  rw [HSH.out] at c9
  go_wp2_with fail
  refine bodyPost_ret (Mb.rest3 (Mb.put (m := zM) ?_ _ _ _ _ _ _ _ _ _ _ _ _ _) rfl _ _ _ rfl rfl rfl) rfl ⟨?_, ?_⟩
  · repeat (first | refine Mb.other ?_ _ _ _ (by omega) | with_reducible exact q1)
  · first | rfl | (rw [HSH.out]; rfl)
  · repeat (first | refine setC_fr ?_ _ _ _ (by omega) | with_reducible exact HS1.out)
theorem rrest_d4 (m : Mv) (x y : Int) (hm : mayB m = true) (h1 : (m.ou == 1) = false) (h2 : ¬ 1 < m.ou) (hc1 : ¬ 0 < m.co) (hsh : m.sh = false) (he : ¬ m.en < 100) (w : World) : Calls Tryd.prog 21 #[mv m, pt x y] w fun e w' => e = .returned (.tuple #[mv { m with co := m.co, sh := false }, .bool false, .int .i64 0]) ∧ Still w w' := by
  have HSH := hid hsh
  clear hsh
  have A0 := Still.alloc w (.cells (mcs m) 25)
  have A1 := Still.alloc (newM w m) (.cells #[.int .i64 x, .int .i64 y] 23)
  have A2 := Still.alloc (newP (newM w m) x y) (.cells (mcs zM) 25)
  have p0 := ((newM_mb w m).still A1).still A2
  have o0 := (newP_pb (newM w m) x y).still A2
  have q0 := newM_mb (newP (newM w m) x y) zM
  simp only [size_alloc] at o0 q0
  have HS0 := hid ((A0.trans A1).trans A2)
  clear A0 A1 A2
  obtain ⟨c0, c1, c2, c3, c4, c5, c6, c7, c8, c9, c10, c11, c12, cf⟩ := p0.cells
  have H := hid (fun w => rcheck8_any m w)
  rw [show chkM m = 0 by unfold chkM; rw [hm]; rfl] at H
  clear hm
  go_enter Tryd.func21, Tryd.ntmps21
  go_wp2_with fail
  refine (H.out _).mono ?_
  rintro e w1 ⟨rfl, h1⟩
  have p1 := p0.still h1
  have o1 := o0.still h1
  have q1 := q0.still h1
  have HS1 := hid (HS0.out.trans h1)
  clear h1 HS0 p0 o0 q0 c0 c1 c2 c3 c4 c5 c6 c7 c8 c9 c10 c11 c12 cf H
  obtain ⟨c0, c1, c2, c3, c4, c5, c6, c7, c8, c9, c10, c11, c12, cf⟩ := p1.cells
  obtain ⟨k0, k1, k2, k3, k4, k5, k6, k7, k8, k9, k10, k11, k12, kf⟩ := q1.cells
  rw [HSH.out] at c9
  go_wp2_with fail
  refine bodyPost_ret (Mb.rest3 (Mb.put (m := zM) ?_ _ _ _ _ _ _ _ _ _ _ _ _ _) rfl _ _ _ rfl rfl rfl) rfl ⟨?_, ?_⟩
  · repeat (first | refine Mb.other ?_ _ _ _ (by omega) | with_reducible exact q1)
  · first | rfl | (rw [HSH.out]; rfl)
  · repeat (first | refine setC_fr ?_ _ _ _ (by omega) | with_reducible exact HS1.out)
theorem rrest_any (m : Mv) (x y : Int) (w : World) : Calls Tryd.prog 21 #[mv m, pt x y] w fun e w' => e = .returned (.tuple #[mv (resM m x y), .bool (resD m), .int .i64 (chkM m)]) ∧ Still w w' := by
  unfold resM resD chkM
  cases hm : mayB m with
  | false => exact rrest_may m x y hm w
  | true =>
    obtain ⟨g1, g2, g3, g4, g5, g6, g7, g8, g9, g10, g11⟩ := mayB_iff.1 hm
    simp only [if_true, Bool.true_and]
    unfold restM
    by_cases h1 : m.ou = 1
    · have h1' : (m.ou == 1) = true := by simpa using h1
      rw [if_pos h1, h1']
      exact rrest_back m x y hm h1' w
    · have h1' : (m.ou == 1) = false := by simpa using h1
      rw [if_neg h1, h1']
      by_cases h2 : 1 < m.ou
      · rw [if_pos h2]
        exact rrest_wait m x y hm h1' h2 g8.2 w
      · rw [if_neg h2]
        by_cases hc : 0 < m.co
        · rw [if_pos hc]
          cases hs : m.sh with
          | true =>
            by_cases he : m.en - 2 ≤ 0
            · have e2 : decide (0 < m.en - 2) = false := by simp; omega
              simp only [if_true, if_pos he, e2, Bool.and_false]
              exact rrest_c1 m x y hm h1' h2 hc g7.2 g6.1 g6.2 hs he w
            · have e2 : decide (0 < m.en - 2) = true := by simp; omega
              simp only [if_true, if_neg he, e2, Bool.and_true]
              exact rrest_c2 m x y hm h1' h2 hc g7.2 g6.1 g6.2 hs he w
          | false =>
            by_cases he : m.en < 100
            · simp only [if_pos he, Bool.false_and]
              exact rrest_c3 m x y hm h1' h2 hc g7.2 g6.1 hs he w
            · simp only [if_neg he, Bool.false_and]
              exact rrest_c4 m x y hm h1' h2 hc g7.2 hs he w
        · rw [if_neg hc]
          cases hs : m.sh with
          | true =>
            by_cases he : m.en - 2 ≤ 0
            · have e2 : decide (0 < m.en - 2) = false := by simp; omega
              simp only [if_true, if_pos he, e2, Bool.and_false]
              exact rrest_d1 m x y hm h1' h2 hc g6.1 g6.2 hs he w
            · have e2 : decide (0 < m.en - 2) = true := by simp; omega
              simp only [if_true, if_neg he, e2, Bool.and_true]
              exact rrest_d2 m x y hm h1' h2 hc g6.1 g6.2 hs he w
          | false =>
            by_cases he : m.en < 100
            · simp only [if_pos he, Bool.false_and]
              exact rrest_d3 m x y hm h1' h2 hc g6.1 hs he w
            · simp only [if_neg he, Bool.false_and]
              exact rrest_d4 m x y hm h1' h2 hc hs he w
end Go.Proofs.YtaalbkmdmocdeaaDoor
