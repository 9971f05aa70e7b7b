/- The document's Act. The document's Act, order by order. The document's Act, what is not done. The document's Act: a dash; all orders. -/
import Derived.Test.YtaalbkmdmocdeaaDoorNd
import Derived.Test.YtaalbkmdmocdeaaDoorVc
import Derived.Test.YtaalbkmdmocdeaaDoorUn
namespace Go.Proofs.YtaalbkmdmocdeaaDoor
open Go.RowKit
open Pu Gp Ap Vp Np
set_option maxRecDepth 100000

theorem ract_may (m : Mv) (v a b c : Int) (hm : mayB m = false) (w : World) : Calls Tryd.prog 15 #[mv m, od v a b c] w fun e w' => e = .returned (.tuple #[mv zM, .bool false, .int .i64 80]) ∧ Still w w' := by
  have A0 := Still.alloc w (.cells (mcs m) 25)
  have A1 := Still.alloc (newM w m) (.cells #[.int .i64 v, .int .i64 a, .int .i64 b, .int .i64 c] 32)
  have A2 := Still.alloc (newO (newM w m) v a b c) (.cells (mcs zM) 25)
  have p0 := ((newM_mb w m).still A1).still A2
  have o0 := (newO_orb (newM w m) v a b c).still A2
  have q0 := newM_mb (newO (newM w m) v a b c) zM
  simp only [size_alloc] at o0 q0
  have HS0 := hid ((A0.trans A1).trans A2)
  clear A0 A1 A2
  obtain ⟨c0, c1, c2, c3, c4, c5, c6, c7, c8, c9, c10, c11, c12, cf⟩ := p0.cells
  obtain ⟨d0, d1, d2, d3, df⟩ := o0.cells
  have H := hid (fun w => rcheck8_any m w)
  rw [show chkM m = 80 by unfold chkM; rw [hm]; rfl] at H
  clear hm
  go_enter Tryd.func15, Tryd.ntmps15
  go_wp2_with fail
  refine (H.out _).mono ?_
  rintro e w1 ⟨rfl, h1⟩
  have q1 := q0.still h1
  have HS1 := hid (HS0.out.trans h1)
  clear h1 HS0 p0 o0 q0 c0 c1 c2 c3 c4 c5 c6 c7 c8 c9 c10 c11 c12 cf d0 d1 d2 d3 df
  obtain ⟨k0, k1, k2, k3, k4, k5, k6, k7, k8, k9, k10, k11, k12, kf⟩ := q1.cells
  go_wp2_with fail
  refine bodyPost_ret (Mb.rest3 (Mb.put q1 _ _ _ _ _ _ _ _ _ _ _ _ _) rfl _ _ _ rfl rfl rfl) rfl ⟨rfl, ?_⟩
  repeat (first | refine setC_fr ?_ _ _ _ (by omega) | with_reducible exact HS1.out)
theorem ract_ord (m : Mv) (v a b c x : Int) (hm : mayB m = true) (hc : chkO v a b c = x) (hx : x ≠ 0) (w : World) (ht : OTab w) : Calls Tryd.prog 15 #[mv m, od v a b c] w fun e w' => e = .returned (.tuple #[mv zM, .bool false, .int .i64 x]) ∧ Still w w' := by
  have hx1 : (x != 0) = true := by simpa using hx
  clear hx
  have A0 := Still.alloc w (.cells (mcs m) 25)
  have A1 := Still.alloc (newM w m) (.cells #[.int .i64 v, .int .i64 a, .int .i64 b, .int .i64 c] 32)
  have A2 := Still.alloc (newO (newM w m) v a b c) (.cells (mcs zM) 25)
  have p0 := ((newM_mb w m).still A1).still A2
  have o0 := (newO_orb (newM w m) v a b c).still A2
  have q0 := newM_mb (newO (newM w m) v a b c) zM
  simp only [size_alloc] at o0 q0
  have HS0 := hid ((A0.trans A1).trans A2)
  clear A0 A1 A2
  obtain ⟨c0, c1, c2, c3, c4, c5, c6, c7, c8, c9, c10, c11, c12, cf⟩ := p0.cells
  obtain ⟨d0, d1, d2, d3, df⟩ := o0.cells
  have H := hid (fun w => rcheck8_any m w)
  rw [show chkM m = 0 by unfold chkM; rw [hm]; rfl] at H
  have HO := hid (fun u (hu : Still w u) => rchk_any v a b c u (ht.still hu))
  rw [hc] at HO
  clear hm hc
  go_enter Tryd.func15, Tryd.ntmps15
  go_wp2_with fail
  refine (H.out _).mono ?_
  rintro e w1 ⟨rfl, h1⟩
  have p1 := p0.still h1
  have o1 := o0.still h1
  have q1 := q0.still h1
  have HS1 := hid (HS0.out.trans h1)
  clear h1 HS0 p0 o0 q0 c0 c1 c2 c3 c4 c5 c6 c7 c8 c9 c10 c11 c12 cf d0 d1 d2 d3 df H
  obtain ⟨d0, d1, d2, d3, df⟩ := o1.cells
  go_wp2_with fail
  refine (HO.out _ HS1.out).mono ?_
  rintro e w2 ⟨rfl, h2⟩
  have p2 := p1.still h2
  have o2 := o1.still h2
  have q2 := q1.still h2
  have HS2 := hid (HS1.out.trans h2)
  clear h2 HS1 p1 o1 q1 d0 d1 d2 d3 df HO
  obtain ⟨c0, c1, c2, c3, c4, c5, c6, c7, c8, c9, c10, c11, c12, cf⟩ := p2.cells
  obtain ⟨d0, d1, d2, d3, df⟩ := o2.cells
  obtain ⟨k0, k1, k2, k3, k4, k5, k6, k7, k8, k9, k10, k11, k12, kf⟩ := q2.cells
  go_wp2_with fail
  refine bodyPost_ret (Mb.rest3 (Mb.put q2 _ _ _ _ _ _ _ _ _ _ _ _ _) rfl _ _ _ rfl rfl rfl) rfl ⟨rfl, ?_⟩
  repeat (first | refine setC_fr ?_ _ _ _ (by omega) | with_reducible exact HS2.out)
theorem ract_p1 (m : Mv) (a b c : Int) (hm : mayB m = true) (hc : chkO 1 a b c = 0) (ha1 : -8 ≤ a) (ha2 : a ≤ 8) (hb1 : -8 ≤ b) (hb2 : b ≤ 8) (h0 : (m.ou == 0) = true) (w : World) (ht : OTab w) : Calls Tryd.prog 15 #[mv m, od 1 a b c] w fun e w' => e = .returned (.tuple #[mv { m with px := 32 * a, py := 32 * b }, .bool true, .int .i64 0]) ∧ Still w w' := by
  have A0 := Still.alloc w (.cells (mcs m) 25)
  have A1 := Still.alloc (newM w m) (.cells #[.int .i64 1, .int .i64 a, .int .i64 b, .int .i64 c] 32)
  have A2 := Still.alloc (newO (newM w m) 1 a b c) (.cells (mcs zM) 25)
  have p0 := ((newM_mb w m).still A1).still A2
  have o0 := (newO_orb (newM w m) 1 a b c).still A2
  have q0 := newM_mb (newO (newM w m) 1 a b c) zM
  simp only [size_alloc] at o0 q0
  have HS0 := hid ((A0.trans A1).trans A2)
  clear A0 A1 A2
  obtain ⟨c0, c1, c2, c3, c4, c5, c6, c7, c8, c9, c10, c11, c12, cf⟩ := p0.cells
  obtain ⟨d0, d1, d2, d3, df⟩ := o0.cells
  have H := hid (fun w => rcheck8_any m w)
  rw [show chkM m = 0 by unfold chkM; rw [hm]; rfl] at H
  have HO := hid (fun u (hu : Still w u) => rchk_any 1 a b c u (ht.still hu))
  rw [hc] at HO
  clear hm hc
  go_enter Tryd.func15, Tryd.ntmps15
  go_wp2_with fail
  refine (H.out _).mono ?_
  rintro e w1 ⟨rfl, h1⟩
  have p1 := p0.still h1
  have o1 := o0.still h1
  have q1 := q0.still h1
  have HS1 := hid (HS0.out.trans h1)
  clear h1 HS0 p0 o0 q0 c0 c1 c2 c3 c4 c5 c6 c7 c8 c9 c10 c11 c12 cf d0 d1 d2 d3 df H
  obtain ⟨d0, d1, d2, d3, df⟩ := o1.cells
  go_wp2_with fail
  refine (HO.out _ HS1.out).mono ?_
  rintro e w2 ⟨rfl, h2⟩
  have p2 := p1.still h2
  have o2 := o1.still h2
  have q2 := q1.still h2
  have HS2 := hid (HS1.out.trans h2)
  clear h2 HS1 p1 o1 q1 d0 d1 d2 d3 df HO
  obtain ⟨c0, c1, c2, c3, c4, c5, c6, c7, c8, c9, c10, c11, c12, cf⟩ := p2.cells
  obtain ⟨d0, d1, d2, d3, df⟩ := o2.cells
  obtain ⟨k0, k1, k2, k3, k4, k5, k6, k7, k8, k9, k10, k11, k12, kf⟩ := q2.cells
  go_wp2_with fail
  refine bodyPost_ret (Mb.rest3 (Mb.put (Mb.other (Mb.other q2 _ _ _ (by omega)) _ _ _ (by omega)) _ _ _ _ _ _ _ _ _ _ _ _ _) rfl _ _ _ rfl rfl rfl) rfl ⟨rfl, ?_⟩
  repeat (first | refine setC_fr ?_ _ _ _ (by omega) | with_reducible exact HS2.out)
theorem ract_n1 (m : Mv) (a b c : Int) (hm : mayB m = true) (hc : chkO 1 a b c = 0) (h0 : (m.ou == 0) = false) (w : World) (ht : OTab w) : Calls Tryd.prog 15 #[mv m, od 1 a b c] w fun e w' => e = .returned (.tuple #[mv m, .bool false, .int .i64 0]) ∧ Still w w' := by
  have A0 := Still.alloc w (.cells (mcs m) 25)
  have A1 := Still.alloc (newM w m) (.cells #[.int .i64 1, .int .i64 a, .int .i64 b, .int .i64 c] 32)
  have A2 := Still.alloc (newO (newM w m) 1 a b c) (.cells (mcs zM) 25)
  have p0 := ((newM_mb w m).still A1).still A2
  have o0 := (newO_orb (newM w m) 1 a b c).still A2
  have q0 := newM_mb (newO (newM w m) 1 a b c) zM
  simp only [size_alloc] at o0 q0
  have HS0 := hid ((A0.trans A1).trans A2)
  clear A0 A1 A2
  obtain ⟨c0, c1, c2, c3, c4, c5, c6, c7, c8, c9, c10, c11, c12, cf⟩ := p0.cells
  obtain ⟨d0, d1, d2, d3, df⟩ := o0.cells
  have H := hid (fun w => rcheck8_any m w)
  rw [show chkM m = 0 by unfold chkM; rw [hm]; rfl] at H
  have HO := hid (fun u (hu : Still w u) => rchk_any 1 a b c u (ht.still hu))
  rw [hc] at HO
  clear hm hc
  go_enter Tryd.func15, Tryd.ntmps15
  go_wp2_with fail
  refine (H.out _).mono ?_
  rintro e w1 ⟨rfl, h1⟩
  have p1 := p0.still h1
  have o1 := o0.still h1
  have q1 := q0.still h1
  have HS1 := hid (HS0.out.trans h1)
  clear h1 HS0 p0 o0 q0 c0 c1 c2 c3 c4 c5 c6 c7 c8 c9 c10 c11 c12 cf d0 d1 d2 d3 df H
  obtain ⟨d0, d1, d2, d3, df⟩ := o1.cells
  go_wp2_with fail
  refine (HO.out _ HS1.out).mono ?_
  rintro e w2 ⟨rfl, h2⟩
  have p2 := p1.still h2
  have o2 := o1.still h2
  have q2 := q1.still h2
  have HS2 := hid (HS1.out.trans h2)
  clear h2 HS1 p1 o1 q1 d0 d1 d2 d3 df HO
  obtain ⟨c0, c1, c2, c3, c4, c5, c6, c7, c8, c9, c10, c11, c12, cf⟩ := p2.cells
  obtain ⟨d0, d1, d2, d3, df⟩ := o2.cells
  obtain ⟨k0, k1, k2, k3, k4, k5, k6, k7, k8, k9, k10, k11, k12, kf⟩ := q2.cells
  go_wp2_with fail
  refine bodyPost_ret (Mb.rest3 (Mb.put q2 _ _ _ _ _ _ _ _ _ _ _ _ _) rfl _ _ _ rfl rfl rfl) rfl ⟨rfl, ?_⟩
  repeat (first | refine setC_fr ?_ _ _ _ (by omega) | with_reducible exact HS2.out)
end Go.Proofs.YtaalbkmdmocdeaaDoor
namespace Go.Proofs.YtaalbkmdmocdeaaDoor
open Go.RowKit
open Pu Gp Ap Vp Np
set_option maxRecDepth 100000

theorem ract_p2 (m : Mv) (a b c : Int) (hm : mayB m = true) (hc : chkO 2 a b c = 0) (h0 : (m.ou == 0) = true) (w : World) (ht : OTab w) : Calls Tryd.prog 15 #[mv m, od 2 a b c] w fun e w' => e = .returned (.tuple #[mv { m with px := 0, py := 0 }, .bool true, .int .i64 0]) ∧ Still w w' := by
  have A0 := Still.alloc w (.cells (mcs m) 25)
  have A1 := Still.alloc (newM w m) (.cells #[.int .i64 2, .int .i64 a, .int .i64 b, .int .i64 c] 32)
  have A2 := Still.alloc (newO (newM w m) 2 a b c) (.cells (mcs zM) 25)
  have p0 := ((newM_mb w m).still A1).still A2
  have o0 := (newO_orb (newM w m) 2 a b c).still A2
  have q0 := newM_mb (newO (newM w m) 2 a b c) zM
  simp only [size_alloc] at o0 q0
  have HS0 := hid ((A0.trans A1).trans A2)
  clear A0 A1 A2
  obtain ⟨c0, c1, c2, c3, c4, c5, c6, c7, c8, c9, c10, c11, c12, cf⟩ := p0.cells
  obtain ⟨d0, d1, d2, d3, df⟩ := o0.cells
  have H := hid (fun w => rcheck8_any m w)
  rw [show chkM m = 0 by unfold chkM; rw [hm]; rfl] at H
  have HO := hid (fun u (hu : Still w u) => rchk_any 2 a b c u (ht.still hu))
  rw [hc] at HO
  clear hm hc
  go_enter Tryd.func15, Tryd.ntmps15
  go_wp2_with fail
  refine (H.out _).mono ?_
  rintro e w1 ⟨rfl, h1⟩
  have p1 := p0.still h1
  have o1 := o0.still h1
  have q1 := q0.still h1
  have HS1 := hid (HS0.out.trans h1)
  clear h1 HS0 p0 o0 q0 c0 c1 c2 c3 c4 c5 c6 c7 c8 c9 c10 c11 c12 cf d0 d1 d2 d3 df H
  obtain ⟨d0, d1, d2, d3, df⟩ := o1.cells
  go_wp2_with fail
  refine (HO.out _ HS1.out).mono ?_
  rintro e w2 ⟨rfl, h2⟩
  have p2 := p1.still h2
  have o2 := o1.still h2
  have q2 := q1.still h2
  have HS2 := hid (HS1.out.trans h2)
  clear h2 HS1 p1 o1 q1 d0 d1 d2 d3 df HO
  obtain ⟨c0, c1, c2, c3, c4, c5, c6, c7, c8, c9, c10, c11, c12, cf⟩ := p2.cells
  obtain ⟨d0, d1, d2, d3, df⟩ := o2.cells
  obtain ⟨k0, k1, k2, k3, k4, k5, k6, k7, k8, k9, k10, k11, k12, kf⟩ := q2.cells
  go_wp2_with fail
  refine bodyPost_ret (Mb.rest3 (Mb.put (Mb.other (Mb.other q2 _ _ _ (by omega)) _ _ _ (by omega)) _ _ _ _ _ _ _ _ _ _ _ _ _) rfl _ _ _ rfl rfl rfl) rfl ⟨rfl, ?_⟩
  repeat (first | refine setC_fr ?_ _ _ _ (by omega) | with_reducible exact HS2.out)
theorem ract_p3 (m : Mv) (a b c : Int) (hm : mayB m = true) (hc : chkO 3 a b c = 0) (h0 : (m.ou == 0) = true) (w : World) (ht : OTab w) : Calls Tryd.prog 15 #[mv m, od 3 a b c] w fun e w' => e = .returned (.tuple #[mv { m with fc := a }, .bool true, .int .i64 0]) ∧ Still w w' := by
  have A0 := Still.alloc w (.cells (mcs m) 25)
  have A1 := Still.alloc (newM w m) (.cells #[.int .i64 3, .int .i64 a, .int .i64 b, .int .i64 c] 32)
  have A2 := Still.alloc (newO (newM w m) 3 a b c) (.cells (mcs zM) 25)
  have p0 := ((newM_mb w m).still A1).still A2
  have o0 := (newO_orb (newM w m) 3 a b c).still A2
  have q0 := newM_mb (newO (newM w m) 3 a b c) zM
  simp only [size_alloc] at o0 q0
  have HS0 := hid ((A0.trans A1).trans A2)
  clear A0 A1 A2
  obtain ⟨c0, c1, c2, c3, c4, c5, c6, c7, c8, c9, c10, c11, c12, cf⟩ := p0.cells
  obtain ⟨d0, d1, d2, d3, df⟩ := o0.cells
  have H := hid (fun w => rcheck8_any m w)
  rw [show chkM m = 0 by unfold chkM; rw [hm]; rfl] at H
  have HO := hid (fun u (hu : Still w u) => rchk_any 3 a b c u (ht.still hu))
  rw [hc] at HO
  clear hm hc
  go_enter Tryd.func15, Tryd.ntmps15
  go_wp2_with fail
  refine (H.out _).mono ?_
  rintro e w1 ⟨rfl, h1⟩
  have p1 := p0.still h1
  have o1 := o0.still h1
  have q1 := q0.still h1
  have HS1 := hid (HS0.out.trans h1)
  clear h1 HS0 p0 o0 q0 c0 c1 c2 c3 c4 c5 c6 c7 c8 c9 c10 c11 c12 cf d0 d1 d2 d3 df H
  obtain ⟨d0, d1, d2, d3, df⟩ := o1.cells
  go_wp2_with fail
  refine (HO.out _ HS1.out).mono ?_
  rintro e w2 ⟨rfl, h2⟩
  have p2 := p1.still h2
  have o2 := o1.still h2
  have q2 := q1.still h2
  have HS2 := hid (HS1.out.trans h2)
  clear h2 HS1 p1 o1 q1 d0 d1 d2 d3 df HO
  obtain ⟨c0, c1, c2, c3, c4, c5, c6, c7, c8, c9, c10, c11, c12, cf⟩ := p2.cells
  obtain ⟨d0, d1, d2, d3, df⟩ := o2.cells
  obtain ⟨k0, k1, k2, k3, k4, k5, k6, k7, k8, k9, k10, k11, k12, kf⟩ := q2.cells
  go_wp2_with fail
  refine bodyPost_ret (Mb.rest3 (Mb.put (Mb.other q2 _ _ _ (by omega)) _ _ _ _ _ _ _ _ _ _ _ _ _) rfl _ _ _ rfl rfl rfl) rfl ⟨rfl, ?_⟩
  repeat (first | refine setC_fr ?_ _ _ _ (by omega) | with_reducible exact HS2.out)
theorem ract_p4 (m : Mv) (a b c : Int) (hm : mayB m = true) (hc : chkO 4 a b c = 0) (ha1 : 1 ≤ a) (ha2 : a ≤ 3) (he1 : 0 ≤ m.en) (he2 : m.en ≤ 100) (h0 : (m.ou == 0) = true) (hco : (m.co == 0) = true) (hen : 10 * a ≤ m.en) (w : World) (ht : OTab w) : Calls Tryd.prog 15 #[mv m, od 4 a b c] w fun e w' => e = .returned (.tuple #[mv { m with en := m.en - 10 * a, co := 4 * a }, .bool true, .int .i64 0]) ∧ Still w w' := by
  have A0 := Still.alloc w (.cells (mcs m) 25)
  have A1 := Still.alloc (newM w m) (.cells #[.int .i64 4, .int .i64 a, .int .i64 b, .int .i64 c] 32)
  have A2 := Still.alloc (newO (newM w m) 4 a b c) (.cells (mcs zM) 25)
  have p0 := ((newM_mb w m).still A1).still A2
  have o0 := (newO_orb (newM w m) 4 a b c).still A2
  have q0 := newM_mb (newO (newM w m) 4 a b c) zM
  simp only [size_alloc] at o0 q0
  have HS0 := hid ((A0.trans A1).trans A2)
  clear A0 A1 A2
  obtain ⟨c0, c1, c2, c3, c4, c5, c6, c7, c8, c9, c10, c11, c12, cf⟩ := p0.cells
  obtain ⟨d0, d1, d2, d3, df⟩ := o0.cells
  have H := hid (fun w => rcheck8_any m w)
  rw [show chkM m = 0 by unfold chkM; rw [hm]; rfl] at H
  have HO := hid (fun u (hu : Still w u) => rchk_any 4 a b c u (ht.still hu))
  rw [hc] at HO
  clear hm hc
  go_enter Tryd.func15, Tryd.ntmps15
  go_wp2_with fail
  refine (H.out _).mono ?_
  rintro e w1 ⟨rfl, h1⟩
  have p1 := p0.still h1
  have o1 := o0.still h1
  have q1 := q0.still h1
  have HS1 := hid (HS0.out.trans h1)
  clear h1 HS0 p0 o0 q0 c0 c1 c2 c3 c4 c5 c6 c7 c8 c9 c10 c11 c12 cf d0 d1 d2 d3 df H
  obtain ⟨d0, d1, d2, d3, df⟩ := o1.cells
  go_wp2_with fail
  refine (HO.out _ HS1.out).mono ?_
  rintro e w2 ⟨rfl, h2⟩
  have p2 := p1.still h2
  have o2 := o1.still h2
  have q2 := q1.still h2
  have HS2 := hid (HS1.out.trans h2)
  clear h2 HS1 p1 o1 q1 d0 d1 d2 d3 df HO
  obtain ⟨c0, c1, c2, c3, c4, c5, c6, c7, c8, c9, c10, c11, c12, cf⟩ := p2.cells
  obtain ⟨d0, d1, d2, d3, df⟩ := o2.cells
  obtain ⟨k0, k1, k2, k3, k4, k5, k6, k7, k8, k9, k10, k11, k12, kf⟩ := q2.cells
  go_wp2_with fail
  refine bodyPost_ret (Mb.rest3 (Mb.put (Mb.other (Mb.other q2 _ _ _ (by omega)) _ _ _ (by omega)) _ _ _ _ _ _ _ _ _ _ _ _ _) rfl _ _ _ rfl rfl rfl) rfl ⟨rfl, ?_⟩
  repeat (first | refine setC_fr ?_ _ _ _ (by omega) | with_reducible exact HS2.out)
theorem ract_p5 (m : Mv) (a b c : Int) (hm : mayB m = true) (hc : chkO 5 a b c = 0) (h0 : (m.ou == 0) = true) (ha0 : (a == 0) = true) (ha1 : (a == 1) = false) (w : World) (ht : OTab w) : Calls Tryd.prog 15 #[mv m, od 5 a b c] w fun e w' => e = .returned (.tuple #[mv { m with sh := false }, .bool true, .int .i64 0]) ∧ Still w w' := by
  have A0 := Still.alloc w (.cells (mcs m) 25)
  have A1 := Still.alloc (newM w m) (.cells #[.int .i64 5, .int .i64 a, .int .i64 b, .int .i64 c] 32)
  have A2 := Still.alloc (newO (newM w m) 5 a b c) (.cells (mcs zM) 25)
  have p0 := ((newM_mb w m).still A1).still A2
  have o0 := (newO_orb (newM w m) 5 a b c).still A2
  have q0 := newM_mb (newO (newM w m) 5 a b c) zM
  simp only [size_alloc] at o0 q0
  have HS0 := hid ((A0.trans A1).trans A2)
  clear A0 A1 A2
  obtain ⟨c0, c1, c2, c3, c4, c5, c6, c7, c8, c9, c10, c11, c12, cf⟩ := p0.cells
  obtain ⟨d0, d1, d2, d3, df⟩ := o0.cells
  have H := hid (fun w => rcheck8_any m w)
  rw [show chkM m = 0 by unfold chkM; rw [hm]; rfl] at H
  have HO := hid (fun u (hu : Still w u) => rchk_any 5 a b c u (ht.still hu))
  rw [hc] at HO
  clear hm hc
  go_enter Tryd.func15, Tryd.ntmps15
  go_wp2_with fail
  refine (H.out _).mono ?_
  rintro e w1 ⟨rfl, h1⟩
  have p1 := p0.still h1
  have o1 := o0.still h1
  have q1 := q0.still h1
  have HS1 := hid (HS0.out.trans h1)
  clear h1 HS0 p0 o0 q0 c0 c1 c2 c3 c4 c5 c6 c7 c8 c9 c10 c11 c12 cf d0 d1 d2 d3 df H
  obtain ⟨d0, d1, d2, d3, df⟩ := o1.cells
  go_wp2_with fail
  refine (HO.out _ HS1.out).mono ?_
  rintro e w2 ⟨rfl, h2⟩
  have p2 := p1.still h2
  have o2 := o1.still h2
  have q2 := q1.still h2
  have HS2 := hid (HS1.out.trans h2)
  clear h2 HS1 p1 o1 q1 d0 d1 d2 d3 df HO
  obtain ⟨c0, c1, c2, c3, c4, c5, c6, c7, c8, c9, c10, c11, c12, cf⟩ := p2.cells
  obtain ⟨d0, d1, d2, d3, df⟩ := o2.cells
  obtain ⟨k0, k1, k2, k3, k4, k5, k6, k7, k8, k9, k10, k11, k12, kf⟩ := q2.cells
  go_wp2_with fail
  refine bodyPost_ret (Mb.rest3 (Mb.put (Mb.other q2 _ _ _ (by omega)) _ _ _ _ _ _ _ _ _ _ _ _ _) rfl _ _ _ rfl rfl rfl) rfl ⟨rfl, ?_⟩
  repeat (first | refine setC_fr ?_ _ _ _ (by omega) | with_reducible exact HS2.out)
theorem ract_q5 (m : Mv) (a b c : Int) (hm : mayB m = true) (hc : chkO 5 a b c = 0) (h0 : (m.ou == 0) = true) (ha0 : (a == 0) = false) (ha1 : (a == 1) = true) (hen : 0 < m.en) (w : World) (ht : OTab w) : Calls Tryd.prog 15 #[mv m, od 5 a b c] w fun e w' => e = .returned (.tuple #[mv { m with sh := true }, .bool true, .int .i64 0]) ∧ Still w w' := by
  have A0 := Still.alloc w (.cells (mcs m) 25)
  have A1 := Still.alloc (newM w m) (.cells #[.int .i64 5, .int .i64 a, .int .i64 b, .int .i64 c] 32)
  have A2 := Still.alloc (newO (newM w m) 5 a b c) (.cells (mcs zM) 25)
  have p0 := ((newM_mb w m).still A1).still A2
  have o0 := (newO_orb (newM w m) 5 a b c).still A2
  have q0 := newM_mb (newO (newM w m) 5 a b c) zM
  simp only [size_alloc] at o0 q0
  have HS0 := hid ((A0.trans A1).trans A2)
  clear A0 A1 A2
  obtain ⟨c0, c1, c2, c3, c4, c5, c6, c7, c8, c9, c10, c11, c12, cf⟩ := p0.cells
  obtain ⟨d0, d1, d2, d3, df⟩ := o0.cells
  have H := hid (fun w => rcheck8_any m w)
  rw [show chkM m = 0 by unfold chkM; rw [hm]; rfl] at H
  have HO := hid (fun u (hu : Still w u) => rchk_any 5 a b c u (ht.still hu))
  rw [hc] at HO
  clear hm hc
  go_enter Tryd.func15, Tryd.ntmps15
  go_wp2_with fail
  refine (H.out _).mono ?_
  rintro e w1 ⟨rfl, h1⟩
  have p1 := p0.still h1
  have o1 := o0.still h1
  have q1 := q0.still h1
  have HS1 := hid (HS0.out.trans h1)
  clear h1 HS0 p0 o0 q0 c0 c1 c2 c3 c4 c5 c6 c7 c8 c9 c10 c11 c12 cf d0 d1 d2 d3 df H
  obtain ⟨d0, d1, d2, d3, df⟩ := o1.cells
  go_wp2_with fail
  refine (HO.out _ HS1.out).mono ?_
  rintro e w2 ⟨rfl, h2⟩
  have p2 := p1.still h2
  have o2 := o1.still h2
  have q2 := q1.still h2
  have HS2 := hid (HS1.out.trans h2)
  clear h2 HS1 p1 o1 q1 d0 d1 d2 d3 df HO
  obtain ⟨c0, c1, c2, c3, c4, c5, c6, c7, c8, c9, c10, c11, c12, cf⟩ := p2.cells
  obtain ⟨d0, d1, d2, d3, df⟩ := o2.cells
  obtain ⟨k0, k1, k2, k3, k4, k5, k6, k7, k8, k9, k10, k11, k12, kf⟩ := q2.cells
  go_wp2_with fail
  refine bodyPost_ret (Mb.rest3 (Mb.put (Mb.other q2 _ _ _ (by omega)) _ _ _ _ _ _ _ _ _ _ _ _ _) rfl _ _ _ rfl rfl rfl) rfl ⟨rfl, ?_⟩
  repeat (first | refine setC_fr ?_ _ _ _ (by omega) | with_reducible exact HS2.out)
theorem ract_p7 (m : Mv) (a b c : Int) (hm : mayB m = true) (hc : chkO 7 a b c = 0) (h0 : (m.ou == 0) = true) (w : World) (ht : OTab w) : Calls Tryd.prog 15 #[mv m, od 7 a b c] w fun e w' => e = .returned (.tuple #[mv { m with sd := a }, .bool true, .int .i64 0]) ∧ Still w w' := by
  have A0 := Still.alloc w (.cells (mcs m) 25)
  have A1 := Still.alloc (newM w m) (.cells #[.int .i64 7, .int .i64 a, .int .i64 b, .int .i64 c] 32)
  have A2 := Still.alloc (newO (newM w m) 7 a b c) (.cells (mcs zM) 25)
  have p0 := ((newM_mb w m).still A1).still A2
  have o0 := (newO_orb (newM w m) 7 a b c).still A2
  have q0 := newM_mb (newO (newM w m) 7 a b c) zM
  simp only [size_alloc] at o0 q0
  have HS0 := hid ((A0.trans A1).trans A2)
  clear A0 A1 A2
  obtain ⟨c0, c1, c2, c3, c4, c5, c6, c7, c8, c9, c10, c11, c12, cf⟩ := p0.cells
  obtain ⟨d0, d1, d2, d3, df⟩ := o0.cells
  have H := hid (fun w => rcheck8_any m w)
  rw [show chkM m = 0 by unfold chkM; rw [hm]; rfl] at H
  have HO := hid (fun u (hu : Still w u) => rchk_any 7 a b c u (ht.still hu))
  rw [hc] at HO
  clear hm hc
  go_enter Tryd.func15, Tryd.ntmps15
  go_wp2_with fail
  refine (H.out _).mono ?_
  rintro e w1 ⟨rfl, h1⟩
  have p1 := p0.still h1
  have o1 := o0.still h1
  have q1 := q0.still h1
  have HS1 := hid (HS0.out.trans h1)
  clear h1 HS0 p0 o0 q0 c0 c1 c2 c3 c4 c5 c6 c7 c8 c9 c10 c11 c12 cf d0 d1 d2 d3 df H
  obtain ⟨d0, d1, d2, d3, df⟩ := o1.cells
  go_wp2_with fail
  refine (HO.out _ HS1.out).mono ?_
  rintro e w2 ⟨rfl, h2⟩
  have p2 := p1.still h2
  have o2 := o1.still h2
  have q2 := q1.still h2
  have HS2 := hid (HS1.out.trans h2)
  clear h2 HS1 p1 o1 q1 d0 d1 d2 d3 df HO
  obtain ⟨c0, c1, c2, c3, c4, c5, c6, c7, c8, c9, c10, c11, c12, cf⟩ := p2.cells
  obtain ⟨d0, d1, d2, d3, df⟩ := o2.cells
  obtain ⟨k0, k1, k2, k3, k4, k5, k6, k7, k8, k9, k10, k11, k12, kf⟩ := q2.cells
  go_wp2_with fail
  refine bodyPost_ret (Mb.rest3 (Mb.put (Mb.other q2 _ _ _ (by omega)) _ _ _ _ _ _ _ _ _ _ _ _ _) rfl _ _ _ rfl rfl rfl) rfl ⟨rfl, ?_⟩
  repeat (first | refine setC_fr ?_ _ _ _ (by omega) | with_reducible exact HS2.out)
end Go.Proofs.YtaalbkmdmocdeaaDoor
namespace Go.Proofs.YtaalbkmdmocdeaaDoor
open Go.RowKit
open Pu Gp Ap Vp Np
set_option maxRecDepth 100000

theorem ract_n2 (m : Mv) (a b c : Int) (hm : mayB m = true) (hc : chkO 2 a b c = 0) (h0 : (m.ou == 0) = false) (w : World) (ht : OTab w) : Calls Tryd.prog 15 #[mv m, od 2 a b c] w fun e w' => e = .returned (.tuple #[mv m, .bool false, .int .i64 0]) ∧ Still w w' := by
  have A0 := Still.alloc w (.cells (mcs m) 25)
  have A1 := Still.alloc (newM w m) (.cells #[.int .i64 2, .int .i64 a, .int .i64 b, .int .i64 c] 32)
  have A2 := Still.alloc (newO (newM w m) 2 a b c) (.cells (mcs zM) 25)
  have p0 := ((newM_mb w m).still A1).still A2
  have o0 := (newO_orb (newM w m) 2 a b c).still A2
  have q0 := newM_mb (newO (newM w m) 2 a b c) zM
  simp only [size_alloc] at o0 q0
  have HS0 := hid ((A0.trans A1).trans A2)
  clear A0 A1 A2
  obtain ⟨c0, c1, c2, c3, c4, c5, c6, c7, c8, c9, c10, c11, c12, cf⟩ := p0.cells
  obtain ⟨d0, d1, d2, d3, df⟩ := o0.cells
  have H := hid (fun w => rcheck8_any m w)
  rw [show chkM m = 0 by unfold chkM; rw [hm]; rfl] at H
  have HO := hid (fun u (hu : Still w u) => rchk_any 2 a b c u (ht.still hu))
  rw [hc] at HO
  clear hm hc
  go_enter Tryd.func15, Tryd.ntmps15
  go_wp2_with fail
  refine (H.out _).mono ?_
  rintro e w1 ⟨rfl, h1⟩
  have p1 := p0.still h1
  have o1 := o0.still h1
  have q1 := q0.still h1
  have HS1 := hid (HS0.out.trans h1)
  clear h1 HS0 p0 o0 q0 c0 c1 c2 c3 c4 c5 c6 c7 c8 c9 c10 c11 c12 cf d0 d1 d2 d3 df H
  obtain ⟨d0, d1, d2, d3, df⟩ := o1.cells
  go_wp2_with fail
  refine (HO.out _ HS1.out).mono ?_
  rintro e w2 ⟨rfl, h2⟩
  have p2 := p1.still h2
  have o2 := o1.still h2
  have q2 := q1.still h2
  have HS2 := hid (HS1.out.trans h2)
  clear h2 HS1 p1 o1 q1 d0 d1 d2 d3 df HO
  obtain ⟨c0, c1, c2, c3, c4, c5, c6, c7, c8, c9, c10, c11, c12, cf⟩ := p2.cells
  obtain ⟨d0, d1, d2, d3, df⟩ := o2.cells
  obtain ⟨k0, k1, k2, k3, k4, k5, k6, k7, k8, k9, k10, k11, k12, kf⟩ := q2.cells
  go_wp2_with fail
  refine bodyPost_ret (Mb.rest3 (Mb.put q2 _ _ _ _ _ _ _ _ _ _ _ _ _) rfl _ _ _ rfl rfl rfl) rfl ⟨rfl, ?_⟩
  repeat (first | refine setC_fr ?_ _ _ _ (by omega) | with_reducible exact HS2.out)
theorem ract_n3 (m : Mv) (a b c : Int) (hm : mayB m = true) (hc : chkO 3 a b c = 0) (h0 : (m.ou == 0) = false) (w : World) (ht : OTab w) : Calls Tryd.prog 15 #[mv m, od 3 a b c] w fun e w' => e = .returned (.tuple #[mv m, .bool false, .int .i64 0]) ∧ Still w w' := by
  have A0 := Still.alloc w (.cells (mcs m) 25)
  have A1 := Still.alloc (newM w m) (.cells #[.int .i64 3, .int .i64 a, .int .i64 b, .int .i64 c] 32)
  have A2 := Still.alloc (newO (newM w m) 3 a b c) (.cells (mcs zM) 25)
  have p0 := ((newM_mb w m).still A1).still A2
  have o0 := (newO_orb (newM w m) 3 a b c).still A2
  have q0 := newM_mb (newO (newM w m) 3 a b c) zM
  simp only [size_alloc] at o0 q0
  have HS0 := hid ((A0.trans A1).trans A2)
  clear A0 A1 A2
  obtain ⟨c0, c1, c2, c3, c4, c5, c6, c7, c8, c9, c10, c11, c12, cf⟩ := p0.cells
  obtain ⟨d0, d1, d2, d3, df⟩ := o0.cells
  have H := hid (fun w => rcheck8_any m w)
  rw [show chkM m = 0 by unfold chkM; rw [hm]; rfl] at H
  have HO := hid (fun u (hu : Still w u) => rchk_any 3 a b c u (ht.still hu))
  rw [hc] at HO
  clear hm hc
  go_enter Tryd.func15, Tryd.ntmps15
  go_wp2_with fail
  refine (H.out _).mono ?_
  rintro e w1 ⟨rfl, h1⟩
  have p1 := p0.still h1
  have o1 := o0.still h1
  have q1 := q0.still h1
  have HS1 := hid (HS0.out.trans h1)
  clear h1 HS0 p0 o0 q0 c0 c1 c2 c3 c4 c5 c6 c7 c8 c9 c10 c11 c12 cf d0 d1 d2 d3 df H
  obtain ⟨d0, d1, d2, d3, df⟩ := o1.cells
  go_wp2_with fail
  refine (HO.out _ HS1.out).mono ?_
  rintro e w2 ⟨rfl, h2⟩
  have p2 := p1.still h2
  have o2 := o1.still h2
  have q2 := q1.still h2
  have HS2 := hid (HS1.out.trans h2)
  clear h2 HS1 p1 o1 q1 d0 d1 d2 d3 df HO
  obtain ⟨c0, c1, c2, c3, c4, c5, c6, c7, c8, c9, c10, c11, c12, cf⟩ := p2.cells
  obtain ⟨d0, d1, d2, d3, df⟩ := o2.cells
  obtain ⟨k0, k1, k2, k3, k4, k5, k6, k7, k8, k9, k10, k11, k12, kf⟩ := q2.cells
  go_wp2_with fail
  refine bodyPost_ret (Mb.rest3 (Mb.put q2 _ _ _ _ _ _ _ _ _ _ _ _ _) rfl _ _ _ rfl rfl rfl) rfl ⟨rfl, ?_⟩
  repeat (first | refine setC_fr ?_ _ _ _ (by omega) | with_reducible exact HS2.out)
theorem ract_n4 (m : Mv) (a b c : Int) (hm : mayB m = true) (hc : chkO 4 a b c = 0) (h0 : (m.ou == 0) = false) (w : World) (ht : OTab w) : Calls Tryd.prog 15 #[mv m, od 4 a b c] w fun e w' => e = .returned (.tuple #[mv m, .bool false, .int .i64 0]) ∧ Still w w' := by
  have A0 := Still.alloc w (.cells (mcs m) 25)
  have A1 := Still.alloc (newM w m) (.cells #[.int .i64 4, .int .i64 a, .int .i64 b, .int .i64 c] 32)
  have A2 := Still.alloc (newO (newM w m) 4 a b c) (.cells (mcs zM) 25)
  have p0 := ((newM_mb w m).still A1).still A2
  have o0 := (newO_orb (newM w m) 4 a b c).still A2
  have q0 := newM_mb (newO (newM w m) 4 a b c) zM
  simp only [size_alloc] at o0 q0
  have HS0 := hid ((A0.trans A1).trans A2)
  clear A0 A1 A2
  obtain ⟨c0, c1, c2, c3, c4, c5, c6, c7, c8, c9, c10, c11, c12, cf⟩ := p0.cells
  obtain ⟨d0, d1, d2, d3, df⟩ := o0.cells
  have H := hid (fun w => rcheck8_any m w)
  rw [show chkM m = 0 by unfold chkM; rw [hm]; rfl] at H
  have HO := hid (fun u (hu : Still w u) => rchk_any 4 a b c u (ht.still hu))
  rw [hc] at HO
  clear hm hc
  go_enter Tryd.func15, Tryd.ntmps15
  go_wp2_with fail
  refine (H.out _).mono ?_
  rintro e w1 ⟨rfl, h1⟩
  have p1 := p0.still h1
  have o1 := o0.still h1
  have q1 := q0.still h1
  have HS1 := hid (HS0.out.trans h1)
  clear h1 HS0 p0 o0 q0 c0 c1 c2 c3 c4 c5 c6 c7 c8 c9 c10 c11 c12 cf d0 d1 d2 d3 df H
  obtain ⟨d0, d1, d2, d3, df⟩ := o1.cells
  go_wp2_with fail
  refine (HO.out _ HS1.out).mono ?_
  rintro e w2 ⟨rfl, h2⟩
  have p2 := p1.still h2
  have o2 := o1.still h2
  have q2 := q1.still h2
  have HS2 := hid (HS1.out.trans h2)
  clear h2 HS1 p1 o1 q1 d0 d1 d2 d3 df HO
  obtain ⟨c0, c1, c2, c3, c4, c5, c6, c7, c8, c9, c10, c11, c12, cf⟩ := p2.cells
  obtain ⟨d0, d1, d2, d3, df⟩ := o2.cells
  obtain ⟨k0, k1, k2, k3, k4, k5, k6, k7, k8, k9, k10, k11, k12, kf⟩ := q2.cells
  go_wp2_with fail
  refine bodyPost_ret (Mb.rest3 (Mb.put q2 _ _ _ _ _ _ _ _ _ _ _ _ _) rfl _ _ _ rfl rfl rfl) rfl ⟨rfl, ?_⟩
  repeat (first | refine setC_fr ?_ _ _ _ (by omega) | with_reducible exact HS2.out)
theorem ract_n5 (m : Mv) (a b c : Int) (hm : mayB m = true) (hc : chkO 5 a b c = 0) (h0 : (m.ou == 0) = false) (w : World) (ht : OTab w) : Calls Tryd.prog 15 #[mv m, od 5 a b c] w fun e w' => e = .returned (.tuple #[mv m, .bool false, .int .i64 0]) ∧ Still w w' := by
  have A0 := Still.alloc w (.cells (mcs m) 25)
  have A1 := Still.alloc (newM w m) (.cells #[.int .i64 5, .int .i64 a, .int .i64 b, .int .i64 c] 32)
  have A2 := Still.alloc (newO (newM w m) 5 a b c) (.cells (mcs zM) 25)
  have p0 := ((newM_mb w m).still A1).still A2
  have o0 := (newO_orb (newM w m) 5 a b c).still A2
  have q0 := newM_mb (newO (newM w m) 5 a b c) zM
  simp only [size_alloc] at o0 q0
  have HS0 := hid ((A0.trans A1).trans A2)
  clear A0 A1 A2
  obtain ⟨c0, c1, c2, c3, c4, c5, c6, c7, c8, c9, c10, c11, c12, cf⟩ := p0.cells
  obtain ⟨d0, d1, d2, d3, df⟩ := o0.cells
  have H := hid (fun w => rcheck8_any m w)
  rw [show chkM m = 0 by unfold chkM; rw [hm]; rfl] at H
  have HO := hid (fun u (hu : Still w u) => rchk_any 5 a b c u (ht.still hu))
  rw [hc] at HO
  clear hm hc
  go_enter Tryd.func15, Tryd.ntmps15
  go_wp2_with fail
  refine (H.out _).mono ?_
  rintro e w1 ⟨rfl, h1⟩
  have p1 := p0.still h1
  have o1 := o0.still h1
  have q1 := q0.still h1
  have HS1 := hid (HS0.out.trans h1)
  clear h1 HS0 p0 o0 q0 c0 c1 c2 c3 c4 c5 c6 c7 c8 c9 c10 c11 c12 cf d0 d1 d2 d3 df H
  obtain ⟨d0, d1, d2, d3, df⟩ := o1.cells
  go_wp2_with fail
  refine (HO.out _ HS1.out).mono ?_
  rintro e w2 ⟨rfl, h2⟩
  have p2 := p1.still h2
  have o2 := o1.still h2
  have q2 := q1.still h2
  have HS2 := hid (HS1.out.trans h2)
  clear h2 HS1 p1 o1 q1 d0 d1 d2 d3 df HO
  obtain ⟨c0, c1, c2, c3, c4, c5, c6, c7, c8, c9, c10, c11, c12, cf⟩ := p2.cells
  obtain ⟨d0, d1, d2, d3, df⟩ := o2.cells
  obtain ⟨k0, k1, k2, k3, k4, k5, k6, k7, k8, k9, k10, k11, k12, kf⟩ := q2.cells
  go_wp2_with fail
  refine bodyPost_ret (Mb.rest3 (Mb.put q2 _ _ _ _ _ _ _ _ _ _ _ _ _) rfl _ _ _ rfl rfl rfl) rfl ⟨rfl, ?_⟩
  repeat (first | refine setC_fr ?_ _ _ _ (by omega) | with_reducible exact HS2.out)
theorem ract_n6 (m : Mv) (a b c : Int) (hm : mayB m = true) (hc : chkO 6 a b c = 0) (h0 : (m.ou == 0) = false) (w : World) (ht : OTab w) : Calls Tryd.prog 15 #[mv m, od 6 a b c] w fun e w' => e = .returned (.tuple #[mv m, .bool false, .int .i64 0]) ∧ Still w w' := by
  have A0 := Still.alloc w (.cells (mcs m) 25)
  have A1 := Still.alloc (newM w m) (.cells #[.int .i64 6, .int .i64 a, .int .i64 b, .int .i64 c] 32)
  have A2 := Still.alloc (newO (newM w m) 6 a b c) (.cells (mcs zM) 25)
  have p0 := ((newM_mb w m).still A1).still A2
  have o0 := (newO_orb (newM w m) 6 a b c).still A2
  have q0 := newM_mb (newO (newM w m) 6 a b c) zM
  simp only [size_alloc] at o0 q0
  have HS0 := hid ((A0.trans A1).trans A2)
  clear A0 A1 A2
  obtain ⟨c0, c1, c2, c3, c4, c5, c6, c7, c8, c9, c10, c11, c12, cf⟩ := p0.cells
  obtain ⟨d0, d1, d2, d3, df⟩ := o0.cells
  have H := hid (fun w => rcheck8_any m w)
  rw [show chkM m = 0 by unfold chkM; rw [hm]; rfl] at H
  have HO := hid (fun u (hu : Still w u) => rchk_any 6 a b c u (ht.still hu))
  rw [hc] at HO
  clear hm hc
  go_enter Tryd.func15, Tryd.ntmps15
  go_wp2_with fail
  refine (H.out _).mono ?_
  rintro e w1 ⟨rfl, h1⟩
  have p1 := p0.still h1
  have o1 := o0.still h1
  have q1 := q0.still h1
  have HS1 := hid (HS0.out.trans h1)
  clear h1 HS0 p0 o0 q0 c0 c1 c2 c3 c4 c5 c6 c7 c8 c9 c10 c11 c12 cf d0 d1 d2 d3 df H
  obtain ⟨d0, d1, d2, d3, df⟩ := o1.cells
  go_wp2_with fail
  refine (HO.out _ HS1.out).mono ?_
  rintro e w2 ⟨rfl, h2⟩
  have p2 := p1.still h2
  have o2 := o1.still h2
  have q2 := q1.still h2
  have HS2 := hid (HS1.out.trans h2)
  clear h2 HS1 p1 o1 q1 d0 d1 d2 d3 df HO
  obtain ⟨c0, c1, c2, c3, c4, c5, c6, c7, c8, c9, c10, c11, c12, cf⟩ := p2.cells
  obtain ⟨d0, d1, d2, d3, df⟩ := o2.cells
  obtain ⟨k0, k1, k2, k3, k4, k5, k6, k7, k8, k9, k10, k11, k12, kf⟩ := q2.cells
  go_wp2_with fail
  refine bodyPost_ret (Mb.rest3 (Mb.put q2 _ _ _ _ _ _ _ _ _ _ _ _ _) rfl _ _ _ rfl rfl rfl) rfl ⟨rfl, ?_⟩
  repeat (first | refine setC_fr ?_ _ _ _ (by omega) | with_reducible exact HS2.out)
theorem ract_n7 (m : Mv) (a b c : Int) (hm : mayB m = true) (hc : chkO 7 a b c = 0) (h0 : (m.ou == 0) = false) (w : World) (ht : OTab w) : Calls Tryd.prog 15 #[mv m, od 7 a b c] w fun e w' => e = .returned (.tuple #[mv m, .bool false, .int .i64 0]) ∧ Still w w' := by
  have A0 := Still.alloc w (.cells (mcs m) 25)
  have A1 := Still.alloc (newM w m) (.cells #[.int .i64 7, .int .i64 a, .int .i64 b, .int .i64 c] 32)
  have A2 := Still.alloc (newO (newM w m) 7 a b c) (.cells (mcs zM) 25)
  have p0 := ((newM_mb w m).still A1).still A2
  have o0 := (newO_orb (newM w m) 7 a b c).still A2
  have q0 := newM_mb (newO (newM w m) 7 a b c) zM
  simp only [size_alloc] at o0 q0
  have HS0 := hid ((A0.trans A1).trans A2)
  clear A0 A1 A2
  obtain ⟨c0, c1, c2, c3, c4, c5, c6, c7, c8, c9, c10, c11, c12, cf⟩ := p0.cells
  obtain ⟨d0, d1, d2, d3, df⟩ := o0.cells
  have H := hid (fun w => rcheck8_any m w)
  rw [show chkM m = 0 by unfold chkM; rw [hm]; rfl] at H
  have HO := hid (fun u (hu : Still w u) => rchk_any 7 a b c u (ht.still hu))
  rw [hc] at HO
  clear hm hc
  go_enter Tryd.func15, Tryd.ntmps15
  go_wp2_with fail
  refine (H.out _).mono ?_
  rintro e w1 ⟨rfl, h1⟩
  have p1 := p0.still h1
  have o1 := o0.still h1
  have q1 := q0.still h1
  have HS1 := hid (HS0.out.trans h1)
  clear h1 HS0 p0 o0 q0 c0 c1 c2 c3 c4 c5 c6 c7 c8 c9 c10 c11 c12 cf d0 d1 d2 d3 df H
  obtain ⟨d0, d1, d2, d3, df⟩ := o1.cells
  go_wp2_with fail
  refine (HO.out _ HS1.out).mono ?_
  rintro e w2 ⟨rfl, h2⟩
  have p2 := p1.still h2
  have o2 := o1.still h2
  have q2 := q1.still h2
  have HS2 := hid (HS1.out.trans h2)
  clear h2 HS1 p1 o1 q1 d0 d1 d2 d3 df HO
  obtain ⟨c0, c1, c2, c3, c4, c5, c6, c7, c8, c9, c10, c11, c12, cf⟩ := p2.cells
  obtain ⟨d0, d1, d2, d3, df⟩ := o2.cells
  obtain ⟨k0, k1, k2, k3, k4, k5, k6, k7, k8, k9, k10, k11, k12, kf⟩ := q2.cells
  go_wp2_with fail
  refine bodyPost_ret (Mb.rest3 (Mb.put q2 _ _ _ _ _ _ _ _ _ _ _ _ _) rfl _ _ _ rfl rfl rfl) rfl ⟨rfl, ?_⟩
  repeat (first | refine setC_fr ?_ _ _ _ (by omega) | with_reducible exact HS2.out)
theorem ract_m4 (m : Mv) (a b c : Int) (hm : mayB m = true) (hc : chkO 4 a b c = 0) (h0 : (m.ou == 0) = true) (hco : (m.co == 0) = false) (w : World) (ht : OTab w) : Calls Tryd.prog 15 #[mv m, od 4 a b c] w fun e w' => e = .returned (.tuple #[mv m, .bool false, .int .i64 0]) ∧ Still w w' := by
  have A0 := Still.alloc w (.cells (mcs m) 25)
  have A1 := Still.alloc (newM w m) (.cells #[.int .i64 4, .int .i64 a, .int .i64 b, .int .i64 c] 32)
  have A2 := Still.alloc (newO (newM w m) 4 a b c) (.cells (mcs zM) 25)
  have p0 := ((newM_mb w m).still A1).still A2
  have o0 := (newO_orb (newM w m) 4 a b c).still A2
  have q0 := newM_mb (newO (newM w m) 4 a b c) zM
  simp only [size_alloc] at o0 q0
  have HS0 := hid ((A0.trans A1).trans A2)
  clear A0 A1 A2
  obtain ⟨c0, c1, c2, c3, c4, c5, c6, c7, c8, c9, c10, c11, c12, cf⟩ := p0.cells
  obtain ⟨d0, d1, d2, d3, df⟩ := o0.cells
  have H := hid (fun w => rcheck8_any m w)
  rw [show chkM m = 0 by unfold chkM; rw [hm]; rfl] at H
  have HO := hid (fun u (hu : Still w u) => rchk_any 4 a b c u (ht.still hu))
  rw [hc] at HO
  clear hm hc
  go_enter Tryd.func15, Tryd.ntmps15
  go_wp2_with fail
  refine (H.out _).mono ?_
  rintro e w1 ⟨rfl, h1⟩
  have p1 := p0.still h1
  have o1 := o0.still h1
  have q1 := q0.still h1
  have HS1 := hid (HS0.out.trans h1)
  clear h1 HS0 p0 o0 q0 c0 c1 c2 c3 c4 c5 c6 c7 c8 c9 c10 c11 c12 cf d0 d1 d2 d3 df H
  obtain ⟨d0, d1, d2, d3, df⟩ := o1.cells
  go_wp2_with fail
  refine (HO.out _ HS1.out).mono ?_
  rintro e w2 ⟨rfl, h2⟩
  have p2 := p1.still h2
  have o2 := o1.still h2
  have q2 := q1.still h2
  have HS2 := hid (HS1.out.trans h2)
  clear h2 HS1 p1 o1 q1 d0 d1 d2 d3 df HO
  obtain ⟨c0, c1, c2, c3, c4, c5, c6, c7, c8, c9, c10, c11, c12, cf⟩ := p2.cells
  obtain ⟨d0, d1, d2, d3, df⟩ := o2.cells
  obtain ⟨k0, k1, k2, k3, k4, k5, k6, k7, k8, k9, k10, k11, k12, kf⟩ := q2.cells
  go_wp2_with fail
  refine bodyPost_ret (Mb.rest3 (Mb.put q2 _ _ _ _ _ _ _ _ _ _ _ _ _) rfl _ _ _ rfl rfl rfl) rfl ⟨rfl, ?_⟩
  repeat (first | refine setC_fr ?_ _ _ _ (by omega) | with_reducible exact HS2.out)
theorem ract_l4 (m : Mv) (a b c : Int) (hm : mayB m = true) (hc : chkO 4 a b c = 0) (ha1 : 1 ≤ a) (ha2 : a ≤ 3) (h0 : (m.ou == 0) = true) (hco : (m.co == 0) = true) (hen : decide (10 * a ≤ m.en) = false) (w : World) (ht : OTab w) : Calls Tryd.prog 15 #[mv m, od 4 a b c] w fun e w' => e = .returned (.tuple #[mv m, .bool false, .int .i64 0]) ∧ Still w w' := by
  have A0 := Still.alloc w (.cells (mcs m) 25)
  have A1 := Still.alloc (newM w m) (.cells #[.int .i64 4, .int .i64 a, .int .i64 b, .int .i64 c] 32)
  have A2 := Still.alloc (newO (newM w m) 4 a b c) (.cells (mcs zM) 25)
  have p0 := ((newM_mb w m).still A1).still A2
  have o0 := (newO_orb (newM w m) 4 a b c).still A2
  have q0 := newM_mb (newO (newM w m) 4 a b c) zM
  simp only [size_alloc] at o0 q0
  have HS0 := hid ((A0.trans A1).trans A2)
  clear A0 A1 A2
  obtain ⟨c0, c1, c2, c3, c4, c5, c6, c7, c8, c9, c10, c11, c12, cf⟩ := p0.cells
  obtain ⟨d0, d1, d2, d3, df⟩ := o0.cells
  have H := hid (fun w => rcheck8_any m w)
  rw [show chkM m = 0 by unfold chkM; rw [hm]; rfl] at H
  have HO := hid (fun u (hu : Still w u) => rchk_any 4 a b c u (ht.still hu))
  rw [hc] at HO
  clear hm hc
  go_enter Tryd.func15, Tryd.ntmps15
  go_wp2_with fail
  refine (H.out _).mono ?_
  rintro e w1 ⟨rfl, h1⟩
  have p1 := p0.still h1
  have o1 := o0.still h1
  have q1 := q0.still h1
  have HS1 := hid (HS0.out.trans h1)
  clear h1 HS0 p0 o0 q0 c0 c1 c2 c3 c4 c5 c6 c7 c8 c9 c10 c11 c12 cf d0 d1 d2 d3 df H
  obtain ⟨d0, d1, d2, d3, df⟩ := o1.cells
  go_wp2_with fail
  refine (HO.out _ HS1.out).mono ?_
  rintro e w2 ⟨rfl, h2⟩
  have p2 := p1.still h2
  have o2 := o1.still h2
  have q2 := q1.still h2
  have HS2 := hid (HS1.out.trans h2)
  clear h2 HS1 p1 o1 q1 d0 d1 d2 d3 df HO
  obtain ⟨c0, c1, c2, c3, c4, c5, c6, c7, c8, c9, c10, c11, c12, cf⟩ := p2.cells
  obtain ⟨d0, d1, d2, d3, df⟩ := o2.cells
  obtain ⟨k0, k1, k2, k3, k4, k5, k6, k7, k8, k9, k10, k11, k12, kf⟩ := q2.cells
  go_wp2_with fail
  refine bodyPost_ret (Mb.rest3 (Mb.put q2 _ _ _ _ _ _ _ _ _ _ _ _ _) rfl _ _ _ rfl rfl rfl) rfl ⟨rfl, ?_⟩
  repeat (first | refine setC_fr ?_ _ _ _ (by omega) | with_reducible exact HS2.out)
theorem ract_m5 (m : Mv) (a b c : Int) (hm : mayB m = true) (hc : chkO 5 a b c = 0) (h0 : (m.ou == 0) = true) (ha0 : (a == 0) = false) (hen : decide (0 < m.en) = false) (w : World) (ht : OTab w) : Calls Tryd.prog 15 #[mv m, od 5 a b c] w fun e w' => e = .returned (.tuple #[mv m, .bool false, .int .i64 0]) ∧ Still w w' := by
  have A0 := Still.alloc w (.cells (mcs m) 25)
  have A1 := Still.alloc (newM w m) (.cells #[.int .i64 5, .int .i64 a, .int .i64 b, .int .i64 c] 32)
  have A2 := Still.alloc (newO (newM w m) 5 a b c) (.cells (mcs zM) 25)
  have p0 := ((newM_mb w m).still A1).still A2
  have o0 := (newO_orb (newM w m) 5 a b c).still A2
  have q0 := newM_mb (newO (newM w m) 5 a b c) zM
  simp only [size_alloc] at o0 q0
  have HS0 := hid ((A0.trans A1).trans A2)
  clear A0 A1 A2
  obtain ⟨c0, c1, c2, c3, c4, c5, c6, c7, c8, c9, c10, c11, c12, cf⟩ := p0.cells
  obtain ⟨d0, d1, d2, d3, df⟩ := o0.cells
  have H := hid (fun w => rcheck8_any m w)
  rw [show chkM m = 0 by unfold chkM; rw [hm]; rfl] at H
  have HO := hid (fun u (hu : Still w u) => rchk_any 5 a b c u (ht.still hu))
  rw [hc] at HO
  clear hm hc
  go_enter Tryd.func15, Tryd.ntmps15
  go_wp2_with fail
  refine (H.out _).mono ?_
  rintro e w1 ⟨rfl, h1⟩
  have p1 := p0.still h1
  have o1 := o0.still h1
  have q1 := q0.still h1
  have HS1 := hid (HS0.out.trans h1)
  clear h1 HS0 p0 o0 q0 c0 c1 c2 c3 c4 c5 c6 c7 c8 c9 c10 c11 c12 cf d0 d1 d2 d3 df H
  obtain ⟨d0, d1, d2, d3, df⟩ := o1.cells
  go_wp2_with fail
  refine (HO.out _ HS1.out).mono ?_
  rintro e w2 ⟨rfl, h2⟩
  have p2 := p1.still h2
  have o2 := o1.still h2
  have q2 := q1.still h2
  have HS2 := hid (HS1.out.trans h2)
  clear h2 HS1 p1 o1 q1 d0 d1 d2 d3 df HO
  obtain ⟨c0, c1, c2, c3, c4, c5, c6, c7, c8, c9, c10, c11, c12, cf⟩ := p2.cells
  obtain ⟨d0, d1, d2, d3, df⟩ := o2.cells
  obtain ⟨k0, k1, k2, k3, k4, k5, k6, k7, k8, k9, k10, k11, k12, kf⟩ := q2.cells
  go_wp2_with fail
  refine bodyPost_ret (Mb.rest3 (Mb.put q2 _ _ _ _ _ _ _ _ _ _ _ _ _) rfl _ _ _ rfl rfl rfl) rfl ⟨rfl, ?_⟩
  repeat (first | refine setC_fr ?_ _ _ _ (by omega) | with_reducible exact HS2.out)
theorem ract_m6 (m : Mv) (a b c : Int) (hm : mayB m = true) (hc : chkO 6 a b c = 0) (h0 : (m.ou == 0) = true) (hen : decide (20 ≤ m.en) = false) (w : World) (ht : OTab w) : Calls Tryd.prog 15 #[mv m, od 6 a b c] w fun e w' => e = .returned (.tuple #[mv m, .bool false, .int .i64 0]) ∧ Still w w' := by
  have A0 := Still.alloc w (.cells (mcs m) 25)
  have A1 := Still.alloc (newM w m) (.cells #[.int .i64 6, .int .i64 a, .int .i64 b, .int .i64 c] 32)
  have A2 := Still.alloc (newO (newM w m) 6 a b c) (.cells (mcs zM) 25)
  have p0 := ((newM_mb w m).still A1).still A2
  have o0 := (newO_orb (newM w m) 6 a b c).still A2
  have q0 := newM_mb (newO (newM w m) 6 a b c) zM
  simp only [size_alloc] at o0 q0
  have HS0 := hid ((A0.trans A1).trans A2)
  clear A0 A1 A2
  obtain ⟨c0, c1, c2, c3, c4, c5, c6, c7, c8, c9, c10, c11, c12, cf⟩ := p0.cells
  obtain ⟨d0, d1, d2, d3, df⟩ := o0.cells
  have H := hid (fun w => rcheck8_any m w)
  rw [show chkM m = 0 by unfold chkM; rw [hm]; rfl] at H
  have HO := hid (fun u (hu : Still w u) => rchk_any 6 a b c u (ht.still hu))
  rw [hc] at HO
  clear hm hc
  go_enter Tryd.func15, Tryd.ntmps15
  go_wp2_with fail
  refine (H.out _).mono ?_
  rintro e w1 ⟨rfl, h1⟩
  have p1 := p0.still h1
  have o1 := o0.still h1
  have q1 := q0.still h1
  have HS1 := hid (HS0.out.trans h1)
  clear h1 HS0 p0 o0 q0 c0 c1 c2 c3 c4 c5 c6 c7 c8 c9 c10 c11 c12 cf d0 d1 d2 d3 df H
  obtain ⟨d0, d1, d2, d3, df⟩ := o1.cells
  go_wp2_with fail
  refine (HO.out _ HS1.out).mono ?_
  rintro e w2 ⟨rfl, h2⟩
  have p2 := p1.still h2
  have o2 := o1.still h2
  have q2 := q1.still h2
  have HS2 := hid (HS1.out.trans h2)
  clear h2 HS1 p1 o1 q1 d0 d1 d2 d3 df HO
  obtain ⟨c0, c1, c2, c3, c4, c5, c6, c7, c8, c9, c10, c11, c12, cf⟩ := p2.cells
  obtain ⟨d0, d1, d2, d3, df⟩ := o2.cells
  obtain ⟨k0, k1, k2, k3, k4, k5, k6, k7, k8, k9, k10, k11, k12, kf⟩ := q2.cells
  go_wp2_with fail
  refine bodyPost_ret (Mb.rest3 (Mb.put q2 _ _ _ _ _ _ _ _ _ _ _ _ _) rfl _ _ _ rfl rfl rfl) rfl ⟨rfl, ?_⟩
  repeat (first | refine setC_fr ?_ _ _ _ (by omega) | with_reducible exact HS2.out)
end Go.Proofs.YtaalbkmdmocdeaaDoor
namespace Go.Proofs.YtaalbkmdmocdeaaDoor
open Go.RowKit
open Pu Gp Ap Vp Np
set_option maxRecDepth 100000

theorem Mb.enh {w : World} {g : Nat} {m : Mv} (h : Mb w g m) (e : Int) : Mb (w.setCell ⟨g, 8, none⟩ (.int .i64 e)) g { m with en := e } := by
  have h1 := heap_setCell_same w g 8 _ _ (.int .i64 e) h
  exact h1.trans (by kernel_rfl)
theorem ract_p6 (m : Mv) (a b c : Int) (hm : mayB m = true) (hc : chkO 6 a b c = 0) (he1 : 20 ≤ m.en) (he2 : m.en ≤ 100) (h0 : (m.ou == 0) = true) (w : World) (ht : OTab w) (hu : RTab w) : Calls Tryd.prog 15 #[mv m, od 6 a b c] w fun e w' => e = .returned (.tuple #[mv { m with en := m.en - 20, sx := mulf (ux (dir a)) 1024, sy := mulf (uy (dir a)) 1024 }, .bool true, .int .i64 0]) ∧ Still w w' := by
  have A0 := Still.alloc w (.cells (mcs m) 25)
  have A1 := Still.alloc (newM w m) (.cells #[.int .i64 6, .int .i64 a, .int .i64 b, .int .i64 c] 32)
  have A2 := Still.alloc (newO (newM w m) 6 a b c) (.cells (mcs zM) 25)
  have p0 := ((newM_mb w m).still A1).still A2
  have o0 := (newO_orb (newM w m) 6 a b c).still A2
  have q0 := newM_mb (newO (newM w m) 6 a b c) zM
  simp only [size_alloc] at o0 q0
  have HS0 := hid ((A0.trans A1).trans A2)
  clear A0 A1 A2
  obtain ⟨c0, c1, c2, c3, c4, c5, c6, c7, c8, c9, c10, c11, c12, cf⟩ := p0.cells
  obtain ⟨d0, d1, d2, d3, df⟩ := o0.cells
  have H := hid (fun w => rcheck8_any m w)
  rw [show chkM m = 0 by unfold chkM; rw [hm]; rfl] at H
  have HO := hid (fun u (hu : Still w u) => rchk_any 6 a b c u (ht.still hu))
  rw [hc] at HO
  clear hm hc
  go_enter Tryd.func15, Tryd.ntmps15
  go_wp2_with fail
  refine (H.out _).mono ?_
  rintro e w1 ⟨rfl, h1⟩
  have p1 := p0.still h1
  have o1 := o0.still h1
  have q1 := q0.still h1
  have HS1 := hid (HS0.out.trans h1)
  clear h1 HS0 p0 o0 q0 c0 c1 c2 c3 c4 c5 c6 c7 c8 c9 c10 c11 c12 cf d0 d1 d2 d3 df H
  obtain ⟨d0, d1, d2, d3, df⟩ := o1.cells
  go_wp2_with fail
  refine (HO.out _ HS1.out).mono ?_
  rintro e w2 ⟨rfl, h2⟩
  have p2 := p1.still h2
  have o2 := o1.still h2
  have q2 := q1.still h2
  have HS2 := hid (HS1.out.trans h2)
  clear h2 HS1 p1 o1 q1 d0 d1 d2 d3 df HO
  obtain ⟨c0, c1, c2, c3, c4, c5, c6, c7, c8, c9, c10, c11, c12, cf⟩ := p2.cells
  obtain ⟨d0, d1, d2, d3, df⟩ := o2.cells
  obtain ⟨k0, k1, k2, k3, k4, k5, k6, k7, k8, k9, k10, k11, k12, kf⟩ := q2.cells
  have HS3 := hid (setC_fr HS2.out w.heap.size 8 (.int .i64 (m.en - 20)) (Nat.le_refl _))
  have p3 := p2.enh (m.en - 20)
  have q3 := q2.other w.heap.size 8 (.int .i64 (m.en - 20)) (by omega)
  have HU := hid (runit_any a _ (hu.still HS3.out))
  clear HS2
  go_wp2_with fail
  refine HU.out.mono ?_
  rintro e w4 ⟨rfl, h4⟩
  have p4 := p3.still h4
  have q4 := q3.still h4
  have HS4 := hid (HS3.out.trans h4)
  clear h4 HS3 HU p3 q3 p2 o2 q2 c0 c1 c2 c3 c4 c5 c6 c7 c8 c9 c10 c11 c12 cf d0 d1 d2 d3 df k0 k1 k2 k3 k4 k5 k6 k7 k8 k9 k10 k11 k12 kf
  go_wp2_with fail
  refine (rgscale_any _ _ 1024 _).mono ?_
  rintro e w5 ⟨rfl, h5⟩
  have p5 := p4.still h5
  have q5 := q4.still h5
  have HS5 := hid (HS4.out.trans h5)
  clear h5 HS4 p4 q4
  obtain ⟨c0, c1, c2, c3, c4, c5, c6, c7, c8, c9, c10, c11, c12, cf⟩ := p5.cells
  obtain ⟨k0, k1, k2, k3, k4, k5, k6, k7, k8, k9, k10, k11, k12, kf⟩ := q5.cells
  go_wp2_with fail
  refine bodyPost_ret (Mb.rest3 (Mb.put (Mb.other (Mb.other q5 _ _ _ (by omega)) _ _ _ (by omega)) _ _ _ _ _ _ _ _ _ _ _ _ _) rfl _ _ _ rfl rfl rfl) rfl ⟨rfl, ?_⟩
  repeat (first | refine setC_fr ?_ _ _ _ (by omega) | with_reducible exact HS5.out)
theorem doneA_out {m : Mv} {v a : Int} (h : m.ou ≠ 0) : doneA m v a = false := by
  unfold doneA
  have : (m.ou == 0) = false := by simpa using h
  rw [this, Bool.false_and]
theorem ract_in (m : Mv) (v a b c : Int) (hm : mayB m = true) (hc : chkO v a b c = 0) (w : World) (ht : OTab w) (hu : RTab w) :
    Calls Tryd.prog 15 #[mv m, od v a b c] w fun e w' => e = .returned (.tuple #[mv (if doneA m v a then deed m v a b else m), .bool (doneA m v a), .int .i64 0]) ∧ Still w w' := by
  have hen := (mayB_iff.1 hm).2.2.2.2.2.1
  by_cases h0 : m.ou = 0
  · have h0' : (m.ou == 0) = true := by simpa using h0
    rcases chk_rng hc with ⟨rfl, h1, h2, h3, h4⟩ | rfl | ⟨rfl, h1, h2⟩ | ⟨rfl, h1, h2⟩ | ⟨rfl, h1, h2⟩ | ⟨rfl, h1, h2⟩ | ⟨rfl, h1, h2⟩
    · rw [show doneA m 1 a = true by unfold doneA; rw [h0']; rfl]
      exact ract_p1 m a b c hm hc h1 h2 h3 h4 h0' w ht
    · rw [show doneA m 2 a = true by unfold doneA; rw [h0']; rfl]
      exact ract_p2 m a b c hm hc h0' w ht
    · rw [show doneA m 3 a = true by unfold doneA; rw [h0']; rfl]
      exact ract_p3 m a b c hm hc h0' w ht
    · cases hco : (m.co == 0) with
      | false =>
        rw [show doneA m 4 a = false by unfold doneA; rw [h0', hco]; rfl]
        exact ract_m4 m a b c hm hc h0' hco w ht
      | true =>
        by_cases he : 10 * a ≤ m.en
        · rw [show doneA m 4 a = true by unfold doneA; rw [h0', hco]; simp [he]]
          exact ract_p4 m a b c hm hc h1 h2 hen.1 hen.2 h0' hco he w ht
        · rw [show doneA m 4 a = false by unfold doneA; rw [h0', hco]; simp; omega]
          exact ract_l4 m a b c hm hc h1 h2 h0' hco (by simpa using he) w ht
    · have ha : a = 0 ∨ a = 1 := by omega
      rcases ha with rfl | rfl
      · rw [show doneA m 5 0 = true by unfold doneA; rw [h0']; rfl]
        exact ract_p5 m 0 b c hm hc h0' rfl rfl w ht
      · by_cases he : 0 < m.en
        · rw [show doneA m 5 1 = true by unfold doneA; rw [h0']; simp [he]]
          exact ract_q5 m 1 b c hm hc h0' rfl rfl he w ht
        · rw [show doneA m 5 1 = false by unfold doneA; rw [h0']; simp; omega]
          exact ract_m5 m 1 b c hm hc h0' rfl (by simpa using he) w ht
    · by_cases he : 20 ≤ m.en
      · rw [show doneA m 6 a = true by unfold doneA; rw [h0']; simp [he]]
        exact ract_p6 m a b c hm hc he hen.2 h0' w ht hu
      · rw [show doneA m 6 a = false by unfold doneA; rw [h0']; simp; omega]
        exact ract_m6 m a b c hm hc h0' (by simpa using he) w ht
    · rw [show doneA m 7 a = true by unfold doneA; rw [h0']; rfl]
      exact ract_p7 m a b c hm hc h0' w ht
  · have h0' : (m.ou == 0) = false := by simpa using h0
    rw [doneA_out h0]
    rcases chk_rng hc with ⟨rfl, _⟩ | rfl | ⟨rfl, _⟩ | ⟨rfl, _⟩ | ⟨rfl, _⟩ | ⟨rfl, _⟩ | ⟨rfl, _⟩
    · exact ract_n1 m a b c hm hc h0' w ht
    · exact ract_n2 m a b c hm hc h0' w ht
    · exact ract_n3 m a b c hm hc h0' w ht
    · exact ract_n4 m a b c hm hc h0' w ht
    · exact ract_n5 m a b c hm hc h0' w ht
    · exact ract_n6 m a b c hm hc h0' w ht
    · exact ract_n7 m a b c hm hc h0' w ht
theorem ract_any (m : Mv) (v a b c : Int) (w : World) (ht : OTab w) (hu : RTab w) :
    Calls Tryd.prog 15 #[mv m, od v a b c] w fun e w' => e = .returned (.tuple #[mv (actM m v a b c), .bool (actD m v a b c), .int .i64 (errA m v a b c)]) ∧ Still w w' := by
  unfold actM actD errA
  cases hm : mayB m with
  | false => exact ract_may m v a b c hm w
  | true =>
    simp only [if_true]
    by_cases hc : chkO v a b c = 0
    · rw [hc, if_pos rfl]
      have := ract_in m v a b c hm hc w ht hu
      simpa using this
    · rw [if_neg hc]
      have e : (chkO v a b c == 0) = false := by simpa using hc
      rw [e]
      exact ract_ord m v a b c _ hm rfl hc w ht
end Go.Proofs.YtaalbkmdmocdeaaDoor
