/- The document's Act, order by order. -/
import Derived.Test.YtaalbkmdmocdeaaDoorNe
namespace Go.Proofs.YtaalbkmdmocdeaaDoor
open Go.RowKit
open Pu Gp Ap Vp Np
set_option maxRecDepth 100000

theorem ract_p2 (m : Mv) (a b c : Int) (hm : mayB m = true) (hc : chkO 2 a b c = 0) (h0 : (m.ou == 0) = true) (w : World) (ht : OTab w) : Calls Tryd.prog 15 #[mv m, od 2 a b c] w fun e w' => e = .returned (.tuple #[mv { m with px := 0, py := 0 }, .bool true, .int .i64 0]) ∧ Still w w' := by
  have A0 := Still.alloc w (.cells (mcs m) 25)
  have A1 := Still.alloc (newM w m) (.cells #[.int .i64 2, .int .i64 a, .int .i64 b, .int .i64 c] 32)
  have A2 := Still.alloc (newO (newM w m) 2 a b c) (.cells (mcs zM) 25)
  have p0 := ((newM_mb w m).still A1).still A2
  have o0 := (newO_orb (newM w m) 2 a b c).still A2
  have q0 := newM_mb (newO (newM w m) 2 a b c) zM
  simp only [size_alloc] at o0 q0
  have HS0 := hid ((A0.trans A1).trans A2)
  clear A0 A1 A2
  obtain ⟨c0, c1, c2, c3, c4, c5, c6, c7, c8, c9, c10, c11, c12, cf⟩ := p0.cells
  obtain ⟨d0, d1, d2, d3, df⟩ := o0.cells
  have H := hid (fun w => rcheck8_any m w)
  rw [show chkM m = 0 by unfold chkM; rw [hm]; rfl] at H
  have HO := hid (fun u (hu : Still w u) => rchk_any 2 a b c u (ht.still hu))
  rw [hc] at HO
  clear hm hc
  go_enter Tryd.func15, Tryd.ntmps15
  go_wp2_with fail
  refine (H.out _).mono ?_
  rintro e w1 ⟨rfl, h1⟩
  have p1 := p0.still h1
  have o1 := o0.still h1
  have q1 := q0.still h1
  have HS1 := hid (HS0.out.trans h1)
  clear h1 HS0 p0 o0 q0 c0 c1 c2 c3 c4 c5 c6 c7 c8 c9 c10 c11 c12 cf d0 d1 d2 d3 df H
  obtain ⟨d0, d1, d2, d3, df⟩ := o1.cells
  go_wp2_with fail
  refine (HO.out _ HS1.out).mono ?_
  rintro e w2 ⟨rfl, h2⟩
  have p2 := p1.still h2
  have o2 := o1.still h2
  have q2 := q1.still h2
  have HS2 := hid (HS1.out.trans h2)
  clear h2 HS1 p1 o1 q1 d0 d1 d2 d3 df HO
  obtain ⟨c0, c1, c2, c3, c4, c5, c6, c7, c8, c9, c10, c11, c12, cf⟩ := p2.cells
  obtain ⟨d0, d1, d2, d3, df⟩ := o2.cells
  obtain ⟨k0, k1, k2, k3, k4, k5, k6, k7, k8, k9, k10, k11, k12, kf⟩ := q2.cells
  go_wp2_with fail
  refine bodyPost_ret (Mb.rest3 (Mb.put (Mb.other (Mb.other q2 _ _ _ (by omega)) _ _ _ (by omega)) _ _ _ _ _ _ _ _ _ _ _ _ _) rfl _ _ _ rfl rfl rfl) rfl ⟨rfl, ?_⟩
  repeat (first | refine setC_fr ?_ _ _ _ (by omega) | with_reducible exact HS2.out)
theorem ract_p3 (m : Mv) (a b c : Int) (hm : mayB m = true) (hc : chkO 3 a b c = 0) (h0 : (m.ou == 0) = true) (w : World) (ht : OTab w) : Calls Tryd.prog 15 #[mv m, od 3 a b c] w fun e w' => e = .returned (.tuple #[mv { m with fc := a }, .bool true, .int .i64 0]) ∧ Still w w' := by
  have A0 := Still.alloc w (.cells (mcs m) 25)
  have A1 := Still.alloc (newM w m) (.cells #[.int .i64 3, .int .i64 a, .int .i64 b, .int .i64 c] 32)
  have A2 := Still.alloc (newO (newM w m) 3 a b c) (.cells (mcs zM) 25)
  have p0 := ((newM_mb w m).still A1).still A2
  have o0 := (newO_orb (newM w m) 3 a b c).still A2
  have q0 := newM_mb (newO (newM w m) 3 a b c) zM
  simp only [size_alloc] at o0 q0
  have HS0 := hid ((A0.trans A1).trans A2)
  clear A0 A1 A2
  obtain ⟨c0, c1, c2, c3, c4, c5, c6, c7, c8, c9, c10, c11, c12, cf⟩ := p0.cells
  obtain ⟨d0, d1, d2, d3, df⟩ := o0.cells
  have H := hid (fun w => rcheck8_any m w)
  rw [show chkM m = 0 by unfold chkM; rw [hm]; rfl] at H
  have HO := hid (fun u (hu : Still w u) => rchk_any 3 a b c u (ht.still hu))
  rw [hc] at HO
  clear hm hc
  go_enter Tryd.func15, Tryd.ntmps15
  go_wp2_with fail
  refine (H.out _).mono ?_
  rintro e w1 ⟨rfl, h1⟩
  have p1 := p0.still h1
  have o1 := o0.still h1
  have q1 := q0.still h1
  have HS1 := hid (HS0.out.trans h1)
  clear h1 HS0 p0 o0 q0 c0 c1 c2 c3 c4 c5 c6 c7 c8 c9 c10 c11 c12 cf d0 d1 d2 d3 df H
  obtain ⟨d0, d1, d2, d3, df⟩ := o1.cells
  go_wp2_with fail
  refine (HO.out _ HS1.out).mono ?_
  rintro e w2 ⟨rfl, h2⟩
  have p2 := p1.still h2
  have o2 := o1.still h2
  have q2 := q1.still h2
  have HS2 := hid (HS1.out.trans h2)
  clear h2 HS1 p1 o1 q1 d0 d1 d2 d3 df HO
  obtain ⟨c0, c1, c2, c3, c4, c5, c6, c7, c8, c9, c10, c11, c12, cf⟩ := p2.cells
  obtain ⟨d0, d1, d2, d3, df⟩ := o2.cells
  obtain ⟨k0, k1, k2, k3, k4, k5, k6, k7, k8, k9, k10, k11, k12, kf⟩ := q2.cells
  go_wp2_with fail
  refine bodyPost_ret (Mb.rest3 (Mb.put (Mb.other q2 _ _ _ (by omega)) _ _ _ _ _ _ _ _ _ _ _ _ _) rfl _ _ _ rfl rfl rfl) rfl ⟨rfl, ?_⟩
  repeat (first | refine setC_fr ?_ _ _ _ (by omega) | with_reducible exact HS2.out)
theorem ract_p4 (m : Mv) (a b c : Int) (hm : mayB m = true) (hc : chkO 4 a b c = 0) (ha1 : 1 ≤ a) (ha2 : a ≤ 3) (he1 : 0 ≤ m.en) (he2 : m.en ≤ 100) (h0 : (m.ou == 0) = true) (hco : (m.co == 0) = true) (hen : 10 * a ≤ m.en) (w : World) (ht : OTab w) : Calls Tryd.prog 15 #[mv m, od 4 a b c] w fun e w' => e = .returned (.tuple #[mv { m with en := m.en - 10 * a, co := 4 * a }, .bool true, .int .i64 0]) ∧ Still w w' := by
  have A0 := Still.alloc w (.cells (mcs m) 25)
  have A1 := Still.alloc (newM w m) (.cells #[.int .i64 4, .int .i64 a, .int .i64 b, .int .i64 c] 32)
  have A2 := Still.alloc (newO (newM w m) 4 a b c) (.cells (mcs zM) 25)
  have p0 := ((newM_mb w m).still A1).still A2
  have o0 := (newO_orb (newM w m) 4 a b c).still A2
  have q0 := newM_mb (newO (newM w m) 4 a b c) zM
  simp only [size_alloc] at o0 q0
  have HS0 := hid ((A0.trans A1).trans A2)
  clear A0 A1 A2
  obtain ⟨c0, c1, c2, c3, c4, c5, c6, c7, c8, c9, c10, c11, c12, cf⟩ := p0.cells
  obtain ⟨d0, d1, d2, d3, df⟩ := o0.cells
  have H := hid (fun w => rcheck8_any m w)
  rw [show chkM m = 0 by unfold chkM; rw [hm]; rfl] at H
  have HO := hid (fun u (hu : Still w u) => rchk_any 4 a b c u (ht.still hu))
  rw [hc] at HO
  clear hm hc
  go_enter Tryd.func15, Tryd.ntmps15
  go_wp2_with fail
  refine (H.out _).mono ?_
  rintro e w1 ⟨rfl, h1⟩
  have p1 := p0.still h1
  have o1 := o0.still h1
  have q1 := q0.still h1
  have HS1 := hid (HS0.out.trans h1)
  clear h1 HS0 p0 o0 q0 c0 c1 c2 c3 c4 c5 c6 c7 c8 c9 c10 c11 c12 cf d0 d1 d2 d3 df H
  obtain ⟨d0, d1, d2, d3, df⟩ := o1.cells
  go_wp2_with fail
  refine (HO.out _ HS1.out).mono ?_
  rintro e w2 ⟨rfl, h2⟩
  have p2 := p1.still h2
  have o2 := o1.still h2
  have q2 := q1.still h2
  have HS2 := hid (HS1.out.trans h2)
  clear h2 HS1 p1 o1 q1 d0 d1 d2 d3 df HO
  obtain ⟨c0, c1, c2, c3, c4, c5, c6, c7, c8, c9, c10, c11, c12, cf⟩ := p2.cells
  obtain ⟨d0, d1, d2, d3, df⟩ := o2.cells
  obtain ⟨k0, k1, k2, k3, k4, k5, k6, k7, k8, k9, k10, k11, k12, kf⟩ := q2.cells
  go_wp2_with fail
  refine bodyPost_ret (Mb.rest3 (Mb.put (Mb.other (Mb.other q2 _ _ _ (by omega)) _ _ _ (by omega)) _ _ _ _ _ _ _ _ _ _ _ _ _) rfl _ _ _ rfl rfl rfl) rfl ⟨rfl, ?_⟩
  repeat (first | refine setC_fr ?_ _ _ _ (by omega) | with_reducible exact HS2.out)
theorem ract_p5 (m : Mv) (a b c : Int) (hm : mayB m = true) (hc : chkO 5 a b c = 0) (h0 : (m.ou == 0) = true) (ha0 : (a == 0) = true) (ha1 : (a == 1) = false) (w : World) (ht : OTab w) : Calls Tryd.prog 15 #[mv m, od 5 a b c] w fun e w' => e = .returned (.tuple #[mv { m with sh := false }, .bool true, .int .i64 0]) ∧ Still w w' := by
  have A0 := Still.alloc w (.cells (mcs m) 25)
  have A1 := Still.alloc (newM w m) (.cells #[.int .i64 5, .int .i64 a, .int .i64 b, .int .i64 c] 32)
  have A2 := Still.alloc (newO (newM w m) 5 a b c) (.cells (mcs zM) 25)
  have p0 := ((newM_mb w m).still A1).still A2
  have o0 := (newO_orb (newM w m) 5 a b c).still A2
  have q0 := newM_mb (newO (newM w m) 5 a b c) zM
  simp only [size_alloc] at o0 q0
  have HS0 := hid ((A0.trans A1).trans A2)
  clear A0 A1 A2
  obtain ⟨c0, c1, c2, c3, c4, c5, c6, c7, c8, c9, c10, c11, c12, cf⟩ := p0.cells
  obtain ⟨d0, d1, d2, d3, df⟩ := o0.cells
  have H := hid (fun w => rcheck8_any m w)
  rw [show chkM m = 0 by unfold chkM; rw [hm]; rfl] at H
  have HO := hid (fun u (hu : Still w u) => rchk_any 5 a b c u (ht.still hu))
  rw [hc] at HO
  clear hm hc
  go_enter Tryd.func15, Tryd.ntmps15
  go_wp2_with fail
  refine (H.out _).mono ?_
  rintro e w1 ⟨rfl, h1⟩
  have p1 := p0.still h1
  have o1 := o0.still h1
  have q1 := q0.still h1
  have HS1 := hid (HS0.out.trans h1)
  clear h1 HS0 p0 o0 q0 c0 c1 c2 c3 c4 c5 c6 c7 c8 c9 c10 c11 c12 cf d0 d1 d2 d3 df H
  obtain ⟨d0, d1, d2, d3, df⟩ := o1.cells
  go_wp2_with fail
  refine (HO.out _ HS1.out).mono ?_
  rintro e w2 ⟨rfl, h2⟩
  have p2 := p1.still h2
  have o2 := o1.still h2
  have q2 := q1.still h2
  have HS2 := hid (HS1.out.trans h2)
  clear h2 HS1 p1 o1 q1 d0 d1 d2 d3 df HO
  obtain ⟨c0, c1, c2, c3, c4, c5, c6, c7, c8, c9, c10, c11, c12, cf⟩ := p2.cells
  obtain ⟨d0, d1, d2, d3, df⟩ := o2.cells
  obtain ⟨k0, k1, k2, k3, k4, k5, k6, k7, k8, k9, k10, k11, k12, kf⟩ := q2.cells
  go_wp2_with fail
  refine bodyPost_ret (Mb.rest3 (Mb.put (Mb.other q2 _ _ _ (by omega)) _ _ _ _ _ _ _ _ _ _ _ _ _) rfl _ _ _ rfl rfl rfl) rfl ⟨rfl, ?_⟩
  repeat (first | refine setC_fr ?_ _ _ _ (by omega) | with_reducible exact HS2.out)
theorem ract_q5 (m : Mv) (a b c : Int) (hm : mayB m = true) (hc : chkO 5 a b c = 0) (h0 : (m.ou == 0) = true) (ha0 : (a == 0) = false) (ha1 : (a == 1) = true) (hen : 0 < m.en) (w : World) (ht : OTab w) : Calls Tryd.prog 15 #[mv m, od 5 a b c] w fun e w' => e = .returned (.tuple #[mv { m with sh := true }, .bool true, .int .i64 0]) ∧ Still w w' := by
  have A0 := Still.alloc w (.cells (mcs m) 25)
  have A1 := Still.alloc (newM w m) (.cells #[.int .i64 5, .int .i64 a, .int .i64 b, .int .i64 c] 32)
  have A2 := Still.alloc (newO (newM w m) 5 a b c) (.cells (mcs zM) 25)
  have p0 := ((newM_mb w m).still A1).still A2
  have o0 := (newO_orb (newM w m) 5 a b c).still A2
  have q0 := newM_mb (newO (newM w m) 5 a b c) zM
  simp only [size_alloc] at o0 q0
  have HS0 := hid ((A0.trans A1).trans A2)
  clear A0 A1 A2
  obtain ⟨c0, c1, c2, c3, c4, c5, c6, c7, c8, c9, c10, c11, c12, cf⟩ := p0.cells
  obtain ⟨d0, d1, d2, d3, df⟩ := o0.cells
  have H := hid (fun w => rcheck8_any m w)
  rw [show chkM m = 0 by unfold chkM; rw [hm]; rfl] at H
  have HO := hid (fun u (hu : Still w u) => rchk_any 5 a b c u (ht.still hu))
  rw [hc] at HO
  clear hm hc
  go_enter Tryd.func15, Tryd.ntmps15
  go_wp2_with fail
  refine (H.out _).mono ?_
  rintro e w1 ⟨rfl, h1⟩
  have p1 := p0.still h1
  have o1 := o0.still h1
  have q1 := q0.still h1
  have HS1 := hid (HS0.out.trans h1)
  clear h1 HS0 p0 o0 q0 c0 c1 c2 c3 c4 c5 c6 c7 c8 c9 c10 c11 c12 cf d0 d1 d2 d3 df H
  obtain ⟨d0, d1, d2, d3, df⟩ := o1.cells
  go_wp2_with fail
  refine (HO.out _ HS1.out).mono ?_
  rintro e w2 ⟨rfl, h2⟩
  have p2 := p1.still h2
  have o2 := o1.still h2
  have q2 := q1.still h2
  have HS2 := hid (HS1.out.trans h2)
  clear h2 HS1 p1 o1 q1 d0 d1 d2 d3 df HO
  obtain ⟨c0, c1, c2, c3, c4, c5, c6, c7, c8, c9, c10, c11, c12, cf⟩ := p2.cells
  obtain ⟨d0, d1, d2, d3, df⟩ := o2.cells
  obtain ⟨k0, k1, k2, k3, k4, k5, k6, k7, k8, k9, k10, k11, k12, kf⟩ := q2.cells
  go_wp2_with fail
  refine bodyPost_ret (Mb.rest3 (Mb.put (Mb.other q2 _ _ _ (by omega)) _ _ _ _ _ _ _ _ _ _ _ _ _) rfl _ _ _ rfl rfl rfl) rfl ⟨rfl, ?_⟩
  repeat (first | refine setC_fr ?_ _ _ _ (by omega) | with_reducible exact HS2.out)
theorem ract_p7 (m : Mv) (a b c : Int) (hm : mayB m = true) (hc : chkO 7 a b c = 0) (h0 : (m.ou == 0) = true) (w : World) (ht : OTab w) : Calls Tryd.prog 15 #[mv m, od 7 a b c] w fun e w' => e = .returned (.tuple #[mv { m with sd := a }, .bool true, .int .i64 0]) ∧ Still w w' := by
  have A0 := Still.alloc w (.cells (mcs m) 25)
  have A1 := Still.alloc (newM w m) (.cells #[.int .i64 7, .int .i64 a, .int .i64 b, .int .i64 c] 32)
  have A2 := Still.alloc (newO (newM w m) 7 a b c) (.cells (mcs zM) 25)
  have p0 := ((newM_mb w m).still A1).still A2
  have o0 := (newO_orb (newM w m) 7 a b c).still A2
  have q0 := newM_mb (newO (newM w m) 7 a b c) zM
  simp only [size_alloc] at o0 q0
  have HS0 := hid ((A0.trans A1).trans A2)
  clear A0 A1 A2
  obtain ⟨c0, c1, c2, c3, c4, c5, c6, c7, c8, c9, c10, c11, c12, cf⟩ := p0.cells
  obtain ⟨d0, d1, d2, d3, df⟩ := o0.cells
  have H := hid (fun w => rcheck8_any m w)
  rw [show chkM m = 0 by unfold chkM; rw [hm]; rfl] at H
  have HO := hid (fun u (hu : Still w u) => rchk_any 7 a b c u (ht.still hu))
  rw [hc] at HO
  clear hm hc
  go_enter Tryd.func15, Tryd.ntmps15
  go_wp2_with fail
  refine (H.out _).mono ?_
  rintro e w1 ⟨rfl, h1⟩
  have p1 := p0.still h1
  have o1 := o0.still h1
  have q1 := q0.still h1
  have HS1 := hid (HS0.out.trans h1)
  clear h1 HS0 p0 o0 q0 c0 c1 c2 c3 c4 c5 c6 c7 c8 c9 c10 c11 c12 cf d0 d1 d2 d3 df H
  obtain ⟨d0, d1, d2, d3, df⟩ := o1.cells
  go_wp2_with fail
  refine (HO.out _ HS1.out).mono ?_
  rintro e w2 ⟨rfl, h2⟩
  have p2 := p1.still h2
  have o2 := o1.still h2
  have q2 := q1.still h2
  have HS2 := hid (HS1.out.trans h2)
  clear h2 HS1 p1 o1 q1 d0 d1 d2 d3 df HO
  obtain ⟨c0, c1, c2, c3, c4, c5, c6, c7, c8, c9, c10, c11, c12, cf⟩ := p2.cells
  obtain ⟨d0, d1, d2, d3, df⟩ := o2.cells
  obtain ⟨k0, k1, k2, k3, k4, k5, k6, k7, k8, k9, k10, k11, k12, kf⟩ := q2.cells
  go_wp2_with fail
  refine bodyPost_ret (Mb.rest3 (Mb.put (Mb.other q2 _ _ _ (by omega)) _ _ _ _ _ _ _ _ _ _ _ _ _) rfl _ _ _ rfl rfl rfl) rfl ⟨rfl, ?_⟩
  repeat (first | refine setC_fr ?_ _ _ _ (by omega) | with_reducible exact HS2.out)
end Go.Proofs.YtaalbkmdmocdeaaDoor
