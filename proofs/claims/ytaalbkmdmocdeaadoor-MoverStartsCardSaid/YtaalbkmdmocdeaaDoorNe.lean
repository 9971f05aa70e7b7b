/- The document's Act. -/
import Derived.Test.YtaalbkmdmocdeaaDoorNd
import Derived.Test.YtaalbkmdmocdeaaDoorVc
import Derived.Test.YtaalbkmdmocdeaaDoorUn
namespace Go.Proofs.YtaalbkmdmocdeaaDoor
open Go.RowKit
open Pu Gp Ap Vp Np
set_option maxRecDepth 100000

theorem ract_may (m : Mv) (v a b c : Int) (hm : mayB m = false) (w : World) : Calls Tryd.prog 15 #[mv m, od v a b c] w fun e w' => e = .returned (.tuple #[mv zM, .bool false, .int .i64 80]) ∧ Still w w' := by
  have A0 := Still.alloc w (.cells (mcs m) 25)
  have A1 := Still.alloc (newM w m) (.cells #[.int .i64 v, .int .i64 a, .int .i64 b, .int .i64 c] 32)
  have A2 := Still.alloc (newO (newM w m) v a b c) (.cells (mcs zM) 25)
  have p0 := ((newM_mb w m).still A1).still A2
  have o0 := (newO_orb (newM w m) v a b c).still A2
  have q0 := newM_mb (newO (newM w m) v a b c) zM
  simp only [size_alloc] at o0 q0
  have HS0 := hid ((A0.trans A1).trans A2)
  clear A0 A1 A2
  obtain ⟨c0, c1, c2, c3, c4, c5, c6, c7, c8, c9, c10, c11, c12, cf⟩ := p0.cells
  obtain ⟨d0, d1, d2, d3, df⟩ := o0.cells
  have H := hid (fun w => rcheck8_any m w)
  rw [show chkM m = 80 by unfold chkM; rw [hm]; rfl] at H
  clear hm
  go_enter Tryd.func15, Tryd.ntmps15
  go_wp2_with fail
  refine (H.out _).mono ?_
  rintro e w1 ⟨rfl, h1⟩
  have q1 := q0.still h1
  have HS1 := hid (HS0.out.trans h1)
  clear h1 HS0 p0 o0 q0 c0 c1 c2 c3 c4 c5 c6 c7 c8 c9 c10 c11 c12 cf d0 d1 d2 d3 df
  obtain ⟨k0, k1, k2, k3, k4, k5, k6, k7, k8, k9, k10, k11, k12, kf⟩ := q1.cells
  go_wp2_with fail
  refine bodyPost_ret (Mb.rest3 (Mb.put q1 _ _ _ _ _ _ _ _ _ _ _ _ _) rfl _ _ _ rfl rfl rfl) rfl ⟨rfl, ?_⟩
  repeat (first | refine setC_fr ?_ _ _ _ (by omega) | with_reducible exact HS1.out)
theorem ract_ord (m : Mv) (v a b c x : Int) (hm : mayB m = true) (hc : chkO v a b c = x) (hx : x ≠ 0) (w : World) (ht : OTab w) : Calls Tryd.prog 15 #[mv m, od v a b c] w fun e w' => e = .returned (.tuple #[mv zM, .bool false, .int .i64 x]) ∧ Still w w' := by
  have hx1 : (x != 0) = true := by simpa using hx
  clear hx
  have A0 := Still.alloc w (.cells (mcs m) 25)
  have A1 := Still.alloc (newM w m) (.cells #[.int .i64 v, .int .i64 a, .int .i64 b, .int .i64 c] 32)
  have A2 := Still.alloc (newO (newM w m) v a b c) (.cells (mcs zM) 25)
  have p0 := ((newM_mb w m).still A1).still A2
  have o0 := (newO_orb (newM w m) v a b c).still A2
  have q0 := newM_mb (newO (newM w m) v a b c) zM
  simp only [size_alloc] at o0 q0
  have HS0 := hid ((A0.trans A1).trans A2)
  clear A0 A1 A2
  obtain ⟨c0, c1, c2, c3, c4, c5, c6, c7, c8, c9, c10, c11, c12, cf⟩ := p0.cells
  obtain ⟨d0, d1, d2, d3, df⟩ := o0.cells
  have H := hid (fun w => rcheck8_any m w)
  rw [show chkM m = 0 by unfold chkM; rw [hm]; rfl] at H
  have HO := hid (fun u (hu : Still w u) => rchk_any v a b c u (ht.still hu))
  rw [hc] at HO
  clear hm hc
  go_enter Tryd.func15, Tryd.ntmps15
  go_wp2_with fail
  refine (H.out _).mono ?_
  rintro e w1 ⟨rfl, h1⟩
  have p1 := p0.still h1
  have o1 := o0.still h1
  have q1 := q0.still h1
  have HS1 := hid (HS0.out.trans h1)
  clear h1 HS0 p0 o0 q0 c0 c1 c2 c3 c4 c5 c6 c7 c8 c9 c10 c11 c12 cf d0 d1 d2 d3 df H
  obtain ⟨d0, d1, d2, d3, df⟩ := o1.cells
  go_wp2_with fail
  refine (HO.out _ HS1.out).mono ?_
  rintro e w2 ⟨rfl, h2⟩
  have p2 := p1.still h2
  have o2 := o1.still h2
  have q2 := q1.still h2
  have HS2 := hid (HS1.out.trans h2)
  clear h2 HS1 p1 o1 q1 d0 d1 d2 d3 df HO
  obtain ⟨c0, c1, c2, c3, c4, c5, c6, c7, c8, c9, c10, c11, c12, cf⟩ := p2.cells
  obtain ⟨d0, d1, d2, d3, df⟩ := o2.cells
  obtain ⟨k0, k1, k2, k3, k4, k5, k6, k7, k8, k9, k10, k11, k12, kf⟩ := q2.cells
  go_wp2_with fail
  refine bodyPost_ret (Mb.rest3 (Mb.put q2 _ _ _ _ _ _ _ _ _ _ _ _ _) rfl _ _ _ rfl rfl rfl) rfl ⟨rfl, ?_⟩
  repeat (first | refine setC_fr ?_ _ _ _ (by omega) | with_reducible exact HS2.out)
theorem ract_p1 (m : Mv) (a b c : Int) (hm : mayB m = true) (hc : chkO 1 a b c = 0) (ha1 : -8 ≤ a) (ha2 : a ≤ 8) (hb1 : -8 ≤ b) (hb2 : b ≤ 8) (h0 : (m.ou == 0) = true) (w : World) (ht : OTab w) : Calls Tryd.prog 15 #[mv m, od 1 a b c] w fun e w' => e = .returned (.tuple #[mv { m with px := 32 * a, py := 32 * b }, .bool true, .int .i64 0]) ∧ Still w w' := by
  have A0 := Still.alloc w (.cells (mcs m) 25)
  have A1 := Still.alloc (newM w m) (.cells #[.int .i64 1, .int .i64 a, .int .i64 b, .int .i64 c] 32)
  have A2 := Still.alloc (newO (newM w m) 1 a b c) (.cells (mcs zM) 25)
  have p0 := ((newM_mb w m).still A1).still A2
  have o0 := (newO_orb (newM w m) 1 a b c).still A2
  have q0 := newM_mb (newO (newM w m) 1 a b c) zM
  simp only [size_alloc] at o0 q0
  have HS0 := hid ((A0.trans A1).trans A2)
  clear A0 A1 A2
  obtain ⟨c0, c1, c2, c3, c4, c5, c6, c7, c8, c9, c10, c11, c12, cf⟩ := p0.cells
  obtain ⟨d0, d1, d2, d3, df⟩ := o0.cells
  have H := hid (fun w => rcheck8_any m w)
  rw [show chkM m = 0 by unfold chkM; rw [hm]; rfl] at H
  have HO := hid (fun u (hu : Still w u) => rchk_any 1 a b c u (ht.still hu))
  rw [hc] at HO
  clear hm hc
  go_enter Tryd.func15, Tryd.ntmps15
  go_wp2_with fail
  refine (H.out _).mono ?_
  rintro e w1 ⟨rfl, h1⟩
  have p1 := p0.still h1
  have o1 := o0.still h1
  have q1 := q0.still h1
  have HS1 := hid (HS0.out.trans h1)
  clear h1 HS0 p0 o0 q0 c0 c1 c2 c3 c4 c5 c6 c7 c8 c9 c10 c11 c12 cf d0 d1 d2 d3 df H
  obtain ⟨d0, d1, d2, d3, df⟩ := o1.cells
  go_wp2_with fail
  refine (HO.out _ HS1.out).mono ?_
  rintro e w2 ⟨rfl, h2⟩
  have p2 := p1.still h2
  have o2 := o1.still h2
  have q2 := q1.still h2
  have HS2 := hid (HS1.out.trans h2)
  clear h2 HS1 p1 o1 q1 d0 d1 d2 d3 df HO
  obtain ⟨c0, c1, c2, c3, c4, c5, c6, c7, c8, c9, c10, c11, c12, cf⟩ := p2.cells
  obtain ⟨d0, d1, d2, d3, df⟩ := o2.cells
  obtain ⟨k0, k1, k2, k3, k4, k5, k6, k7, k8, k9, k10, k11, k12, kf⟩ := q2.cells
  go_wp2_with fail
  refine bodyPost_ret (Mb.rest3 (Mb.put (Mb.other (Mb.other q2 _ _ _ (by omega)) _ _ _ (by omega)) _ _ _ _ _ _ _ _ _ _ _ _ _) rfl _ _ _ rfl rfl rfl) rfl ⟨rfl, ?_⟩
  repeat (first | refine setC_fr ?_ _ _ _ (by omega) | with_reducible exact HS2.out)
theorem ract_n1 (m : Mv) (a b c : Int) (hm : mayB m = true) (hc : chkO 1 a b c = 0) (h0 : (m.ou == 0) = false) (w : World) (ht : OTab w) : Calls Tryd.prog 15 #[mv m, od 1 a b c] w fun e w' => e = .returned (.tuple #[mv m, .bool false, .int .i64 0]) ∧ Still w w' := by
  have A0 := Still.alloc w (.cells (mcs m) 25)
  have A1 := Still.alloc (newM w m) (.cells #[.int .i64 1, .int .i64 a, .int .i64 b, .int .i64 c] 32)
  have A2 := Still.alloc (newO (newM w m) 1 a b c) (.cells (mcs zM) 25)
  have p0 := ((newM_mb w m).still A1).still A2
  have o0 := (newO_orb (newM w m) 1 a b c).still A2
  have q0 := newM_mb (newO (newM w m) 1 a b c) zM
  simp only [size_alloc] at o0 q0
  have HS0 := hid ((A0.trans A1).trans A2)
  clear A0 A1 A2
  obtain ⟨c0, c1, c2, c3, c4, c5, c6, c7, c8, c9, c10, c11, c12, cf⟩ := p0.cells
  obtain ⟨d0, d1, d2, d3, df⟩ := o0.cells
  have H := hid (fun w => rcheck8_any m w)
  rw [show chkM m = 0 by unfold chkM; rw [hm]; rfl] at H
  have HO := hid (fun u (hu : Still w u) => rchk_any 1 a b c u (ht.still hu))
  rw [hc] at HO
  clear hm hc
  go_enter Tryd.func15, Tryd.ntmps15
  go_wp2_with fail
  refine (H.out _).mono ?_
  rintro e w1 ⟨rfl, h1⟩
  have p1 := p0.still h1
  have o1 := o0.still h1
  have q1 := q0.still h1
  have HS1 := hid (HS0.out.trans h1)
  clear h1 HS0 p0 o0 q0 c0 c1 c2 c3 c4 c5 c6 c7 c8 c9 c10 c11 c12 cf d0 d1 d2 d3 df H
  obtain ⟨d0, d1, d2, d3, df⟩ := o1.cells
  go_wp2_with fail
  refine (HO.out _ HS1.out).mono ?_
  rintro e w2 ⟨rfl, h2⟩
  have p2 := p1.still h2
  have o2 := o1.still h2
  have q2 := q1.still h2
  have HS2 := hid (HS1.out.trans h2)
  clear h2 HS1 p1 o1 q1 d0 d1 d2 d3 df HO
  obtain ⟨c0, c1, c2, c3, c4, c5, c6, c7, c8, c9, c10, c11, c12, cf⟩ := p2.cells
  obtain ⟨d0, d1, d2, d3, df⟩ := o2.cells
  obtain ⟨k0, k1, k2, k3, k4, k5, k6, k7, k8, k9, k10, k11, k12, kf⟩ := q2.cells
  go_wp2_with fail
  refine bodyPost_ret (Mb.rest3 (Mb.put q2 _ _ _ _ _ _ _ _ _ _ _ _ _) rfl _ _ _ rfl rfl rfl) rfl ⟨rfl, ?_⟩
  repeat (first | refine setC_fr ?_ _ _ _ (by omega) | with_reducible exact HS2.out)
end Go.Proofs.YtaalbkmdmocdeaaDoor
