/- GeomBoxes: the walk. -/
import Derived.Test.YtkmkbglamgkkpaaDoorAw
import Derived.Test.YtkmkbglamgkkpaaDoorRp
namespace Go.Proofs.YtkmkbglamgkkpaaDoor
open Go.RowKit
open Pu Gp

set_option maxHeartbeats 4000000 in
set_option maxRecDepth 100000 in
theorem boxes_law (a b c d a' b' c' d' x y n : Int) (w : World) (ht : Tab w) : Calls Tryd.prog 6 #[bx a b c d, bx a' b' c' d', pt x y, .int .i64 n] w fun e w' => e = .returned (.bool true) ∧ Still w w' := by
  have p := ((newB_bb w a b c d).still (Still.alloc (newB w a b c d) (.cells #[.int .i64 a', .int .i64 b', .int .i64 c', .int .i64 d'] 35))).still (Still.alloc (newB (newB w a b c d) a' b' c' d') (.cells #[.int .i64 x, .int .i64 y] 23))
  have q := (newB_bb (newB w a b c d) a' b' c' d').still (Still.alloc (newB (newB w a b c d) a' b' c' d') (.cells #[.int .i64 x, .int .i64 y] 23))
  have r := newP_pb (newB (newB w a b c d) a' b' c' d') x y
  simp only [size_alloc] at q r
  have s0 := ((Still.alloc w (.cells #[.int .i64 a, .int .i64 b, .int .i64 c, .int .i64 d] 35)).trans (Still.alloc (newB w a b c d) (.cells #[.int .i64 a', .int .i64 b', .int .i64 c', .int .i64 d'] 35))).trans (Still.alloc (newB (newB w a b c d) a' b' c' d') (.cells #[.int .i64 x, .int .i64 y] 23))
  have E1 := fun w => eql_bx_t (x := subf x (clampf n 0 2147483647)) (y := subf y (clampf n 0 2147483647)) (z := addf x (clampf n 0 2147483647)) (u := addf y (clampf n 0 2147483647)) rfl rfl rfl rfl w
  have E2 := fun w => eql_bx_t (x := mif (mt a b c d a' b' c' d') (max a a')) (y := mif (mt a b c d a' b' c' d') (max b b')) (z := mif (mt a b c d a' b' c' d') (min c c')) (u := mif (mt a b c d a' b' c' d') (min d d')) rfl rfl rfl rfl w
  have G1 := guard_bx
  go_enter Tryd.func6, Tryd.ntmps6
  go_wp2_with fail
  refine (awake_any _ (ht.still s0)).mono ?_
  rintro e w1 ⟨rfl, h1⟩
  have p1 := p.still h1
  have q1 := q.still h1
  have r1 := r.still h1
  have HS1 := hid (s0.trans h1)
  clear p q r s0 h1 ht
  obtain ⟨c0, c1, c2, c3, cf⟩ := p1.cells
  obtain ⟨d0, d1, d2, d3, df⟩ := q1.cells
  go_wp2_with fail
  refine (meet_any a b c d a' b' c' d' _).mono ?_
  rintro e w2 ⟨rfl, h2⟩
  have A2 := Still.alloc w2 (.cells #[.int .i64 (mif (mt a b c d a' b' c' d') (max a a')), .int .i64 (mif (mt a b c d a' b' c' d') (max b b')), .int .i64 (mif (mt a b c d a' b' c' d') (min c c')), .int .i64 (mif (mt a b c d a' b' c' d') (min d d'))] 35)
  have p2 := (p1.still h2).still A2
  have q2 := (q1.still h2).still A2
  have r2 := (r1.still h2).still A2
  have m2 := newB_bb w2 (mif (mt a b c d a' b' c' d') (max a a')) (mif (mt a b c d a' b' c' d') (max b b')) (mif (mt a b c d a' b' c' d') (min c c')) (mif (mt a b c d a' b' c' d') (min d d'))
  have HS2 := hid ((HS1.out.trans h2).trans A2)
  clear p1 q1 r1 HS1 h2 A2 c0 c1 c2 c3 cf d0 d1 d2 d3 df
  obtain ⟨c0, c1, c2, c3, cf⟩ := p2.cells
  obtain ⟨d0, d1, d2, d3, df⟩ := q2.cells
  go_wp2_with fail
  refine (rmeet_any a b c d a' b' c' d' _).mono ?_
  rintro e w3 ⟨rfl, h3⟩
  have A3 := Still.alloc w3 (.cells #[.int .i64 (mif (mt a b c d a' b' c' d') (max a a')), .int .i64 (mif (mt a b c d a' b' c' d') (max b b')), .int .i64 (mif (mt a b c d a' b' c' d') (min c c')), .int .i64 (mif (mt a b c d a' b' c' d') (min d d'))] 35)
  have p3 := (p2.still h3).still A3
  have q3 := (q2.still h3).still A3
  have r3 := (r2.still h3).still A3
  have m3 := (m2.still h3).still A3
  have k3 := newB_bb w3 (mif (mt a b c d a' b' c' d') (max a a')) (mif (mt a b c d a' b' c' d') (max b b')) (mif (mt a b c d a' b' c' d') (min c c')) (mif (mt a b c d a' b' c' d') (min d d'))
  have HS3 := hid ((HS2.out.trans h3).trans A3)
  clear p2 q2 r2 m2 HS2 h3 A3 c0 c1 c2 c3 cf d0 d1 d2 d3 df
  go_wp2_with fail
  obtain ⟨W, eW⟩ : ∃ W, w3.alloc (.cells #[.int .i64 (mif (mt a b c d a' b' c' d') (max a a')), .int .i64 (mif (mt a b c d a' b' c' d') (max b b')), .int .i64 (mif (mt a b c d a' b' c' d') (min c c')), .int .i64 (mif (mt a b c d a' b' c' d') (min d d'))] 35) = W := ⟨_, rfl⟩
  simp only [newB] at k3
  rw [eW] at p3 q3 r3 m3 k3 HS3 ⊢
  clear eW
  obtain ⟨T, eT⟩ : ∃ T, mt a b c d a' b' c' d' = T := ⟨_, rfl⟩
  have c0 := Cl.cell p3.cells.1
  have c1 := Cl.cell p3.cells.2.1
  have c2 := Cl.cell p3.cells.2.2.1
  have c3 := Cl.cell p3.cells.2.2.2.1
  have d0 := Cl.cell r3.cells.1
  have d1 := Cl.cell r3.cells.2.1
  have hne := Aft.here W
  clear eT
  refine region_all (by kernel_rfl) (by kernel_rfl) ?_
  repeat (go_big_quiet_step ((first | (go_at_call 30; exact Calls.cl (around_any _ _ _ _)) | (go_at_call 31; exact Calls.cl (raround_any _ _ _ _)) | (go_at_call 32; exact Calls.cl (check_any _ _ _ _ _)) | (go_at_call 33; exact Calls.cl (rcheck_any _ _ _ _ _)))))
  refine wpQuiet_nil ?_
  intro w4 h4
  have p4 := p3.still h4
  have q4 := q3.still h4
  have r4 := r3.still h4
  have m4 := m3.still h4
  have k4 := k3.still h4
  have HS4 := hid (HS3.out.trans h4)
  clear p3 q3 r3 m3 k3 HS3 h4 c0 c1 c2 c3 d0 d1 hne E1
  have c0 := Cl.cell p4.cells.1
  have c1 := Cl.cell p4.cells.2.1
  have c2 := Cl.cell p4.cells.2.2.1
  have c3 := Cl.cell p4.cells.2.2.2.1
  have f0 := Cl.cell q4.cells.1
  have f1 := Cl.cell q4.cells.2.1
  have f2 := Cl.cell q4.cells.2.2.1
  have f3 := Cl.cell q4.cells.2.2.2.1
  have d0 := Cl.cell r4.cells.1
  have d1 := Cl.cell r4.cells.2.1
  have hne := Aft.here w4
  go_wp2_with fail
  refine region_all (by kernel_rfl) (by kernel_rfl) ?_
  repeat (go_big_quiet_step ((first | (go_at_call 34; exact Calls.cl (inside_any _ _ _ _ _ _ _)) | (go_at_call 35; exact Calls.cl (rinside_any _ _ _ _ _ _ _)) | (go_at_call 36; exact Calls.cl (overlap_any _ _ _ _ _ _ _ _ _)) | (go_at_call 37; exact Calls.cl (roverlap_any _ _ _ _ _ _ _ _ _)))))
  refine wpQuiet_nil ?_
  intro w5 h5
  obtain ⟨m0, m1, m2, m3, mf⟩ := (m4.still h5).cells
  obtain ⟨k0, k1, k2, k3, kf⟩ := (k4.still h5).cells
  have HS5 := hid (HS4.out.trans h5)
  clear p4 q4 r4 m4 k4 HS4 h5 c0 c1 c2 c3 d0 d1 f0 f1 f2 f3 hne
  go_wp2_with fail
  go_ret
  exact ⟨rfl, HS5.out⟩
end Go.Proofs.YtkmkbglamgkkpaaDoor
