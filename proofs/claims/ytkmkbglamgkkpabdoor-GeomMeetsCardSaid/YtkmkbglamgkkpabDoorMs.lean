/- GeomMeets: the walk. -/
import Derived.Test.YtkmkbglamgkkpabDoorMm
namespace Go.Proofs.YtkmkbglamgkkpabDoor
open Go.RowKit
open Pu Gp

set_option maxHeartbeats 4000000 in
set_option maxRecDepth 100000 in
theorem meets_1 (a b c d a' b' c' d' x y : Int) (hO : okb a b c d = false) (h1 : mt a b c d x y x y = false) (hT : mt a b c d a' b' c' d' = false) (w : World) (ht : Tab w) : Calls Tryd.prog 3 #[bx a b c d, bx a' b' c' d', pt x y] w fun e w' => e = .returned (.bool true) ∧ Still w w' := by
  have p := ((newB_bb w a b c d).still (Still.alloc (newB w a b c d) (.cells #[.int .i64 a', .int .i64 b', .int .i64 c', .int .i64 d'] 25))).still (Still.alloc (newB (newB w a b c d) a' b' c' d') (.cells #[.int .i64 x, .int .i64 y] 23))
  have q := (newB_bb (newB w a b c d) a' b' c' d').still (Still.alloc (newB (newB w a b c d) a' b' c' d') (.cells #[.int .i64 x, .int .i64 y] 23))
  have r := newP_pb (newB (newB w a b c d) a' b' c' d') x y
  simp only [size_alloc] at q r
  have s0 := ((Still.alloc w (.cells #[.int .i64 a, .int .i64 b, .int .i64 c, .int .i64 d] 25)).trans (Still.alloc (newB w a b c d) (.cells #[.int .i64 a', .int .i64 b', .int .i64 c', .int .i64 d'] 25))).trans (Still.alloc (newB (newB w a b c d) a' b' c' d') (.cells #[.int .i64 x, .int .i64 y] 23))
  have E2 := fun w => eql_bx_t (x := mif false (max a a')) (y := mif false (max b b')) (z := mif false (min c c')) (u := mif false (min d d')) rfl rfl rfl rfl w
  have G1 := guard_bx
  have HO := hid hO
  have H1 := hid h1
  have HT := hid hT
  clear hO h1 hT
  go_enter Tryd.func3, Tryd.ntmps3
  go_wp2_with fail
  refine (awake_any _ (ht.still s0)).mono ?_
  rintro e w1 ⟨rfl, h1⟩
  have p1 := p.still h1
  have q1 := q.still h1
  have r1 := r.still h1
  have HS1 := hid (s0.trans h1)
  clear p q r s0 h1 ht
  obtain ⟨c0, c1, c2, c3, cf⟩ := p1.cells
  obtain ⟨d0, d1, d2, d3, df⟩ := q1.cells
  go_wp2_with fail
  refine (meet_is a b c d a' b' c' d' HT.out _).mono ?_
  rintro e w2 ⟨rfl, h2⟩
  have A2 := Still.alloc w2 (.cells #[.int .i64 (mif false (max a a')), .int .i64 (mif false (max b b')), .int .i64 (mif false (min c c')), .int .i64 (mif false (min d d'))] 25)
  have p2 := (p1.still h2).still A2
  have q2 := (q1.still h2).still A2
  have r2 := (r1.still h2).still A2
  have m2 := newB_bb w2 (mif false (max a a')) (mif false (max b b')) (mif false (min c c')) (mif false (min d d'))
  have HS2 := hid ((HS1.out.trans h2).trans A2)
  clear p1 q1 r1 HS1 h2 A2 c0 c1 c2 c3 cf d0 d1 d2 d3 df
  obtain ⟨c0, c1, c2, c3, cf⟩ := p2.cells
  obtain ⟨d0, d1, d2, d3, df⟩ := q2.cells
  go_wp2_with fail
  refine (meet_turned a b c d a' b' c' d' HT.out _).mono ?_
  rintro e w3 ⟨rfl, h3⟩
  have A3 := Still.alloc w3 (.cells #[.int .i64 (mif false (max a a')), .int .i64 (mif false (max b b')), .int .i64 (mif false (min c c')), .int .i64 (mif false (min d d'))] 25)
  have p3 := (p2.still h3).still A3
  have q3 := (q2.still h3).still A3
  have r3 := (r2.still h3).still A3
  have m3 := (m2.still h3).still A3
  have n3 := newB_bb w3 (mif false (max a a')) (mif false (max b b')) (mif false (min c c')) (mif false (min d d'))
  have HS3 := hid ((HS2.out.trans h3).trans A3)
  clear p2 q2 r2 m2 HS2 h3 A3 c0 c1 c2 c3 cf d0 d1 d2 d3 df
  obtain ⟨c0, c1, c2, c3, cf⟩ := p3.cells
  obtain ⟨f0, f1, ff⟩ := r3.cells
  go_wp2_with fail
  refine (inside_is a b c d x y H1.out _).mono ?_
  rintro e w4 ⟨rfl, h4⟩
  have p4 := p3.still h4
  have q4 := q3.still h4
  have r4 := r3.still h4
  have m4 := m3.still h4
  have n4 := n3.still h4
  have HS4 := hid (HS3.out.trans h4)
  clear p3 q3 r3 m3 n3 HS3 h4 c0 c1 c2 c3 cf f0 f1 ff
  have c0 := Cl.cell p4.cells.1
  have c1 := Cl.cell p4.cells.2.1
  have c2 := Cl.cell p4.cells.2.2.1
  have c3 := Cl.cell p4.cells.2.2.2.1
  have hne := Aft.here w4
  go_wp2_with fail
  refine region_all (by kernel_rfl) (by kernel_rfl) ?_
  repeat (go_big_quiet_step ((first | (go_at_call 8; exact Calls.cl (check_no a b c d HO.out _)) | (go_at_call 9; exact Calls.cl (overlap_is a b c d a b c d ((mt_self a b c d).trans HO.out) _)))))
  refine wpQuiet_nil ?_
  intro w5 h5
  have p5 := p4.still h5
  have q5 := q4.still h5
  have r5 := r4.still h5
  have m5 := m4.still h5
  have n5 := n4.still h5
  have HS5 := hid (HS4.out.trans h5)
  clear p4 q4 r4 m4 n4 HS4 h5 c0 c1 c2 c3 hne
  obtain ⟨f0, f1, ff⟩ := r5.cells
  go_wp2_with fail
  refine (gbound_any x y _).mono ?_
  rintro e w6 ⟨rfl, h6⟩
  have AA := Still.alloc w6 (.cells #[.int .i64 (bnd x), .int .i64 (bnd y)] 23)
  have p6 := (p5.still h6).still AA
  have q6 := (q5.still h6).still AA
  have r6 := (r5.still h6).still AA
  have m6 := (m5.still h6).still AA
  have n6 := (n5.still h6).still AA
  have k6 := newP_pb w6 (bnd x) (bnd y)
  have HS6 := hid ((HS5.out.trans h6).trans AA)
  clear p5 q5 r5 m5 n5 HS5 h6 AA f0 f1 ff
  go_wp2_with fail
  obtain ⟨W, eW⟩ : ∃ W, w6.alloc (.cells #[.int .i64 (bnd x), .int .i64 (bnd y)] 23) = W := ⟨_, rfl⟩
  simp only [newP] at k6
  rw [eW] at p6 q6 r6 m6 n6 k6 HS6 ⊢
  clear eW
  have c0 := Cl.cell r6.cells.1
  have c1 := Cl.cell r6.cells.2.1
  have f0 := Cl.cell k6.cells.1
  have f1 := Cl.cell k6.cells.2.1
  have hne := Aft.here W
  refine region_all (by kernel_rfl) (by kernel_rfl) ?_
  repeat (go_big_quiet_step ((first | (go_at_call 11; refine Calls.cl (around_r x y _ ?_ ?_ _) <;> omega) | (go_at_call 7; refine Calls.cl (inside_is _ _ _ _ _ _ (around_has x y _ ?_ ?_) _) <;> omega))))
  refine wpQuiet_nil ?_
  intro w7 h7
  have p7 := p6.still h7
  have q7 := q6.still h7
  have m7 := m6.still h7
  have n7 := n6.still h7
  have HS7 := hid (HS6.out.trans h7)
  clear p6 q6 r6 m6 n6 k6 HS6 h7 c0 c1 f0 f1 hne
  obtain ⟨c0, c1, c2, c3, cf⟩ := p7.cells
  obtain ⟨d0, d1, d2, d3, df⟩ := q7.cells
  obtain ⟨m0, m1, m2, m3, mf⟩ := m7.cells
  obtain ⟨n0, n1, n2, n3, nf⟩ := n7.cells
  go_wp2_with fail
  refine (overlap_is a b c d a' b' c' d' HT.out _).mono ?_
  rintro e w8 ⟨rfl, h8⟩
  have p8 := p7.still h8
  have q8 := q7.still h8
  have HS8 := hid (HS7.out.trans h8)
  clear p7 q7 m7 n7 HS7 h8 c0 c1 c2 c3 cf d0 d1 d2 d3 df m0 m1 m2 m3 mf n0 n1 n2 n3 nf
  obtain ⟨c0, c1, c2, c3, cf⟩ := p8.cells
  obtain ⟨d0, d1, d2, d3, df⟩ := q8.cells
  go_wp2_with fail
  refine (overlap_is a' b' c' d' a b c d ((mt_comm a b c d a' b' c' d').trans HT.out) _).mono ?_
  rintro e w9 ⟨rfl, h9⟩
  have HS9 := hid (HS8.out.trans h9)
  clear p8 q8 HS8 h9 c0 c1 c2 c3 cf d0 d1 d2 d3 df
  go_wp2_with fail
  go_ret
  exact ⟨rfl, HS9.out⟩
set_option maxHeartbeats 4000000 in
set_option maxRecDepth 100000 in
theorem meets_2 (a b c d a' b' c' d' x y : Int) (hO : okb a b c d = true) (h1 : mt a b c d x y x y = false) (hT : mt a b c d a' b' c' d' = false) (w : World) (ht : Tab w) : Calls Tryd.prog 3 #[bx a b c d, bx a' b' c' d', pt x y] w fun e w' => e = .returned (.bool true) ∧ Still w w' := by
  have p := ((newB_bb w a b c d).still (Still.alloc (newB w a b c d) (.cells #[.int .i64 a', .int .i64 b', .int .i64 c', .int .i64 d'] 25))).still (Still.alloc (newB (newB w a b c d) a' b' c' d') (.cells #[.int .i64 x, .int .i64 y] 23))
  have q := (newB_bb (newB w a b c d) a' b' c' d').still (Still.alloc (newB (newB w a b c d) a' b' c' d') (.cells #[.int .i64 x, .int .i64 y] 23))
  have r := newP_pb (newB (newB w a b c d) a' b' c' d') x y
  simp only [size_alloc] at q r
  have s0 := ((Still.alloc w (.cells #[.int .i64 a, .int .i64 b, .int .i64 c, .int .i64 d] 25)).trans (Still.alloc (newB w a b c d) (.cells #[.int .i64 a', .int .i64 b', .int .i64 c', .int .i64 d'] 25))).trans (Still.alloc (newB (newB w a b c d) a' b' c' d') (.cells #[.int .i64 x, .int .i64 y] 23))
  have E2 := fun w => eql_bx_t (x := mif false (max a a')) (y := mif false (max b b')) (z := mif false (min c c')) (u := mif false (min d d')) rfl rfl rfl rfl w
  have G1 := guard_bx
  have HO := hid hO
  have H1 := hid h1
  have HT := hid hT
  clear hO h1 hT
  go_enter Tryd.func3, Tryd.ntmps3
  go_wp2_with fail
  refine (awake_any _ (ht.still s0)).mono ?_
  rintro e w1 ⟨rfl, h1⟩
  have p1 := p.still h1
  have q1 := q.still h1
  have r1 := r.still h1
  have HS1 := hid (s0.trans h1)
  clear p q r s0 h1 ht
  obtain ⟨c0, c1, c2, c3, cf⟩ := p1.cells
  obtain ⟨d0, d1, d2, d3, df⟩ := q1.cells
  go_wp2_with fail
  refine (meet_is a b c d a' b' c' d' HT.out _).mono ?_
  rintro e w2 ⟨rfl, h2⟩
  have A2 := Still.alloc w2 (.cells #[.int .i64 (mif false (max a a')), .int .i64 (mif false (max b b')), .int .i64 (mif false (min c c')), .int .i64 (mif false (min d d'))] 25)
  have p2 := (p1.still h2).still A2
  have q2 := (q1.still h2).still A2
  have r2 := (r1.still h2).still A2
  have m2 := newB_bb w2 (mif false (max a a')) (mif false (max b b')) (mif false (min c c')) (mif false (min d d'))
  have HS2 := hid ((HS1.out.trans h2).trans A2)
  clear p1 q1 r1 HS1 h2 A2 c0 c1 c2 c3 cf d0 d1 d2 d3 df
  obtain ⟨c0, c1, c2, c3, cf⟩ := p2.cells
  obtain ⟨d0, d1, d2, d3, df⟩ := q2.cells
  go_wp2_with fail
  refine (meet_turned a b c d a' b' c' d' HT.out _).mono ?_
  rintro e w3 ⟨rfl, h3⟩
  have A3 := Still.alloc w3 (.cells #[.int .i64 (mif false (max a a')), .int .i64 (mif false (max b b')), .int .i64 (mif false (min c c')), .int .i64 (mif false (min d d'))] 25)
  have p3 := (p2.still h3).still A3
  have q3 := (q2.still h3).still A3
  have r3 := (r2.still h3).still A3
  have m3 := (m2.still h3).still A3
  have n3 := newB_bb w3 (mif false (max a a')) (mif false (max b b')) (mif false (min c c')) (mif false (min d d'))
  have HS3 := hid ((HS2.out.trans h3).trans A3)
  clear p2 q2 r2 m2 HS2 h3 A3 c0 c1 c2 c3 cf d0 d1 d2 d3 df
  obtain ⟨c0, c1, c2, c3, cf⟩ := p3.cells
  obtain ⟨f0, f1, ff⟩ := r3.cells
  go_wp2_with fail
  refine (inside_is a b c d x y H1.out _).mono ?_
  rintro e w4 ⟨rfl, h4⟩
  have p4 := p3.still h4
  have q4 := q3.still h4
  have r4 := r3.still h4
  have m4 := m3.still h4
  have n4 := n3.still h4
  have HS4 := hid (HS3.out.trans h4)
  clear p3 q3 r3 m3 n3 HS3 h4 c0 c1 c2 c3 cf f0 f1 ff
  have c0 := Cl.cell p4.cells.1
  have c1 := Cl.cell p4.cells.2.1
  have c2 := Cl.cell p4.cells.2.2.1
  have c3 := Cl.cell p4.cells.2.2.2.1
  have hne := Aft.here w4
  go_wp2_with fail
  refine region_all (by kernel_rfl) (by kernel_rfl) ?_
  repeat (go_big_quiet_step ((first | (go_at_call 8; exact Calls.cl (check_yes a b c d HO.out _)) | (go_at_call 9; exact Calls.cl (overlap_is a b c d a b c d ((mt_self a b c d).trans HO.out) _)))))
  refine wpQuiet_nil ?_
  intro w5 h5
  have p5 := p4.still h5
  have q5 := q4.still h5
  have r5 := r4.still h5
  have m5 := m4.still h5
  have n5 := n4.still h5
  have HS5 := hid (HS4.out.trans h5)
  clear p4 q4 r4 m4 n4 HS4 h5 c0 c1 c2 c3 hne
  obtain ⟨f0, f1, ff⟩ := r5.cells
  go_wp2_with fail
  refine (gbound_any x y _).mono ?_
  rintro e w6 ⟨rfl, h6⟩
  have AA := Still.alloc w6 (.cells #[.int .i64 (bnd x), .int .i64 (bnd y)] 23)
  have p6 := (p5.still h6).still AA
  have q6 := (q5.still h6).still AA
  have r6 := (r5.still h6).still AA
  have m6 := (m5.still h6).still AA
  have n6 := (n5.still h6).still AA
  have k6 := newP_pb w6 (bnd x) (bnd y)
  have HS6 := hid ((HS5.out.trans h6).trans AA)
  clear p5 q5 r5 m5 n5 HS5 h6 AA f0 f1 ff
  go_wp2_with fail
  obtain ⟨W, eW⟩ : ∃ W, w6.alloc (.cells #[.int .i64 (bnd x), .int .i64 (bnd y)] 23) = W := ⟨_, rfl⟩
  simp only [newP] at k6
  rw [eW] at p6 q6 r6 m6 n6 k6 HS6 ⊢
  clear eW
  have c0 := Cl.cell r6.cells.1
  have c1 := Cl.cell r6.cells.2.1
  have f0 := Cl.cell k6.cells.1
  have f1 := Cl.cell k6.cells.2.1
  have hne := Aft.here W
  refine region_all (by kernel_rfl) (by kernel_rfl) ?_
  repeat (go_big_quiet_step ((first | (go_at_call 11; refine Calls.cl (around_r x y _ ?_ ?_ _) <;> omega) | (go_at_call 7; refine Calls.cl (inside_is _ _ _ _ _ _ (around_has x y _ ?_ ?_) _) <;> omega))))
  refine wpQuiet_nil ?_
  intro w7 h7
  have p7 := p6.still h7
  have q7 := q6.still h7
  have m7 := m6.still h7
  have n7 := n6.still h7
  have HS7 := hid (HS6.out.trans h7)
  clear p6 q6 r6 m6 n6 k6 HS6 h7 c0 c1 f0 f1 hne
  obtain ⟨c0, c1, c2, c3, cf⟩ := p7.cells
  obtain ⟨d0, d1, d2, d3, df⟩ := q7.cells
  obtain ⟨m0, m1, m2, m3, mf⟩ := m7.cells
  obtain ⟨n0, n1, n2, n3, nf⟩ := n7.cells
  go_wp2_with fail
  refine (overlap_is a b c d a' b' c' d' HT.out _).mono ?_
  rintro e w8 ⟨rfl, h8⟩
  have p8 := p7.still h8
  have q8 := q7.still h8
  have HS8 := hid (HS7.out.trans h8)
  clear p7 q7 m7 n7 HS7 h8 c0 c1 c2 c3 cf d0 d1 d2 d3 df m0 m1 m2 m3 mf n0 n1 n2 n3 nf
  obtain ⟨c0, c1, c2, c3, cf⟩ := p8.cells
  obtain ⟨d0, d1, d2, d3, df⟩ := q8.cells
  go_wp2_with fail
  refine (overlap_is a' b' c' d' a b c d ((mt_comm a b c d a' b' c' d').trans HT.out) _).mono ?_
  rintro e w9 ⟨rfl, h9⟩
  have HS9 := hid (HS8.out.trans h9)
  clear p8 q8 HS8 h9 c0 c1 c2 c3 cf d0 d1 d2 d3 df
  go_wp2_with fail
  go_ret
  exact ⟨rfl, HS9.out⟩
set_option maxHeartbeats 4000000 in
set_option maxRecDepth 100000 in
theorem meets_3 (a b c d a' b' c' d' x y : Int) (hO : okb a b c d = true) (h1 : mt a b c d x y x y = false) (hT : mt a b c d a' b' c' d' = true) (h3 : mt (mif true (max a a')) (mif true (max b b')) (mif true (min c c')) (mif true (min d d')) x y x y = false) (w : World) (ht : Tab w) : Calls Tryd.prog 3 #[bx a b c d, bx a' b' c' d', pt x y] w fun e w' => e = .returned (.bool true) ∧ Still w w' := by
  have p := ((newB_bb w a b c d).still (Still.alloc (newB w a b c d) (.cells #[.int .i64 a', .int .i64 b', .int .i64 c', .int .i64 d'] 25))).still (Still.alloc (newB (newB w a b c d) a' b' c' d') (.cells #[.int .i64 x, .int .i64 y] 23))
  have q := (newB_bb (newB w a b c d) a' b' c' d').still (Still.alloc (newB (newB w a b c d) a' b' c' d') (.cells #[.int .i64 x, .int .i64 y] 23))
  have r := newP_pb (newB (newB w a b c d) a' b' c' d') x y
  simp only [size_alloc] at q r
  have s0 := ((Still.alloc w (.cells #[.int .i64 a, .int .i64 b, .int .i64 c, .int .i64 d] 25)).trans (Still.alloc (newB w a b c d) (.cells #[.int .i64 a', .int .i64 b', .int .i64 c', .int .i64 d'] 25))).trans (Still.alloc (newB (newB w a b c d) a' b' c' d') (.cells #[.int .i64 x, .int .i64 y] 23))
  have E2 := fun w => eql_bx_t (x := mif true (max a a')) (y := mif true (max b b')) (z := mif true (min c c')) (u := mif true (min d d')) rfl rfl rfl rfl w
  have G1 := guard_bx
  have HO := hid hO
  have H1 := hid h1
  have HT := hid hT
  have H3 := hid h3
  clear hO h1 hT h3
  go_enter Tryd.func3, Tryd.ntmps3
  go_wp2_with fail
  refine (awake_any _ (ht.still s0)).mono ?_
  rintro e w1 ⟨rfl, h1⟩
  have p1 := p.still h1
  have q1 := q.still h1
  have r1 := r.still h1
  have HS1 := hid (s0.trans h1)
  clear p q r s0 h1 ht
  obtain ⟨c0, c1, c2, c3, cf⟩ := p1.cells
  obtain ⟨d0, d1, d2, d3, df⟩ := q1.cells
  go_wp2_with fail
  refine (meet_is a b c d a' b' c' d' HT.out _).mono ?_
  rintro e w2 ⟨rfl, h2⟩
  have A2 := Still.alloc w2 (.cells #[.int .i64 (mif true (max a a')), .int .i64 (mif true (max b b')), .int .i64 (mif true (min c c')), .int .i64 (mif true (min d d'))] 25)
  have p2 := (p1.still h2).still A2
  have q2 := (q1.still h2).still A2
  have r2 := (r1.still h2).still A2
  have m2 := newB_bb w2 (mif true (max a a')) (mif true (max b b')) (mif true (min c c')) (mif true (min d d'))
  have HS2 := hid ((HS1.out.trans h2).trans A2)
  clear p1 q1 r1 HS1 h2 A2 c0 c1 c2 c3 cf d0 d1 d2 d3 df
  obtain ⟨c0, c1, c2, c3, cf⟩ := p2.cells
  obtain ⟨d0, d1, d2, d3, df⟩ := q2.cells
  go_wp2_with fail
  refine (meet_turned a b c d a' b' c' d' HT.out _).mono ?_
  rintro e w3 ⟨rfl, h3⟩
  have A3 := Still.alloc w3 (.cells #[.int .i64 (mif true (max a a')), .int .i64 (mif true (max b b')), .int .i64 (mif true (min c c')), .int .i64 (mif true (min d d'))] 25)
  have p3 := (p2.still h3).still A3
  have q3 := (q2.still h3).still A3
  have r3 := (r2.still h3).still A3
  have m3 := (m2.still h3).still A3
  have n3 := newB_bb w3 (mif true (max a a')) (mif true (max b b')) (mif true (min c c')) (mif true (min d d'))
  have HS3 := hid ((HS2.out.trans h3).trans A3)
  clear p2 q2 r2 m2 HS2 h3 A3 c0 c1 c2 c3 cf d0 d1 d2 d3 df
  obtain ⟨c0, c1, c2, c3, cf⟩ := p3.cells
  obtain ⟨f0, f1, ff⟩ := r3.cells
  go_wp2_with fail
  refine (inside_is a b c d x y H1.out _).mono ?_
  rintro e w4 ⟨rfl, h4⟩
  have p4 := p3.still h4
  have q4 := q3.still h4
  have r4 := r3.still h4
  have m4 := m3.still h4
  have n4 := n3.still h4
  have HS4 := hid (HS3.out.trans h4)
  clear p3 q3 r3 m3 n3 HS3 h4 c0 c1 c2 c3 cf f0 f1 ff
  obtain ⟨c0, c1, c2, c3, cf⟩ := m4.cells
  obtain ⟨f0, f1, ff⟩ := r4.cells
  go_wp2_with fail
  refine (inside_is _ _ _ _ x y H3.out _).mono ?_
  rintro e w5 ⟨rfl, h5⟩
  have p5 := p4.still h5
  have q5 := q4.still h5
  have r5 := r4.still h5
  have m5 := m4.still h5
  have n5 := n4.still h5
  have HS5 := hid (HS4.out.trans h5)
  clear p4 q4 r4 m4 n4 HS4 h5 c0 c1 c2 c3 cf f0 f1 ff
  have c0 := Cl.cell p5.cells.1
  have c1 := Cl.cell p5.cells.2.1
  have c2 := Cl.cell p5.cells.2.2.1
  have c3 := Cl.cell p5.cells.2.2.2.1
  have hne := Aft.here w5
  go_wp2_with fail
  refine region_all (by kernel_rfl) (by kernel_rfl) ?_
  repeat (go_big_quiet_step ((first | (go_at_call 8; exact Calls.cl (check_yes a b c d HO.out _)) | (go_at_call 9; exact Calls.cl (overlap_is a b c d a b c d ((mt_self a b c d).trans HO.out) _)))))
  refine wpQuiet_nil ?_
  intro w6 h6
  have p6 := p5.still h6
  have q6 := q5.still h6
  have r6 := r5.still h6
  have m6 := m5.still h6
  have n6 := n5.still h6
  have HS6 := hid (HS5.out.trans h6)
  clear p5 q5 r5 m5 n5 HS5 h6 c0 c1 c2 c3 hne
  obtain ⟨f0, f1, ff⟩ := r6.cells
  go_wp2_with fail
  refine (gbound_any x y _).mono ?_
  rintro e w7 ⟨rfl, h7⟩
  have AA := Still.alloc w7 (.cells #[.int .i64 (bnd x), .int .i64 (bnd y)] 23)
  have p7 := (p6.still h7).still AA
  have q7 := (q6.still h7).still AA
  have r7 := (r6.still h7).still AA
  have m7 := (m6.still h7).still AA
  have n7 := (n6.still h7).still AA
  have k7 := newP_pb w7 (bnd x) (bnd y)
  have HS7 := hid ((HS6.out.trans h7).trans AA)
  clear p6 q6 r6 m6 n6 HS6 h7 AA f0 f1 ff
  go_wp2_with fail
  obtain ⟨W, eW⟩ : ∃ W, w7.alloc (.cells #[.int .i64 (bnd x), .int .i64 (bnd y)] 23) = W := ⟨_, rfl⟩
  simp only [newP] at k7
  rw [eW] at p7 q7 r7 m7 n7 k7 HS7 ⊢
  clear eW
  have c0 := Cl.cell r7.cells.1
  have c1 := Cl.cell r7.cells.2.1
  have f0 := Cl.cell k7.cells.1
  have f1 := Cl.cell k7.cells.2.1
  have hne := Aft.here W
  refine region_all (by kernel_rfl) (by kernel_rfl) ?_
  repeat (go_big_quiet_step ((first | (go_at_call 11; refine Calls.cl (around_r x y _ ?_ ?_ _) <;> omega) | (go_at_call 7; refine Calls.cl (inside_is _ _ _ _ _ _ (around_has x y _ ?_ ?_) _) <;> omega))))
  refine wpQuiet_nil ?_
  intro w8 h8
  have p8 := p7.still h8
  have q8 := q7.still h8
  have m8 := m7.still h8
  have n8 := n7.still h8
  have HS8 := hid (HS7.out.trans h8)
  clear p7 q7 r7 m7 n7 k7 HS7 h8 c0 c1 f0 f1 hne
  obtain ⟨c0, c1, c2, c3, cf⟩ := p8.cells
  obtain ⟨d0, d1, d2, d3, df⟩ := q8.cells
  obtain ⟨m0, m1, m2, m3, mf⟩ := m8.cells
  obtain ⟨n0, n1, n2, n3, nf⟩ := n8.cells
  go_wp2_with fail
  refine (overlap_is a b c d a' b' c' d' HT.out _).mono ?_
  rintro e w9 ⟨rfl, h9⟩
  have p9 := p8.still h9
  have q9 := q8.still h9
  have HS9 := hid (HS8.out.trans h9)
  clear p8 q8 m8 n8 HS8 h9 c0 c1 c2 c3 cf d0 d1 d2 d3 df m0 m1 m2 m3 mf n0 n1 n2 n3 nf
  obtain ⟨c0, c1, c2, c3, cf⟩ := p9.cells
  obtain ⟨d0, d1, d2, d3, df⟩ := q9.cells
  go_wp2_with fail
  refine (overlap_is a' b' c' d' a b c d ((mt_comm a b c d a' b' c' d').trans HT.out) _).mono ?_
  rintro e w10 ⟨rfl, h10⟩
  have HS10 := hid (HS9.out.trans h10)
  clear p9 q9 HS9 h10 c0 c1 c2 c3 cf d0 d1 d2 d3 df
  go_wp2_with fail
  go_ret
  exact ⟨rfl, HS10.out⟩
set_option maxHeartbeats 4000000 in
set_option maxRecDepth 100000 in
theorem meets_4 (a b c d a' b' c' d' x y : Int) (hO : okb a b c d = true) (h1 : mt a b c d x y x y = true) (hT : mt a b c d a' b' c' d' = false) (h2 : mt a' b' c' d' x y x y = false) (w : World) (ht : Tab w) : Calls Tryd.prog 3 #[bx a b c d, bx a' b' c' d', pt x y] w fun e w' => e = .returned (.bool true) ∧ Still w w' := by
  have p := ((newB_bb w a b c d).still (Still.alloc (newB w a b c d) (.cells #[.int .i64 a', .int .i64 b', .int .i64 c', .int .i64 d'] 25))).still (Still.alloc (newB (newB w a b c d) a' b' c' d') (.cells #[.int .i64 x, .int .i64 y] 23))
  have q := (newB_bb (newB w a b c d) a' b' c' d').still (Still.alloc (newB (newB w a b c d) a' b' c' d') (.cells #[.int .i64 x, .int .i64 y] 23))
  have r := newP_pb (newB (newB w a b c d) a' b' c' d') x y
  simp only [size_alloc] at q r
  have s0 := ((Still.alloc w (.cells #[.int .i64 a, .int .i64 b, .int .i64 c, .int .i64 d] 25)).trans (Still.alloc (newB w a b c d) (.cells #[.int .i64 a', .int .i64 b', .int .i64 c', .int .i64 d'] 25))).trans (Still.alloc (newB (newB w a b c d) a' b' c' d') (.cells #[.int .i64 x, .int .i64 y] 23))
  have E2 := fun w => eql_bx_t (x := mif false (max a a')) (y := mif false (max b b')) (z := mif false (min c c')) (u := mif false (min d d')) rfl rfl rfl rfl w
  have G1 := guard_bx
  have HO := hid hO
  have H1 := hid h1
  have HT := hid hT
  have H2 := hid h2
  clear hO h1 hT h2
  go_enter Tryd.func3, Tryd.ntmps3
  go_wp2_with fail
  refine (awake_any _ (ht.still s0)).mono ?_
  rintro e w1 ⟨rfl, h1⟩
  have p1 := p.still h1
  have q1 := q.still h1
  have r1 := r.still h1
  have HS1 := hid (s0.trans h1)
  clear p q r s0 h1 ht
  obtain ⟨c0, c1, c2, c3, cf⟩ := p1.cells
  obtain ⟨d0, d1, d2, d3, df⟩ := q1.cells
  go_wp2_with fail
  refine (meet_is a b c d a' b' c' d' HT.out _).mono ?_
  rintro e w2 ⟨rfl, h2⟩
  have A2 := Still.alloc w2 (.cells #[.int .i64 (mif false (max a a')), .int .i64 (mif false (max b b')), .int .i64 (mif false (min c c')), .int .i64 (mif false (min d d'))] 25)
  have p2 := (p1.still h2).still A2
  have q2 := (q1.still h2).still A2
  have r2 := (r1.still h2).still A2
  have m2 := newB_bb w2 (mif false (max a a')) (mif false (max b b')) (mif false (min c c')) (mif false (min d d'))
  have HS2 := hid ((HS1.out.trans h2).trans A2)
  clear p1 q1 r1 HS1 h2 A2 c0 c1 c2 c3 cf d0 d1 d2 d3 df
  obtain ⟨c0, c1, c2, c3, cf⟩ := p2.cells
  obtain ⟨d0, d1, d2, d3, df⟩ := q2.cells
  go_wp2_with fail
  refine (meet_turned a b c d a' b' c' d' HT.out _).mono ?_
  rintro e w3 ⟨rfl, h3⟩
  have A3 := Still.alloc w3 (.cells #[.int .i64 (mif false (max a a')), .int .i64 (mif false (max b b')), .int .i64 (mif false (min c c')), .int .i64 (mif false (min d d'))] 25)
  have p3 := (p2.still h3).still A3
  have q3 := (q2.still h3).still A3
  have r3 := (r2.still h3).still A3
  have m3 := (m2.still h3).still A3
  have n3 := newB_bb w3 (mif false (max a a')) (mif false (max b b')) (mif false (min c c')) (mif false (min d d'))
  have HS3 := hid ((HS2.out.trans h3).trans A3)
  clear p2 q2 r2 m2 HS2 h3 A3 c0 c1 c2 c3 cf d0 d1 d2 d3 df
  obtain ⟨c0, c1, c2, c3, cf⟩ := p3.cells
  obtain ⟨f0, f1, ff⟩ := r3.cells
  go_wp2_with fail
  refine (inside_is a b c d x y H1.out _).mono ?_
  rintro e w4 ⟨rfl, h4⟩
  have p4 := p3.still h4
  have q4 := q3.still h4
  have r4 := r3.still h4
  have m4 := m3.still h4
  have n4 := n3.still h4
  have HS4 := hid (HS3.out.trans h4)
  clear p3 q3 r3 m3 n3 HS3 h4 c0 c1 c2 c3 cf f0 f1 ff
  obtain ⟨c0, c1, c2, c3, cf⟩ := q4.cells
  obtain ⟨f0, f1, ff⟩ := r4.cells
  go_wp2_with fail
  refine (inside_is a' b' c' d' x y H2.out _).mono ?_
  rintro e w5 ⟨rfl, h5⟩
  have p5 := p4.still h5
  have q5 := q4.still h5
  have r5 := r4.still h5
  have m5 := m4.still h5
  have n5 := n4.still h5
  have HS5 := hid (HS4.out.trans h5)
  clear p4 q4 r4 m4 n4 HS4 h5 c0 c1 c2 c3 cf f0 f1 ff
  have c0 := Cl.cell p5.cells.1
  have c1 := Cl.cell p5.cells.2.1
  have c2 := Cl.cell p5.cells.2.2.1
  have c3 := Cl.cell p5.cells.2.2.2.1
  have hne := Aft.here w5
  go_wp2_with fail
  refine region_all (by kernel_rfl) (by kernel_rfl) ?_
  repeat (go_big_quiet_step ((first | (go_at_call 8; exact Calls.cl (check_yes a b c d HO.out _)) | (go_at_call 9; exact Calls.cl (overlap_is a b c d a b c d ((mt_self a b c d).trans HO.out) _)))))
  refine wpQuiet_nil ?_
  intro w6 h6
  have p6 := p5.still h6
  have q6 := q5.still h6
  have r6 := r5.still h6
  have m6 := m5.still h6
  have n6 := n5.still h6
  have HS6 := hid (HS5.out.trans h6)
  clear p5 q5 r5 m5 n5 HS5 h6 c0 c1 c2 c3 hne
  obtain ⟨f0, f1, ff⟩ := r6.cells
  go_wp2_with fail
  refine (gbound_any x y _).mono ?_
  rintro e w7 ⟨rfl, h7⟩
  have AA := Still.alloc w7 (.cells #[.int .i64 (bnd x), .int .i64 (bnd y)] 23)
  have p7 := (p6.still h7).still AA
  have q7 := (q6.still h7).still AA
  have r7 := (r6.still h7).still AA
  have m7 := (m6.still h7).still AA
  have n7 := (n6.still h7).still AA
  have k7 := newP_pb w7 (bnd x) (bnd y)
  have HS7 := hid ((HS6.out.trans h7).trans AA)
  clear p6 q6 r6 m6 n6 HS6 h7 AA f0 f1 ff
  go_wp2_with fail
  obtain ⟨W, eW⟩ : ∃ W, w7.alloc (.cells #[.int .i64 (bnd x), .int .i64 (bnd y)] 23) = W := ⟨_, rfl⟩
  simp only [newP] at k7
  rw [eW] at p7 q7 r7 m7 n7 k7 HS7 ⊢
  clear eW
  have c0 := Cl.cell r7.cells.1
  have c1 := Cl.cell r7.cells.2.1
  have f0 := Cl.cell k7.cells.1
  have f1 := Cl.cell k7.cells.2.1
  have hne := Aft.here W
  refine region_all (by kernel_rfl) (by kernel_rfl) ?_
  repeat (go_big_quiet_step ((first | (go_at_call 11; refine Calls.cl (around_r x y _ ?_ ?_ _) <;> omega) | (go_at_call 7; refine Calls.cl (inside_is _ _ _ _ _ _ (around_has x y _ ?_ ?_) _) <;> omega))))
  refine wpQuiet_nil ?_
  intro w8 h8
  have p8 := p7.still h8
  have q8 := q7.still h8
  have m8 := m7.still h8
  have n8 := n7.still h8
  have HS8 := hid (HS7.out.trans h8)
  clear p7 q7 r7 m7 n7 k7 HS7 h8 c0 c1 f0 f1 hne
  obtain ⟨c0, c1, c2, c3, cf⟩ := p8.cells
  obtain ⟨d0, d1, d2, d3, df⟩ := q8.cells
  obtain ⟨m0, m1, m2, m3, mf⟩ := m8.cells
  obtain ⟨n0, n1, n2, n3, nf⟩ := n8.cells
  go_wp2_with fail
  refine (overlap_is a b c d a' b' c' d' HT.out _).mono ?_
  rintro e w9 ⟨rfl, h9⟩
  have p9 := p8.still h9
  have q9 := q8.still h9
  have HS9 := hid (HS8.out.trans h9)
  clear p8 q8 m8 n8 HS8 h9 c0 c1 c2 c3 cf d0 d1 d2 d3 df m0 m1 m2 m3 mf n0 n1 n2 n3 nf
  obtain ⟨c0, c1, c2, c3, cf⟩ := p9.cells
  obtain ⟨d0, d1, d2, d3, df⟩ := q9.cells
  go_wp2_with fail
  refine (overlap_is a' b' c' d' a b c d ((mt_comm a b c d a' b' c' d').trans HT.out) _).mono ?_
  rintro e w10 ⟨rfl, h10⟩
  have HS10 := hid (HS9.out.trans h10)
  clear p9 q9 HS9 h10 c0 c1 c2 c3 cf d0 d1 d2 d3 df
  go_wp2_with fail
  go_ret
  exact ⟨rfl, HS10.out⟩
set_option maxHeartbeats 4000000 in
set_option maxRecDepth 100000 in
theorem meets_5 (a b c d a' b' c' d' x y : Int) (hO : okb a b c d = true) (h1 : mt a b c d x y x y = true) (hT : mt a b c d a' b' c' d' = true) (h2 : mt a' b' c' d' x y x y = true) (h3 : mt (mif true (max a a')) (mif true (max b b')) (mif true (min c c')) (mif true (min d d')) x y x y = true) (w : World) (ht : Tab w) : Calls Tryd.prog 3 #[bx a b c d, bx a' b' c' d', pt x y] w fun e w' => e = .returned (.bool true) ∧ Still w w' := by
  have p := ((newB_bb w a b c d).still (Still.alloc (newB w a b c d) (.cells #[.int .i64 a', .int .i64 b', .int .i64 c', .int .i64 d'] 25))).still (Still.alloc (newB (newB w a b c d) a' b' c' d') (.cells #[.int .i64 x, .int .i64 y] 23))
  have q := (newB_bb (newB w a b c d) a' b' c' d').still (Still.alloc (newB (newB w a b c d) a' b' c' d') (.cells #[.int .i64 x, .int .i64 y] 23))
  have r := newP_pb (newB (newB w a b c d) a' b' c' d') x y
  simp only [size_alloc] at q r
  have s0 := ((Still.alloc w (.cells #[.int .i64 a, .int .i64 b, .int .i64 c, .int .i64 d] 25)).trans (Still.alloc (newB w a b c d) (.cells #[.int .i64 a', .int .i64 b', .int .i64 c', .int .i64 d'] 25))).trans (Still.alloc (newB (newB w a b c d) a' b' c' d') (.cells #[.int .i64 x, .int .i64 y] 23))
  have E2 := fun w => eql_bx_t (x := mif true (max a a')) (y := mif true (max b b')) (z := mif true (min c c')) (u := mif true (min d d')) rfl rfl rfl rfl w
  have G1 := guard_bx
  have HO := hid hO
  have H1 := hid h1
  have HT := hid hT
  have H2 := hid h2
  have H3 := hid h3
  clear hO h1 hT h2 h3
  go_enter Tryd.func3, Tryd.ntmps3
  go_wp2_with fail
  refine (awake_any _ (ht.still s0)).mono ?_
  rintro e w1 ⟨rfl, h1⟩
  have p1 := p.still h1
  have q1 := q.still h1
  have r1 := r.still h1
  have HS1 := hid (s0.trans h1)
  clear p q r s0 h1 ht
  obtain ⟨c0, c1, c2, c3, cf⟩ := p1.cells
  obtain ⟨d0, d1, d2, d3, df⟩ := q1.cells
  go_wp2_with fail
  refine (meet_is a b c d a' b' c' d' HT.out _).mono ?_
  rintro e w2 ⟨rfl, h2⟩
  have A2 := Still.alloc w2 (.cells #[.int .i64 (mif true (max a a')), .int .i64 (mif true (max b b')), .int .i64 (mif true (min c c')), .int .i64 (mif true (min d d'))] 25)
  have p2 := (p1.still h2).still A2
  have q2 := (q1.still h2).still A2
  have r2 := (r1.still h2).still A2
  have m2 := newB_bb w2 (mif true (max a a')) (mif true (max b b')) (mif true (min c c')) (mif true (min d d'))
  have HS2 := hid ((HS1.out.trans h2).trans A2)
  clear p1 q1 r1 HS1 h2 A2 c0 c1 c2 c3 cf d0 d1 d2 d3 df
  obtain ⟨c0, c1, c2, c3, cf⟩ := p2.cells
  obtain ⟨d0, d1, d2, d3, df⟩ := q2.cells
  go_wp2_with fail
  refine (meet_turned a b c d a' b' c' d' HT.out _).mono ?_
  rintro e w3 ⟨rfl, h3⟩
  have A3 := Still.alloc w3 (.cells #[.int .i64 (mif true (max a a')), .int .i64 (mif true (max b b')), .int .i64 (mif true (min c c')), .int .i64 (mif true (min d d'))] 25)
  have p3 := (p2.still h3).still A3
  have q3 := (q2.still h3).still A3
  have r3 := (r2.still h3).still A3
  have m3 := (m2.still h3).still A3
  have n3 := newB_bb w3 (mif true (max a a')) (mif true (max b b')) (mif true (min c c')) (mif true (min d d'))
  have HS3 := hid ((HS2.out.trans h3).trans A3)
  clear p2 q2 r2 m2 HS2 h3 A3 c0 c1 c2 c3 cf d0 d1 d2 d3 df
  obtain ⟨c0, c1, c2, c3, cf⟩ := p3.cells
  obtain ⟨f0, f1, ff⟩ := r3.cells
  go_wp2_with fail
  refine (inside_is a b c d x y H1.out _).mono ?_
  rintro e w4 ⟨rfl, h4⟩
  have p4 := p3.still h4
  have q4 := q3.still h4
  have r4 := r3.still h4
  have m4 := m3.still h4
  have n4 := n3.still h4
  have HS4 := hid (HS3.out.trans h4)
  clear p3 q3 r3 m3 n3 HS3 h4 c0 c1 c2 c3 cf f0 f1 ff
  obtain ⟨c0, c1, c2, c3, cf⟩ := q4.cells
  obtain ⟨f0, f1, ff⟩ := r4.cells
  go_wp2_with fail
  refine (inside_is a' b' c' d' x y H2.out _).mono ?_
  rintro e w5 ⟨rfl, h5⟩
  have p5 := p4.still h5
  have q5 := q4.still h5
  have r5 := r4.still h5
  have m5 := m4.still h5
  have n5 := n4.still h5
  have HS5 := hid (HS4.out.trans h5)
  clear p4 q4 r4 m4 n4 HS4 h5 c0 c1 c2 c3 cf f0 f1 ff
  obtain ⟨c0, c1, c2, c3, cf⟩ := m5.cells
  obtain ⟨f0, f1, ff⟩ := r5.cells
  go_wp2_with fail
  refine (inside_is _ _ _ _ x y H3.out _).mono ?_
  rintro e w6 ⟨rfl, h6⟩
  have p6 := p5.still h6
  have q6 := q5.still h6
  have r6 := r5.still h6
  have m6 := m5.still h6
  have n6 := n5.still h6
  have HS6 := hid (HS5.out.trans h6)
  clear p5 q5 r5 m5 n5 HS5 h6 c0 c1 c2 c3 cf f0 f1 ff
  have c0 := Cl.cell p6.cells.1
  have c1 := Cl.cell p6.cells.2.1
  have c2 := Cl.cell p6.cells.2.2.1
  have c3 := Cl.cell p6.cells.2.2.2.1
  have hne := Aft.here w6
  go_wp2_with fail
  refine region_all (by kernel_rfl) (by kernel_rfl) ?_
  repeat (go_big_quiet_step ((first | (go_at_call 8; exact Calls.cl (check_yes a b c d HO.out _)) | (go_at_call 9; exact Calls.cl (overlap_is a b c d a b c d ((mt_self a b c d).trans HO.out) _)))))
  refine wpQuiet_nil ?_
  intro w7 h7
  have p7 := p6.still h7
  have q7 := q6.still h7
  have r7 := r6.still h7
  have m7 := m6.still h7
  have n7 := n6.still h7
  have HS7 := hid (HS6.out.trans h7)
  clear p6 q6 r6 m6 n6 HS6 h7 c0 c1 c2 c3 hne
  obtain ⟨f0, f1, ff⟩ := r7.cells
  go_wp2_with fail
  refine (gbound_any x y _).mono ?_
  rintro e w8 ⟨rfl, h8⟩
  have AA := Still.alloc w8 (.cells #[.int .i64 (bnd x), .int .i64 (bnd y)] 23)
  have p8 := (p7.still h8).still AA
  have q8 := (q7.still h8).still AA
  have r8 := (r7.still h8).still AA
  have m8 := (m7.still h8).still AA
  have n8 := (n7.still h8).still AA
  have k8 := newP_pb w8 (bnd x) (bnd y)
  have HS8 := hid ((HS7.out.trans h8).trans AA)
  clear p7 q7 r7 m7 n7 HS7 h8 AA f0 f1 ff
  go_wp2_with fail
  obtain ⟨W, eW⟩ : ∃ W, w8.alloc (.cells #[.int .i64 (bnd x), .int .i64 (bnd y)] 23) = W := ⟨_, rfl⟩
  simp only [newP] at k8
  rw [eW] at p8 q8 r8 m8 n8 k8 HS8 ⊢
  clear eW
  have c0 := Cl.cell r8.cells.1
  have c1 := Cl.cell r8.cells.2.1
  have f0 := Cl.cell k8.cells.1
  have f1 := Cl.cell k8.cells.2.1
  have hne := Aft.here W
  refine region_all (by kernel_rfl) (by kernel_rfl) ?_
  repeat (go_big_quiet_step ((first | (go_at_call 11; refine Calls.cl (around_r x y _ ?_ ?_ _) <;> omega) | (go_at_call 7; refine Calls.cl (inside_is _ _ _ _ _ _ (around_has x y _ ?_ ?_) _) <;> omega))))
  refine wpQuiet_nil ?_
  intro w9 h9
  have p9 := p8.still h9
  have q9 := q8.still h9
  have m9 := m8.still h9
  have n9 := n8.still h9
  have HS9 := hid (HS8.out.trans h9)
  clear p8 q8 r8 m8 n8 k8 HS8 h9 c0 c1 f0 f1 hne
  obtain ⟨c0, c1, c2, c3, cf⟩ := p9.cells
  obtain ⟨d0, d1, d2, d3, df⟩ := q9.cells
  obtain ⟨m0, m1, m2, m3, mf⟩ := m9.cells
  obtain ⟨n0, n1, n2, n3, nf⟩ := n9.cells
  go_wp2_with fail
  refine (overlap_is a b c d a' b' c' d' HT.out _).mono ?_
  rintro e w10 ⟨rfl, h10⟩
  have p10 := p9.still h10
  have q10 := q9.still h10
  have HS10 := hid (HS9.out.trans h10)
  clear p9 q9 m9 n9 HS9 h10 c0 c1 c2 c3 cf d0 d1 d2 d3 df m0 m1 m2 m3 mf n0 n1 n2 n3 nf
  obtain ⟨c0, c1, c2, c3, cf⟩ := p10.cells
  obtain ⟨d0, d1, d2, d3, df⟩ := q10.cells
  go_wp2_with fail
  refine (overlap_is a' b' c' d' a b c d ((mt_comm a b c d a' b' c' d').trans HT.out) _).mono ?_
  rintro e w11 ⟨rfl, h11⟩
  have HS11 := hid (HS10.out.trans h11)
  clear p10 q10 HS10 h11 c0 c1 c2 c3 cf d0 d1 d2 d3 df
  go_wp2_with fail
  go_ret
  exact ⟨rfl, HS11.out⟩
set_option maxHeartbeats 4000000 in
set_option maxRecDepth 100000 in
theorem meets_6 (a b c d a' b' c' d' x y : Int) (hO : okb a b c d = true) (h1 : mt a b c d x y x y = true) (hT : mt a b c d a' b' c' d' = true) (h2 : mt a' b' c' d' x y x y = false) (h3 : mt (mif true (max a a')) (mif true (max b b')) (mif true (min c c')) (mif true (min d d')) x y x y = false) (w : World) (ht : Tab w) : Calls Tryd.prog 3 #[bx a b c d, bx a' b' c' d', pt x y] w fun e w' => e = .returned (.bool true) ∧ Still w w' := by
  have p := ((newB_bb w a b c d).still (Still.alloc (newB w a b c d) (.cells #[.int .i64 a', .int .i64 b', .int .i64 c', .int .i64 d'] 25))).still (Still.alloc (newB (newB w a b c d) a' b' c' d') (.cells #[.int .i64 x, .int .i64 y] 23))
  have q := (newB_bb (newB w a b c d) a' b' c' d').still (Still.alloc (newB (newB w a b c d) a' b' c' d') (.cells #[.int .i64 x, .int .i64 y] 23))
  have r := newP_pb (newB (newB w a b c d) a' b' c' d') x y
  simp only [size_alloc] at q r
  have s0 := ((Still.alloc w (.cells #[.int .i64 a, .int .i64 b, .int .i64 c, .int .i64 d] 25)).trans (Still.alloc (newB w a b c d) (.cells #[.int .i64 a', .int .i64 b', .int .i64 c', .int .i64 d'] 25))).trans (Still.alloc (newB (newB w a b c d) a' b' c' d') (.cells #[.int .i64 x, .int .i64 y] 23))
  have E2 := fun w => eql_bx_t (x := mif true (max a a')) (y := mif true (max b b')) (z := mif true (min c c')) (u := mif true (min d d')) rfl rfl rfl rfl w
  have G1 := guard_bx
  have HO := hid hO
  have H1 := hid h1
  have HT := hid hT
  have H2 := hid h2
  have H3 := hid h3
  clear hO h1 hT h2 h3
  go_enter Tryd.func3, Tryd.ntmps3
  go_wp2_with fail
  refine (awake_any _ (ht.still s0)).mono ?_
  rintro e w1 ⟨rfl, h1⟩
  have p1 := p.still h1
  have q1 := q.still h1
  have r1 := r.still h1
  have HS1 := hid (s0.trans h1)
  clear p q r s0 h1 ht
  obtain ⟨c0, c1, c2, c3, cf⟩ := p1.cells
  obtain ⟨d0, d1, d2, d3, df⟩ := q1.cells
  go_wp2_with fail
  refine (meet_is a b c d a' b' c' d' HT.out _).mono ?_
  rintro e w2 ⟨rfl, h2⟩
  have A2 := Still.alloc w2 (.cells #[.int .i64 (mif true (max a a')), .int .i64 (mif true (max b b')), .int .i64 (mif true (min c c')), .int .i64 (mif true (min d d'))] 25)
  have p2 := (p1.still h2).still A2
  have q2 := (q1.still h2).still A2
  have r2 := (r1.still h2).still A2
  have m2 := newB_bb w2 (mif true (max a a')) (mif true (max b b')) (mif true (min c c')) (mif true (min d d'))
  have HS2 := hid ((HS1.out.trans h2).trans A2)
  clear p1 q1 r1 HS1 h2 A2 c0 c1 c2 c3 cf d0 d1 d2 d3 df
  obtain ⟨c0, c1, c2, c3, cf⟩ := p2.cells
  obtain ⟨d0, d1, d2, d3, df⟩ := q2.cells
  go_wp2_with fail
  refine (meet_turned a b c d a' b' c' d' HT.out _).mono ?_
  rintro e w3 ⟨rfl, h3⟩
  have A3 := Still.alloc w3 (.cells #[.int .i64 (mif true (max a a')), .int .i64 (mif true (max b b')), .int .i64 (mif true (min c c')), .int .i64 (mif true (min d d'))] 25)
  have p3 := (p2.still h3).still A3
  have q3 := (q2.still h3).still A3
  have r3 := (r2.still h3).still A3
  have m3 := (m2.still h3).still A3
  have n3 := newB_bb w3 (mif true (max a a')) (mif true (max b b')) (mif true (min c c')) (mif true (min d d'))
  have HS3 := hid ((HS2.out.trans h3).trans A3)
  clear p2 q2 r2 m2 HS2 h3 A3 c0 c1 c2 c3 cf d0 d1 d2 d3 df
  obtain ⟨c0, c1, c2, c3, cf⟩ := p3.cells
  obtain ⟨f0, f1, ff⟩ := r3.cells
  go_wp2_with fail
  refine (inside_is a b c d x y H1.out _).mono ?_
  rintro e w4 ⟨rfl, h4⟩
  have p4 := p3.still h4
  have q4 := q3.still h4
  have r4 := r3.still h4
  have m4 := m3.still h4
  have n4 := n3.still h4
  have HS4 := hid (HS3.out.trans h4)
  clear p3 q3 r3 m3 n3 HS3 h4 c0 c1 c2 c3 cf f0 f1 ff
  obtain ⟨c0, c1, c2, c3, cf⟩ := q4.cells
  obtain ⟨f0, f1, ff⟩ := r4.cells
  go_wp2_with fail
  refine (inside_is a' b' c' d' x y H2.out _).mono ?_
  rintro e w5 ⟨rfl, h5⟩
  have p5 := p4.still h5
  have q5 := q4.still h5
  have r5 := r4.still h5
  have m5 := m4.still h5
  have n5 := n4.still h5
  have HS5 := hid (HS4.out.trans h5)
  clear p4 q4 r4 m4 n4 HS4 h5 c0 c1 c2 c3 cf f0 f1 ff
  obtain ⟨c0, c1, c2, c3, cf⟩ := m5.cells
  obtain ⟨f0, f1, ff⟩ := r5.cells
  go_wp2_with fail
  refine (inside_is _ _ _ _ x y H3.out _).mono ?_
  rintro e w6 ⟨rfl, h6⟩
  have p6 := p5.still h6
  have q6 := q5.still h6
  have r6 := r5.still h6
  have m6 := m5.still h6
  have n6 := n5.still h6
  have HS6 := hid (HS5.out.trans h6)
  clear p5 q5 r5 m5 n5 HS5 h6 c0 c1 c2 c3 cf f0 f1 ff
  have c0 := Cl.cell p6.cells.1
  have c1 := Cl.cell p6.cells.2.1
  have c2 := Cl.cell p6.cells.2.2.1
  have c3 := Cl.cell p6.cells.2.2.2.1
  have hne := Aft.here w6
  go_wp2_with fail
  refine region_all (by kernel_rfl) (by kernel_rfl) ?_
  repeat (go_big_quiet_step ((first | (go_at_call 8; exact Calls.cl (check_yes a b c d HO.out _)) | (go_at_call 9; exact Calls.cl (overlap_is a b c d a b c d ((mt_self a b c d).trans HO.out) _)))))
  refine wpQuiet_nil ?_
  intro w7 h7
  have p7 := p6.still h7
  have q7 := q6.still h7
  have r7 := r6.still h7
  have m7 := m6.still h7
  have n7 := n6.still h7
  have HS7 := hid (HS6.out.trans h7)
  clear p6 q6 r6 m6 n6 HS6 h7 c0 c1 c2 c3 hne
  obtain ⟨f0, f1, ff⟩ := r7.cells
  go_wp2_with fail
  refine (gbound_any x y _).mono ?_
  rintro e w8 ⟨rfl, h8⟩
  have AA := Still.alloc w8 (.cells #[.int .i64 (bnd x), .int .i64 (bnd y)] 23)
  have p8 := (p7.still h8).still AA
  have q8 := (q7.still h8).still AA
  have r8 := (r7.still h8).still AA
  have m8 := (m7.still h8).still AA
  have n8 := (n7.still h8).still AA
  have k8 := newP_pb w8 (bnd x) (bnd y)
  have HS8 := hid ((HS7.out.trans h8).trans AA)
  clear p7 q7 r7 m7 n7 HS7 h8 AA f0 f1 ff
  go_wp2_with fail
  obtain ⟨W, eW⟩ : ∃ W, w8.alloc (.cells #[.int .i64 (bnd x), .int .i64 (bnd y)] 23) = W := ⟨_, rfl⟩
  simp only [newP] at k8
  rw [eW] at p8 q8 r8 m8 n8 k8 HS8 ⊢
  clear eW
  have c0 := Cl.cell r8.cells.1
  have c1 := Cl.cell r8.cells.2.1
  have f0 := Cl.cell k8.cells.1
  have f1 := Cl.cell k8.cells.2.1
  have hne := Aft.here W
  refine region_all (by kernel_rfl) (by kernel_rfl) ?_
  repeat (go_big_quiet_step ((first | (go_at_call 11; refine Calls.cl (around_r x y _ ?_ ?_ _) <;> omega) | (go_at_call 7; refine Calls.cl (inside_is _ _ _ _ _ _ (around_has x y _ ?_ ?_) _) <;> omega))))
  refine wpQuiet_nil ?_
  intro w9 h9
  have p9 := p8.still h9
  have q9 := q8.still h9
  have m9 := m8.still h9
  have n9 := n8.still h9
  have HS9 := hid (HS8.out.trans h9)
  clear p8 q8 r8 m8 n8 k8 HS8 h9 c0 c1 f0 f1 hne
  obtain ⟨c0, c1, c2, c3, cf⟩ := p9.cells
  obtain ⟨d0, d1, d2, d3, df⟩ := q9.cells
  obtain ⟨m0, m1, m2, m3, mf⟩ := m9.cells
  obtain ⟨n0, n1, n2, n3, nf⟩ := n9.cells
  go_wp2_with fail
  refine (overlap_is a b c d a' b' c' d' HT.out _).mono ?_
  rintro e w10 ⟨rfl, h10⟩
  have p10 := p9.still h10
  have q10 := q9.still h10
  have HS10 := hid (HS9.out.trans h10)
  clear p9 q9 m9 n9 HS9 h10 c0 c1 c2 c3 cf d0 d1 d2 d3 df m0 m1 m2 m3 mf n0 n1 n2 n3 nf
  obtain ⟨c0, c1, c2, c3, cf⟩ := p10.cells
  obtain ⟨d0, d1, d2, d3, df⟩ := q10.cells
  go_wp2_with fail
  refine (overlap_is a' b' c' d' a b c d ((mt_comm a b c d a' b' c' d').trans HT.out) _).mono ?_
  rintro e w11 ⟨rfl, h11⟩
  have HS11 := hid (HS10.out.trans h11)
  clear p10 q10 HS10 h11 c0 c1 c2 c3 cf d0 d1 d2 d3 df
  go_wp2_with fail
  go_ret
  exact ⟨rfl, HS11.out⟩
theorem meets_law (a b c d a' b' c' d' x y : Int) (w : World) (ht : Tab w) : Calls Tryd.prog 3 #[bx a b c d, bx a' b' c' d', pt x y] w fun e w' => e = .returned (.bool true) ∧ Still w w' := by
  cases hT : mt a b c d a' b' c' d' with
  | true =>
    have hO := (mt_t hT).1
    have h3 := in_both (x := x) (y := y) hT
    cases h1 : mt a b c d x y x y with
    | false => exact meets_3 a b c d a' b' c' d' x y hO h1 hT (by rw [h1] at h3; exact h3) w ht
    | true =>
      cases h2 : mt a' b' c' d' x y x y with
      | true => exact meets_5 a b c d a' b' c' d' x y hO h1 hT h2 (by rw [h1, h2] at h3; exact h3) w ht
      | false => exact meets_6 a b c d a' b' c' d' x y hO h1 hT h2 (by rw [h1, h2] at h3; exact h3) w ht
  | false =>
    cases h1 : mt a b c d x y x y with
    | true =>
      have hO := (mt_in.1 h1).1
      cases h2 : mt a' b' c' d' x y x y with
      | false => exact meets_4 a b c d a' b' c' d' x y hO h1 hT h2 w ht
      | true =>
        have := in_none h1 h2
        rw [hT] at this
        cases this
    | false =>
      cases hO : okb a b c d with
      | false => exact meets_1 a b c d a' b' c' d' x y hO h1 hT w ht
      | true => exact meets_2 a b c d a' b' c' d' x y hO h1 hT w ht
end Go.Proofs.YtkmkbglamgkkpabDoor
