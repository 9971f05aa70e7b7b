/- What two boxes have in common, by the program: where both may be. -/
import Derived.Test.YtpohikhiekmfgaaK5b
namespace Go.Proofs.Ytpohikhiekmfgaa
open Go.RowKit
open Pu Gp

set_option maxHeartbeats 1000000 in
theorem meet3 (a b c d a' b' c' d' : Int) (h1 : okb a b c d = true) (h2 : okb a' b' c' d' = true) (h3 : okb (max a a') (max b b') (min c c') (min d d') = false) (w : World) : Calls Try.prog 49 #[bx a b c d, bx a' b' c' d'] w fun e w' => e = .returned (.tuple #[bx 0 0 0 0, .bool false]) ∧ Still w w' := by
  have p := ((newB_bb w a b c d).still (Still.alloc (newB w a b c d) (.cells #[.int .i64 a', .int .i64 b', .int .i64 c', .int .i64 d'] 52))).still (Still.alloc (newB (newB w a b c d) a' b' c' d') (.cells #[.int .i64 0, .int .i64 0, .int .i64 0, .int .i64 0] 52))
  have q := (newB_bb (newB w a b c d) a' b' c' d').still (Still.alloc (newB (newB w a b c d) a' b' c' d') (.cells #[.int .i64 0, .int .i64 0, .int .i64 0, .int .i64 0] 52))
  have r := newB_bb (newB (newB w a b c d) a' b' c' d') 0 0 0 0
  simp only [size_alloc] at q r
  have HS0 := hid (((Still.alloc w (.cells #[.int .i64 a, .int .i64 b, .int .i64 c, .int .i64 d] 52)).trans (Still.alloc (newB w a b c d) (.cells #[.int .i64 a', .int .i64 b', .int .i64 c', .int .i64 d'] 52))).trans (Still.alloc (newB (newB w a b c d) a' b' c' d') (.cells #[.int .i64 0, .int .i64 0, .int .i64 0, .int .i64 0] 52)))
  have HB := hid (show w.heap.size ≤ w.heap.size + 1 + 1 by omega)
  go_enter Try.func49, Try.ntmps49
  go_wp2_with fail
  refine (check_yes a b c d h1 _).mono ?_
  rintro e w1 ⟨rfl, hs1⟩
  have p1 := p.still hs1
  have q1 := q.still hs1
  have r1 := r.still hs1
  have HF1 := hid (HS0.out.trans hs1)
  clear p q r HS0 hs1
  obtain ⟨c0, c1, c2, c3, cf⟩ := p1.cells
  obtain ⟨g0, g1, g2, g3, gf⟩ := q1.cells
  obtain ⟨d0, d1, d2, d3, df⟩ := r1.cells
  go_wp2_with fail
  refine (check_yes a' b' c' d' h2 _).mono ?_
  rintro e w2 ⟨rfl, hs2⟩
  have p2 := p1.still hs2
  have q2 := q1.still hs2
  have r2 := r1.still hs2
  have HF2 := hid (HF1.out.trans hs2)
  clear p1 q1 r1 HF1 hs2 c0 c1 c2 c3 cf g0 g1 g2 g3 gf d0 d1 d2 d3 df
  go_wp2_with fail
  refine region_var (on := _) 11 6 (.cells #[.int .i64 0, .int .i64 0, .int .i64 0, .int .i64 0] 52)
    [.pointer (some ⟨w.heap.size, 0, none⟩), pt a b, .pointer (some ⟨w.heap.size + 1, 0, none⟩), pt a' b', pt (max a a') (max b b'), .pointer (some ⟨w.heap.size, 2, none⟩), pt c d, .pointer (some ⟨w.heap.size + 1, 2, none⟩), pt c' d', pt (min c c') (min d d'), bx (max a a') (max b b') (min c c') (min d d')]
    ⟨#[bx a b c d, bx a' b' c' d', .pointer (some ⟨w.heap.size, 0, none⟩), .pointer (some ⟨w.heap.size + 1, 0, none⟩), .pointer (some ⟨w.heap.size + 1 + 1, 0, none⟩), .bool false, undef, bx a b c d, .int .i64 0, .bool false, .bool false, bx a' b' c' d', .int .i64 0, .bool false, .bool false, undef,
      .pointer (some ⟨w.heap.size, 0, none⟩), pt a b, .pointer (some ⟨w.heap.size + 1, 0, none⟩), pt a' b', pt (max a a') (max b b'), .pointer (some ⟨w.heap.size, 2, none⟩), pt c d, .pointer (some ⟨w.heap.size + 1, 2, none⟩), pt c' d', pt (min c c') (min d d'), bx (max a a') (max b b') (min c c') (min d d'), undef, undef, undef, undef, undef], []⟩
    (by kernel_rfl) (by kernel_rfl) rfl rfl rfl (by kernel_rfl) (by kernel_rfl) (show 6 < 32 by omega) ?_ ?_ ?_
  · simp only [List.take_succ_cons, List.take_zero, wpEach, and_true]
    refine ⟨?_, ?_, ?_, ?_, ?_, ?_, ?_, ?_, ?_, ?_, ?_⟩
    all_goals
      intro u hu
      obtain ⟨c0, c1, c2, c3, cf⟩ := (p2.still hu).cells
      obtain ⟨g0, g1, g2, g3, gf⟩ := (q2.still hu).cells
      go_simp
    · exact greater_any _ _ _ _ _
    · exact lesser_any _ _ _ _ _
  · intro u _ y
    go_simp
  simp only [List.drop_succ_cons, List.drop_zero]
  intro w3 g hs3 hge hz
  have hne : w.heap.size + 1 + 1 ≠ g := by have := block_lt r2; omega
  have HG := hid (show w.heap.size ≤ g by have := block_lt r2; omega)
  have r3 := r2.still hs3
  have HF3 := hid (HF2.out.trans hs3)
  have k3 : Bb w3 g 0 0 0 0 := hz
  obtain ⟨k0, k1, k2, k4, kf⟩ := k3.cells
  have k5 := k3.set (max a a') (max b b') (min c c') (min d d')
  have r5 : Bb (setB w3 g (max a a') (max b b') (min c c') (min d d')) (w.heap.size + 1 + 1) 0 0 0 0 := by
    unfold Bb
    rw [heap_setCell_other _ _ _ _ hne, heap_setCell_other _ _ _ _ hne, heap_setCell_other _ _ _ _ hne, heap_setCell_other _ _ _ _ hne]
    exact r3
  have HF5 := hid (setB_fr HF3.out g (max a a') (max b b') (min c c') (min d d') (.inr HG.out))
  clear p2 q2 r2 HF2 hs3 hz hge hne HG r3 HF3 k3
  simp only [Act.put, List.setIfInBounds_toArray, List.set_cons_succ, List.set_cons_zero]
  go_wp2_with fail
  refine (check_no _ _ _ _ h3 _).mono ?_
  rintro e w4 ⟨rfl, hs4⟩
  have r4 := r5.still hs4
  have k4 := k5.still hs4
  have HF4 := hid (Still.trans HF5.out hs4)
  clear r5 k5 HF5 hs4
  obtain ⟨d0, d1, d2, d3, df⟩ := r4.cells
  obtain ⟨k0, k1, k2, k3, kf⟩ := k4.cells
  go_wp2_with fail
  (try simp only [Exit.inBlock, Exit.then])
  exact bodyPost_ret ((r4.set _ _ _ _).resb rfl _ _ rfl rfl) rfl ⟨rfl, setB_fr HF4.out _ _ _ _ _ (.inr HB.out)⟩
set_option maxHeartbeats 1000000 in
theorem meet4 (a b c d a' b' c' d' : Int) (h1 : okb a b c d = true) (h2 : okb a' b' c' d' = true) (h3 : okb (max a a') (max b b') (min c c') (min d d') = true) (w : World) : Calls Try.prog 49 #[bx a b c d, bx a' b' c' d'] w fun e w' => e = .returned (.tuple #[bx (max a a') (max b b') (min c c') (min d d'), .bool true]) ∧ Still w w' := by
  have p := ((newB_bb w a b c d).still (Still.alloc (newB w a b c d) (.cells #[.int .i64 a', .int .i64 b', .int .i64 c', .int .i64 d'] 52))).still (Still.alloc (newB (newB w a b c d) a' b' c' d') (.cells #[.int .i64 0, .int .i64 0, .int .i64 0, .int .i64 0] 52))
  have q := (newB_bb (newB w a b c d) a' b' c' d').still (Still.alloc (newB (newB w a b c d) a' b' c' d') (.cells #[.int .i64 0, .int .i64 0, .int .i64 0, .int .i64 0] 52))
  have r := newB_bb (newB (newB w a b c d) a' b' c' d') 0 0 0 0
  simp only [size_alloc] at q r
  have HS0 := hid (((Still.alloc w (.cells #[.int .i64 a, .int .i64 b, .int .i64 c, .int .i64 d] 52)).trans (Still.alloc (newB w a b c d) (.cells #[.int .i64 a', .int .i64 b', .int .i64 c', .int .i64 d'] 52))).trans (Still.alloc (newB (newB w a b c d) a' b' c' d') (.cells #[.int .i64 0, .int .i64 0, .int .i64 0, .int .i64 0] 52)))
  have HB := hid (show w.heap.size ≤ w.heap.size + 1 + 1 by omega)
  go_enter Try.func49, Try.ntmps49
  go_wp2_with fail
  refine (check_yes a b c d h1 _).mono ?_
  rintro e w1 ⟨rfl, hs1⟩
  have p1 := p.still hs1
  have q1 := q.still hs1
  have r1 := r.still hs1
  have HF1 := hid (HS0.out.trans hs1)
  clear p q r HS0 hs1
  obtain ⟨c0, c1, c2, c3, cf⟩ := p1.cells
  obtain ⟨g0, g1, g2, g3, gf⟩ := q1.cells
  obtain ⟨d0, d1, d2, d3, df⟩ := r1.cells
  go_wp2_with fail
  refine (check_yes a' b' c' d' h2 _).mono ?_
  rintro e w2 ⟨rfl, hs2⟩
  have p2 := p1.still hs2
  have q2 := q1.still hs2
  have r2 := r1.still hs2
  have HF2 := hid (HF1.out.trans hs2)
  clear p1 q1 r1 HF1 hs2 c0 c1 c2 c3 cf g0 g1 g2 g3 gf d0 d1 d2 d3 df
  go_wp2_with fail
  refine region_var (on := _) 11 6 (.cells #[.int .i64 0, .int .i64 0, .int .i64 0, .int .i64 0] 52)
    [.pointer (some ⟨w.heap.size, 0, none⟩), pt a b, .pointer (some ⟨w.heap.size + 1, 0, none⟩), pt a' b', pt (max a a') (max b b'), .pointer (some ⟨w.heap.size, 2, none⟩), pt c d, .pointer (some ⟨w.heap.size + 1, 2, none⟩), pt c' d', pt (min c c') (min d d'), bx (max a a') (max b b') (min c c') (min d d')]
    ⟨#[bx a b c d, bx a' b' c' d', .pointer (some ⟨w.heap.size, 0, none⟩), .pointer (some ⟨w.heap.size + 1, 0, none⟩), .pointer (some ⟨w.heap.size + 1 + 1, 0, none⟩), .bool false, undef, bx a b c d, .int .i64 0, .bool false, .bool false, bx a' b' c' d', .int .i64 0, .bool false, .bool false, undef,
      .pointer (some ⟨w.heap.size, 0, none⟩), pt a b, .pointer (some ⟨w.heap.size + 1, 0, none⟩), pt a' b', pt (max a a') (max b b'), .pointer (some ⟨w.heap.size, 2, none⟩), pt c d, .pointer (some ⟨w.heap.size + 1, 2, none⟩), pt c' d', pt (min c c') (min d d'), bx (max a a') (max b b') (min c c') (min d d'), undef, undef, undef, undef, undef], []⟩
    (by kernel_rfl) (by kernel_rfl) rfl rfl rfl (by kernel_rfl) (by kernel_rfl) (show 6 < 32 by omega) ?_ ?_ ?_
  · simp only [List.take_succ_cons, List.take_zero, wpEach, and_true]
    refine ⟨?_, ?_, ?_, ?_, ?_, ?_, ?_, ?_, ?_, ?_, ?_⟩
    all_goals
      intro u hu
      obtain ⟨c0, c1, c2, c3, cf⟩ := (p2.still hu).cells
      obtain ⟨g0, g1, g2, g3, gf⟩ := (q2.still hu).cells
      go_simp
    · exact greater_any _ _ _ _ _
    · exact lesser_any _ _ _ _ _
  · intro u _ y
    go_simp
  simp only [List.drop_succ_cons, List.drop_zero]
  intro w3 g hs3 hge hz
  have hne : w.heap.size + 1 + 1 ≠ g := by have := block_lt r2; omega
  have HG := hid (show w.heap.size ≤ g by have := block_lt r2; omega)
  have r3 := r2.still hs3
  have HF3 := hid (HF2.out.trans hs3)
  have k3 : Bb w3 g 0 0 0 0 := hz
  obtain ⟨k0, k1, k2, k4, kf⟩ := k3.cells
  have k5 := k3.set (max a a') (max b b') (min c c') (min d d')
  have r5 : Bb (setB w3 g (max a a') (max b b') (min c c') (min d d')) (w.heap.size + 1 + 1) 0 0 0 0 := by
    unfold Bb
    rw [heap_setCell_other _ _ _ _ hne, heap_setCell_other _ _ _ _ hne, heap_setCell_other _ _ _ _ hne, heap_setCell_other _ _ _ _ hne]
    exact r3
  have HF5 := hid (setB_fr HF3.out g (max a a') (max b b') (min c c') (min d d') (.inr HG.out))
  clear p2 q2 r2 HF2 hs3 hz hge hne HG r3 HF3 k3
  simp only [Act.put, List.setIfInBounds_toArray, List.set_cons_succ, List.set_cons_zero]
  go_wp2_with fail
  refine (check_yes _ _ _ _ h3 _).mono ?_
  rintro e w4 ⟨rfl, hs4⟩
  have r4 := r5.still hs4
  have k4 := k5.still hs4
  have HF4 := hid (Still.trans HF5.out hs4)
  clear r5 k5 HF5 hs4
  obtain ⟨d0, d1, d2, d3, df⟩ := r4.cells
  obtain ⟨k0, k1, k2, k3, kf⟩ := k4.cells
  go_wp2_with fail
  (try simp only [Exit.inBlock, Exit.then])
  exact bodyPost_ret ((r4.set _ _ _ _).resb rfl _ _ rfl rfl) rfl ⟨rfl, setB_fr HF4.out _ _ _ _ _ (.inr HB.out)⟩
theorem meet_any (a b c d a' b' c' d' : Int) (w : World) : Calls Try.prog 49 #[bx a b c d, bx a' b' c' d'] w fun e w' => e = .returned (.tuple #[mb a b c d a' b' c' d', .bool (mt a b c d a' b' c' d')]) ∧ Still w w' := by
  unfold mb mt
  cases h1 : okb a b c d with
  | false => exact meet1 a b c d a' b' c' d' h1 w
  | true =>
    cases h2 : okb a' b' c' d' with
    | false => exact meet2 a b c d a' b' c' d' h1 h2 w
    | true =>
      cases h3 : okb (max a a') (max b b') (min c c') (min d d') with
      | false => exact meet3 a b c d a' b' c' d' h1 h2 h3 w
      | true => exact meet4 a b c d a' b' c' d' h1 h2 h3 w
theorem overlap_any (a b c d a' b' c' d' : Int) (w : World) : Calls Try.prog 26 #[bx a b c d, bx a' b' c' d'] w fun e w' => e = .returned (.bool (mt a b c d a' b' c' d')) ∧ Still w w' := by
  go_enter Try.func26, Try.ntmps26
  go_wp2_with fail
  refine (meet_any a b c d a' b' c' d' _).mono ?_
  rintro e w1 ⟨rfl, hs1⟩
  go_wp2_with fail
  go_ret
  exact ⟨rfl, (((Still.alloc w _).trans (Still.alloc _ _)).trans hs1).trans (Still.alloc _ _)⟩
theorem inside_any (a b c d x y : Int) (w : World) : Calls Try.prog 21 #[bx a b c d, pt x y] w fun e w' => e = .returned (.bool (mt a b c d x y x y)) ∧ Still w w' := by
  go_enter Try.func21, Try.ntmps21
  go_wp2_with fail
  refine (overlap_any a b c d x y x y _).mono ?_
  rintro e w1 ⟨rfl, hs1⟩
  go_wp2_with fail
  go_ret
  exact ⟨rfl, ((Still.alloc w _).trans (Still.alloc _ _)).trans hs1⟩
end Go.Proofs.Ytpohikhiekmfgaa
