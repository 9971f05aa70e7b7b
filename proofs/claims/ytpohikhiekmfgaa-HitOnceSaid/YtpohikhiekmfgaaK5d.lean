/- What two boxes have in common, by the document's answer. What two boxes have in common, by the document's answer: where both may be. What two boxes have in common, by the document's answer: where both may be. The document's Meet, Overlap and Inside, in one word each. -/
import Derived.Test.YtpohikhiekmfgaaK5c
namespace Go.Proofs.Ytpohikhiekmfgaa
open Go.RowKit
open Pu Gp

theorem rcheck_yes (a b c d : Int) (h : okb a b c d = true) (w : World) : Calls Try.prog 55 #[bx a b c d] w fun e w' => e = .returned (.int .i64 0) ∧ Still w w' := by
  have := rcheck_any a b c d w
  unfold chk at this
  rw [h] at this
  exact this
theorem rcheck_no (a b c d : Int) (h : okb a b c d = false) (w : World) : Calls Try.prog 55 #[bx a b c d] w fun e w' => e = .returned (.int .i64 50) ∧ Still w w' := by
  have := rcheck_any a b c d w
  unfold chk at this
  rw [h] at this
  exact this
theorem Bb.set0 {w : World} {b : Nat} {x y z u : Int} (h : Bb w b x y z u) (v : Int) : Bb (w.setCell ⟨b, 0, none⟩ (.int .i64 v)) b v y z u := by
  unfold Bb; rw [heap_setCell_same w b 0 _ _ (.int .i64 v) h]; rfl
theorem Bb.set1 {w : World} {b : Nat} {x y z u : Int} (h : Bb w b x y z u) (v : Int) : Bb (w.setCell ⟨b, 1, none⟩ (.int .i64 v)) b x v z u := by
  unfold Bb; rw [heap_setCell_same w b 1 _ _ (.int .i64 v) h]; rfl
theorem Bb.set2 {w : World} {b : Nat} {x y z u : Int} (h : Bb w b x y z u) (v : Int) : Bb (w.setCell ⟨b, 2, none⟩ (.int .i64 v)) b x y v u := by
  unfold Bb; rw [heap_setCell_same w b 2 _ _ (.int .i64 v) h]; rfl
theorem Bb.set3 {w : World} {b : Nat} {x y z u : Int} (h : Bb w b x y z u) (v : Int) : Bb (w.setCell ⟨b, 3, none⟩ (.int .i64 v)) b x y z v := by
  unfold Bb; rw [heap_setCell_same w b 3 _ _ (.int .i64 v) h]; rfl
theorem Bb.off {w : World} {b : Nat} {x y z u : Int} {p : Addr} {v : Value} (h : Bb w b x y z u) (hb : b ≠ p.block) : Bb (w.setCell p v) b x y z u := by
  unfold Bb; rw [heap_setCell_other _ _ _ _ hb]; exact h
theorem rmeet1 (a b c d a' b' c' d' : Int) (h1 : okb a b c d = false) (h2 : okb a' b' c' d' = true) (w : World) : Calls Try.prog 51 #[bx a b c d, bx a' b' c' d'] w fun e w' => e = .returned (.tuple #[bx 0 0 0 0, .bool false]) ∧ Still w w' := by
  have p := ((newB_bb w a b c d).still (Still.alloc (newB w a b c d) (.cells #[.int .i64 a', .int .i64 b', .int .i64 c', .int .i64 d'] 52))).still (Still.alloc (newB (newB w a b c d) a' b' c' d') (.cells #[.int .i64 0, .int .i64 0, .int .i64 0, .int .i64 0] 52))
  have q := (newB_bb (newB w a b c d) a' b' c' d').still (Still.alloc (newB (newB w a b c d) a' b' c' d') (.cells #[.int .i64 0, .int .i64 0, .int .i64 0, .int .i64 0] 52))
  have r := newB_bb (newB (newB w a b c d) a' b' c' d') 0 0 0 0
  simp only [size_alloc] at q r
  have HS0 := hid (((Still.alloc w (.cells #[.int .i64 a, .int .i64 b, .int .i64 c, .int .i64 d] 52)).trans (Still.alloc (newB w a b c d) (.cells #[.int .i64 a', .int .i64 b', .int .i64 c', .int .i64 d'] 52))).trans (Still.alloc (newB (newB w a b c d) a' b' c' d') (.cells #[.int .i64 0, .int .i64 0, .int .i64 0, .int .i64 0] 52)))
  have HB := hid (show w.heap.size ≤ w.heap.size + 1 + 1 by omega)
  go_enter Try.func51, Try.ntmps51
  go_wp2_with fail
  refine (rcheck_no a b c d h1 _).mono ?_
  rintro e w1 ⟨rfl, hs1⟩
  have p1 := p.still hs1
  have q1 := q.still hs1
  have r1 := r.still hs1
  have HF1 := hid (HS0.out.trans hs1)
  clear p q r HS0 hs1
  obtain ⟨c0, c1, c2, c3, cf⟩ := p1.cells
  obtain ⟨g0, g1, g2, g3, gf⟩ := q1.cells
  go_wp2_with fail
  refine (rcheck_yes a' b' c' d' h2 _).mono ?_
  rintro e w2 ⟨rfl, hs2⟩
  have p2 := p1.still hs2
  have q2 := q1.still hs2
  have r2 := r1.still hs2
  have HF2 := hid (HF1.out.trans hs2)
  clear p1 q1 r1 HF1 hs2 c0 c1 c2 c3 cf g0 g1 g2 g3 gf
  obtain ⟨d0, d1, d2, d3, df⟩ := r2.cells
  go_wp2_with fail
  (try simp only [Exit.inBlock, Exit.then])
  exact bodyPost_ret ((r2.set _ _ _ _).resb rfl _ _ rfl rfl) rfl ⟨rfl, setB_fr HF2.out _ _ _ _ _ (.inr HB.out)⟩
theorem rmeet1b (a b c d a' b' c' d' : Int) (h1 : okb a b c d = false) (h2 : okb a' b' c' d' = false) (w : World) : Calls Try.prog 51 #[bx a b c d, bx a' b' c' d'] w fun e w' => e = .returned (.tuple #[bx 0 0 0 0, .bool false]) ∧ Still w w' := by
  have p := ((newB_bb w a b c d).still (Still.alloc (newB w a b c d) (.cells #[.int .i64 a', .int .i64 b', .int .i64 c', .int .i64 d'] 52))).still (Still.alloc (newB (newB w a b c d) a' b' c' d') (.cells #[.int .i64 0, .int .i64 0, .int .i64 0, .int .i64 0] 52))
  have q := (newB_bb (newB w a b c d) a' b' c' d').still (Still.alloc (newB (newB w a b c d) a' b' c' d') (.cells #[.int .i64 0, .int .i64 0, .int .i64 0, .int .i64 0] 52))
  have r := newB_bb (newB (newB w a b c d) a' b' c' d') 0 0 0 0
  simp only [size_alloc] at q r
  have HS0 := hid (((Still.alloc w (.cells #[.int .i64 a, .int .i64 b, .int .i64 c, .int .i64 d] 52)).trans (Still.alloc (newB w a b c d) (.cells #[.int .i64 a', .int .i64 b', .int .i64 c', .int .i64 d'] 52))).trans (Still.alloc (newB (newB w a b c d) a' b' c' d') (.cells #[.int .i64 0, .int .i64 0, .int .i64 0, .int .i64 0] 52)))
  have HB := hid (show w.heap.size ≤ w.heap.size + 1 + 1 by omega)
  go_enter Try.func51, Try.ntmps51
  go_wp2_with fail
  refine (rcheck_no a b c d h1 _).mono ?_
  rintro e w1 ⟨rfl, hs1⟩
  have p1 := p.still hs1
  have q1 := q.still hs1
  have r1 := r.still hs1
  have HF1 := hid (HS0.out.trans hs1)
  clear p q r HS0 hs1
  obtain ⟨c0, c1, c2, c3, cf⟩ := p1.cells
  obtain ⟨g0, g1, g2, g3, gf⟩ := q1.cells
  go_wp2_with fail
  refine (rcheck_no a' b' c' d' h2 _).mono ?_
  rintro e w2 ⟨rfl, hs2⟩
  have p2 := p1.still hs2
  have q2 := q1.still hs2
  have r2 := r1.still hs2
  have HF2 := hid (HF1.out.trans hs2)
  clear p1 q1 r1 HF1 hs2 c0 c1 c2 c3 cf g0 g1 g2 g3 gf
  obtain ⟨d0, d1, d2, d3, df⟩ := r2.cells
  go_wp2_with fail
  (try simp only [Exit.inBlock, Exit.then])
  exact bodyPost_ret ((r2.set _ _ _ _).resb rfl _ _ rfl rfl) rfl ⟨rfl, setB_fr HF2.out _ _ _ _ _ (.inr HB.out)⟩
theorem rmeet2 (a b c d a' b' c' d' : Int) (h1 : okb a b c d = true) (h2 : okb a' b' c' d' = false) (w : World) : Calls Try.prog 51 #[bx a b c d, bx a' b' c' d'] w fun e w' => e = .returned (.tuple #[bx 0 0 0 0, .bool false]) ∧ Still w w' := by
  have p := ((newB_bb w a b c d).still (Still.alloc (newB w a b c d) (.cells #[.int .i64 a', .int .i64 b', .int .i64 c', .int .i64 d'] 52))).still (Still.alloc (newB (newB w a b c d) a' b' c' d') (.cells #[.int .i64 0, .int .i64 0, .int .i64 0, .int .i64 0] 52))
  have q := (newB_bb (newB w a b c d) a' b' c' d').still (Still.alloc (newB (newB w a b c d) a' b' c' d') (.cells #[.int .i64 0, .int .i64 0, .int .i64 0, .int .i64 0] 52))
  have r := newB_bb (newB (newB w a b c d) a' b' c' d') 0 0 0 0
  simp only [size_alloc] at q r
  have HS0 := hid (((Still.alloc w (.cells #[.int .i64 a, .int .i64 b, .int .i64 c, .int .i64 d] 52)).trans (Still.alloc (newB w a b c d) (.cells #[.int .i64 a', .int .i64 b', .int .i64 c', .int .i64 d'] 52))).trans (Still.alloc (newB (newB w a b c d) a' b' c' d') (.cells #[.int .i64 0, .int .i64 0, .int .i64 0, .int .i64 0] 52)))
  have HB := hid (show w.heap.size ≤ w.heap.size + 1 + 1 by omega)
  go_enter Try.func51, Try.ntmps51
  go_wp2_with fail
  refine (rcheck_yes a b c d h1 _).mono ?_
  rintro e w1 ⟨rfl, hs1⟩
  have p1 := p.still hs1
  have q1 := q.still hs1
  have r1 := r.still hs1
  have HF1 := hid (HS0.out.trans hs1)
  clear p q r HS0 hs1
  obtain ⟨c0, c1, c2, c3, cf⟩ := p1.cells
  obtain ⟨g0, g1, g2, g3, gf⟩ := q1.cells
  go_wp2_with fail
  refine (rcheck_no a' b' c' d' h2 _).mono ?_
  rintro e w2 ⟨rfl, hs2⟩
  have p2 := p1.still hs2
  have q2 := q1.still hs2
  have r2 := r1.still hs2
  have HF2 := hid (HF1.out.trans hs2)
  clear p1 q1 r1 HF1 hs2 c0 c1 c2 c3 cf g0 g1 g2 g3 gf
  obtain ⟨d0, d1, d2, d3, df⟩ := r2.cells
  go_wp2_with fail
  (try simp only [Exit.inBlock, Exit.then])
  exact bodyPost_ret ((r2.set _ _ _ _).resb rfl _ _ rfl rfl) rfl ⟨rfl, setB_fr HF2.out _ _ _ _ _ (.inr HB.out)⟩
end Go.Proofs.Ytpohikhiekmfgaa
namespace Go.Proofs.Ytpohikhiekmfgaa
open Go.RowKit
open Pu Gp

set_option maxHeartbeats 8000000 in
theorem rmeet_y (a b c d a' b' c' d' : Int) (A B C D : Int) (h1 : okb a b c d = true) (h2 : okb a' b' c' d' = true) (h3 : okb A B C D = true)
    (k1 : (a < a' ∧ A = a') ∨ (¬ a < a' ∧ A = a)) (k2 : (b < b' ∧ B = b') ∨ (¬ b < b' ∧ B = b)) (k3 : (c' < c ∧ C = c') ∨ (¬ c' < c ∧ C = c)) (k4 : (d' < d ∧ D = d') ∨ (¬ d' < d ∧ D = d)) (w : World) : Calls Try.prog 51 #[bx a b c d, bx a' b' c' d'] w fun e w' => e = .returned (.tuple #[bx A B C D, .bool true]) ∧ Still w w' := by
  have p := ((newB_bb w a b c d).still (Still.alloc (newB w a b c d) (.cells #[.int .i64 a', .int .i64 b', .int .i64 c', .int .i64 d'] 52))).still (Still.alloc (newB (newB w a b c d) a' b' c' d') (.cells #[.int .i64 0, .int .i64 0, .int .i64 0, .int .i64 0] 52))
  have q := (newB_bb (newB w a b c d) a' b' c' d').still (Still.alloc (newB (newB w a b c d) a' b' c' d') (.cells #[.int .i64 0, .int .i64 0, .int .i64 0, .int .i64 0] 52))
  have r := newB_bb (newB (newB w a b c d) a' b' c' d') 0 0 0 0
  simp only [size_alloc] at q r
  have HS0 := hid (((Still.alloc w (.cells #[.int .i64 a, .int .i64 b, .int .i64 c, .int .i64 d] 52)).trans (Still.alloc (newB w a b c d) (.cells #[.int .i64 a', .int .i64 b', .int .i64 c', .int .i64 d'] 52))).trans (Still.alloc (newB (newB w a b c d) a' b' c' d') (.cells #[.int .i64 0, .int .i64 0, .int .i64 0, .int .i64 0] 52)))
  have HB := hid (show w.heap.size ≤ w.heap.size + 1 + 1 by omega)
  have HN := hid (show w.heap.size + 1 + 1 ≠ w.heap.size by omega)
  go_enter Try.func51, Try.ntmps51
  go_wp2_with fail
  refine (rcheck_yes a b c d h1 _).mono ?_
  rintro e w1 ⟨rfl, hs1⟩
  have p1 := p.still hs1
  have q1 := q.still hs1
  have r1 := r.still hs1
  have HF1 := hid (HS0.out.trans hs1)
  clear p q r HS0 hs1
  obtain ⟨c0, c1, c2, c3, cf⟩ := p1.cells
  obtain ⟨g0, g1, g2, g3, gf⟩ := q1.cells
  go_wp2_with fail
  refine (rcheck_yes a' b' c' d' h2 _).mono ?_
  rintro e w2 ⟨rfl, hs2⟩
  have p2 := p1.still hs2
  have q2 := q1.still hs2
  have r2 := r1.still hs2
  have HF2 := hid (HF1.out.trans hs2)
  clear p1 q1 r1 HF1 hs2 c0 c1 c2 c3 cf g0 g1 g2 g3 gf
  obtain ⟨c0, c1, c2, c3, cf⟩ := p2.cells
  obtain ⟨g0, g1, g2, g3, gf⟩ := q2.cells
  have H3 := hid h3
  clear h1 h2 h3
  rcases k1 with ⟨k1, rfl⟩ | ⟨k1, rfl⟩ <;> rcases k2 with ⟨k2, rfl⟩ | ⟨k2, rfl⟩ <;> rcases k3 with ⟨k3, rfl⟩ | ⟨k3, rfl⟩ <;> rcases k4 with ⟨k4, rfl⟩ | ⟨k4, rfl⟩
  all_goals
    go_wp2_with fail
    refine (rcheck_yes _ _ _ _ H3.out _).mono ?_
    rintro e w4 ⟨rfl, hs4⟩
    have p4 : Bb w4 w.heap.size A B C D := Bb.still (by with_reducible repeat' (first | apply Bb.set3 | apply Bb.set2 | apply Bb.set1 | apply Bb.set0 | exact p2)) hs4
    have r4 := Bb.still (w' := w4) (b := w.heap.size + 1 + 1) (x := 0) (y := 0) (z := 0) (u := 0) (by with_reducible repeat' (first | exact r2 | refine Bb.off ?_ HN.out)) hs4
    have HF4 := hid (Still.trans (show Still w _ by with_reducible repeat' (first | exact HF2.out | refine Fr.setCell ?_ _ _ (.inr (Nat.le_refl _)))) hs4)
    clear p2 q2 r2 HF2 hs4 c0 c1 c2 c3 cf g0 g1 g2 g3 gf k1 k2 k3 k4 HN
    obtain ⟨c0, c1, c2, c3, cf⟩ := p4.cells
    obtain ⟨d0, d1, d2, d3, df⟩ := r4.cells
    go_wp2_with fail
    (try simp only [Exit.inBlock, Exit.then])
    exact bodyPost_ret ((r4.set _ _ _ _).resb rfl _ _ rfl rfl) rfl ⟨rfl, setB_fr HF4.out _ _ _ _ _ (.inr HB.out)⟩
end Go.Proofs.Ytpohikhiekmfgaa
namespace Go.Proofs.Ytpohikhiekmfgaa
open Go.RowKit
open Pu Gp

set_option maxHeartbeats 8000000 in
theorem rmeet_n (a b c d a' b' c' d' : Int) (A B C D : Int) (h1 : okb a b c d = true) (h2 : okb a' b' c' d' = true) (h3 : okb A B C D = false)
    (k1 : (a < a' ∧ A = a') ∨ (¬ a < a' ∧ A = a)) (k2 : (b < b' ∧ B = b') ∨ (¬ b < b' ∧ B = b)) (k3 : (c' < c ∧ C = c') ∨ (¬ c' < c ∧ C = c)) (k4 : (d' < d ∧ D = d') ∨ (¬ d' < d ∧ D = d)) (w : World) : Calls Try.prog 51 #[bx a b c d, bx a' b' c' d'] w fun e w' => e = .returned (.tuple #[bx 0 0 0 0, .bool false]) ∧ Still w w' := by
  have p := ((newB_bb w a b c d).still (Still.alloc (newB w a b c d) (.cells #[.int .i64 a', .int .i64 b', .int .i64 c', .int .i64 d'] 52))).still (Still.alloc (newB (newB w a b c d) a' b' c' d') (.cells #[.int .i64 0, .int .i64 0, .int .i64 0, .int .i64 0] 52))
  have q := (newB_bb (newB w a b c d) a' b' c' d').still (Still.alloc (newB (newB w a b c d) a' b' c' d') (.cells #[.int .i64 0, .int .i64 0, .int .i64 0, .int .i64 0] 52))
  have r := newB_bb (newB (newB w a b c d) a' b' c' d') 0 0 0 0
  simp only [size_alloc] at q r
  have HS0 := hid (((Still.alloc w (.cells #[.int .i64 a, .int .i64 b, .int .i64 c, .int .i64 d] 52)).trans (Still.alloc (newB w a b c d) (.cells #[.int .i64 a', .int .i64 b', .int .i64 c', .int .i64 d'] 52))).trans (Still.alloc (newB (newB w a b c d) a' b' c' d') (.cells #[.int .i64 0, .int .i64 0, .int .i64 0, .int .i64 0] 52)))
  have HB := hid (show w.heap.size ≤ w.heap.size + 1 + 1 by omega)
  have HN := hid (show w.heap.size + 1 + 1 ≠ w.heap.size by omega)
  go_enter Try.func51, Try.ntmps51
  go_wp2_with fail
  refine (rcheck_yes a b c d h1 _).mono ?_
  rintro e w1 ⟨rfl, hs1⟩
  have p1 := p.still hs1
  have q1 := q.still hs1
  have r1 := r.still hs1
  have HF1 := hid (HS0.out.trans hs1)
  clear p q r HS0 hs1
  obtain ⟨c0, c1, c2, c3, cf⟩ := p1.cells
  obtain ⟨g0, g1, g2, g3, gf⟩ := q1.cells
  go_wp2_with fail
  refine (rcheck_yes a' b' c' d' h2 _).mono ?_
  rintro e w2 ⟨rfl, hs2⟩
  have p2 := p1.still hs2
  have q2 := q1.still hs2
  have r2 := r1.still hs2
  have HF2 := hid (HF1.out.trans hs2)
  clear p1 q1 r1 HF1 hs2 c0 c1 c2 c3 cf g0 g1 g2 g3 gf
  obtain ⟨c0, c1, c2, c3, cf⟩ := p2.cells
  obtain ⟨g0, g1, g2, g3, gf⟩ := q2.cells
  have H3 := hid h3
  clear h1 h2 h3
  rcases k1 with ⟨k1, rfl⟩ | ⟨k1, rfl⟩ <;> rcases k2 with ⟨k2, rfl⟩ | ⟨k2, rfl⟩ <;> rcases k3 with ⟨k3, rfl⟩ | ⟨k3, rfl⟩ <;> rcases k4 with ⟨k4, rfl⟩ | ⟨k4, rfl⟩
  all_goals
    go_wp2_with fail
    refine (rcheck_no _ _ _ _ H3.out _).mono ?_
    rintro e w4 ⟨rfl, hs4⟩
    have p4 : Bb w4 w.heap.size A B C D := Bb.still (by with_reducible repeat' (first | apply Bb.set3 | apply Bb.set2 | apply Bb.set1 | apply Bb.set0 | exact p2)) hs4
    have r4 := Bb.still (w' := w4) (b := w.heap.size + 1 + 1) (x := 0) (y := 0) (z := 0) (u := 0) (by with_reducible repeat' (first | exact r2 | refine Bb.off ?_ HN.out)) hs4
    have HF4 := hid (Still.trans (show Still w _ by with_reducible repeat' (first | exact HF2.out | refine Fr.setCell ?_ _ _ (.inr (Nat.le_refl _)))) hs4)
    clear p2 q2 r2 HF2 hs4 c0 c1 c2 c3 cf g0 g1 g2 g3 gf k1 k2 k3 k4 HN
    obtain ⟨c0, c1, c2, c3, cf⟩ := p4.cells
    obtain ⟨d0, d1, d2, d3, df⟩ := r4.cells
    go_wp2_with fail
    (try simp only [Exit.inBlock, Exit.then])
    exact bodyPost_ret ((r4.set _ _ _ _).resb rfl _ _ rfl rfl) rfl ⟨rfl, setB_fr HF4.out _ _ _ _ _ (.inr HB.out)⟩
end Go.Proofs.Ytpohikhiekmfgaa
namespace Go.Proofs.Ytpohikhiekmfgaa
open Go.RowKit
open Pu Gp

theorem rmeet_any (a b c d a' b' c' d' : Int) (w : World) : Calls Try.prog 51 #[bx a b c d, bx a' b' c' d'] w fun e w' => e = .returned (.tuple #[mb a b c d a' b' c' d', .bool (mt a b c d a' b' c' d')]) ∧ Still w w' := by
  unfold mb mt
  cases h1 : okb a b c d with
  | false =>
    cases h2 : okb a' b' c' d' with
    | false => exact rmeet1b a b c d a' b' c' d' h1 h2 w
    | true => exact rmeet1 a b c d a' b' c' d' h1 h2 w
  | true =>
    cases h2 : okb a' b' c' d' with
    | false => exact rmeet2 a b c d a' b' c' d' h1 h2 w
    | true =>
      cases h3 : okb (max a a') (max b b') (min c c') (min d d') with
      | false => exact rmeet_n a b c d a' b' c' d' _ _ _ _ h1 h2 h3 (by omega) (by omega) (by omega) (by omega) w
      | true => exact rmeet_y a b c d a' b' c' d' _ _ _ _ h1 h2 h3 (by omega) (by omega) (by omega) (by omega) w
theorem roverlap_any (a b c d a' b' c' d' : Int) (w : World) : Calls Try.prog 29 #[bx a b c d, bx a' b' c' d'] w fun e w' => e = .returned (.bool (mt a b c d a' b' c' d')) ∧ Still w w' := by
  go_enter Try.func29, Try.ntmps29
  go_wp2_with fail
  refine (rmeet_any a b c d a' b' c' d' _).mono ?_
  rintro e w1 ⟨rfl, hs1⟩
  go_wp2_with fail
  go_ret
  exact ⟨rfl, (((Still.alloc w _).trans (Still.alloc _ _)).trans hs1).trans (Still.alloc _ _)⟩
/-- inside: the numbers -/
theorem mt_in {a b c d x y : Int} : mt a b c d x y x y = true ↔ (okb a b c d = true ∧ a ≤ x ∧ x ≤ c ∧ b ≤ y ∧ y ≤ d) := by
  unfold mt
  constructor
  · intro h
    simp only [Bool.and_eq_true] at h
    obtain ⟨⟨h1, h2⟩, h3⟩ := h
    have k3 := okb_t h3
    unfold okB at k3
    exact ⟨h1, by omega, by omega, by omega, by omega⟩
  · rintro ⟨h1, h2, h3, h4, h5⟩
    have k1 := okb_t h1
    unfold okB at k1
    simp only [Bool.and_eq_true]
    exact ⟨⟨h1, okb_of (by unfold okB; omega)⟩, okb_of (by unfold okB; omega)⟩
theorem mt_out {a b c d x y : Int} (h : ¬ (okb a b c d = true ∧ a ≤ x ∧ x ≤ c ∧ b ≤ y ∧ y ≤ d)) : mt a b c d x y x y = false := by
  cases k : mt a b c d x y x y with
  | false => rfl
  | true => exact absurd (mt_in.1 k) h
theorem rin1 (a b c d x y : Int) (h : okb a b c d = false) (w : World) : Calls Try.prog 37 #[bx a b c d, pt x y] w fun e w' => e = .returned (.bool false) ∧ Still w w' := by
  have r := (newB_bb w a b c d).still (Still.alloc (newB w a b c d) (.cells #[.int .i64 x, .int .i64 y] 33))
  have q := newP_pb (newB w a b c d) x y
  simp only [size_alloc] at q
  go_enter Try.func37, Try.ntmps37
  go_wp2_with fail
  refine (rcheck_no a b c d h _).mono ?_
  rintro e w1 ⟨rfl, hs1⟩
  have r1 := r.still hs1
  have q1 := q.still hs1
  have HF := hid (((Still.alloc w (.cells #[.int .i64 a, .int .i64 b, .int .i64 c, .int .i64 d] 52)).trans (Still.alloc (newB w a b c d) (.cells #[.int .i64 x, .int .i64 y] 33))).trans hs1)
  clear r q hs1 h
  obtain ⟨c0, c1, c2, c3, cf⟩ := r1.cells
  obtain ⟨d0, d1, df⟩ := q1.cells
  go_wp2_with fail
  go_ret
  exact ⟨rfl, HF.out⟩
theorem rin2 (a b c d x y : Int) (h : okb a b c d = true) (h1 : x < a) (w : World) : Calls Try.prog 37 #[bx a b c d, pt x y] w fun e w' => e = .returned (.bool false) ∧ Still w w' := by
  have r := (newB_bb w a b c d).still (Still.alloc (newB w a b c d) (.cells #[.int .i64 x, .int .i64 y] 33))
  have q := newP_pb (newB w a b c d) x y
  simp only [size_alloc] at q
  go_enter Try.func37, Try.ntmps37
  go_wp2_with fail
  refine (rcheck_yes a b c d h _).mono ?_
  rintro e w1 ⟨rfl, hs1⟩
  have r1 := r.still hs1
  have q1 := q.still hs1
  have HF := hid (((Still.alloc w (.cells #[.int .i64 a, .int .i64 b, .int .i64 c, .int .i64 d] 52)).trans (Still.alloc (newB w a b c d) (.cells #[.int .i64 x, .int .i64 y] 33))).trans hs1)
  clear r q hs1 h
  obtain ⟨c0, c1, c2, c3, cf⟩ := r1.cells
  obtain ⟨d0, d1, df⟩ := q1.cells
  go_wp2_with fail
  go_ret
  exact ⟨rfl, HF.out⟩
theorem rin3 (a b c d x y : Int) (h : okb a b c d = true) (h1 : a ≤ x) (h2 : c < x) (w : World) : Calls Try.prog 37 #[bx a b c d, pt x y] w fun e w' => e = .returned (.bool false) ∧ Still w w' := by
  have r := (newB_bb w a b c d).still (Still.alloc (newB w a b c d) (.cells #[.int .i64 x, .int .i64 y] 33))
  have q := newP_pb (newB w a b c d) x y
  simp only [size_alloc] at q
  go_enter Try.func37, Try.ntmps37
  go_wp2_with fail
  refine (rcheck_yes a b c d h _).mono ?_
  rintro e w1 ⟨rfl, hs1⟩
  have r1 := r.still hs1
  have q1 := q.still hs1
  have HF := hid (((Still.alloc w (.cells #[.int .i64 a, .int .i64 b, .int .i64 c, .int .i64 d] 52)).trans (Still.alloc (newB w a b c d) (.cells #[.int .i64 x, .int .i64 y] 33))).trans hs1)
  clear r q hs1 h
  obtain ⟨c0, c1, c2, c3, cf⟩ := r1.cells
  obtain ⟨d0, d1, df⟩ := q1.cells
  go_wp2_with fail
  go_ret
  exact ⟨rfl, HF.out⟩
theorem rin4 (a b c d x y : Int) (h : okb a b c d = true) (h1 : a ≤ x) (h2 : x ≤ c) (h3 : y < b) (w : World) : Calls Try.prog 37 #[bx a b c d, pt x y] w fun e w' => e = .returned (.bool false) ∧ Still w w' := by
  have r := (newB_bb w a b c d).still (Still.alloc (newB w a b c d) (.cells #[.int .i64 x, .int .i64 y] 33))
  have q := newP_pb (newB w a b c d) x y
  simp only [size_alloc] at q
  go_enter Try.func37, Try.ntmps37
  go_wp2_with fail
  refine (rcheck_yes a b c d h _).mono ?_
  rintro e w1 ⟨rfl, hs1⟩
  have r1 := r.still hs1
  have q1 := q.still hs1
  have HF := hid (((Still.alloc w (.cells #[.int .i64 a, .int .i64 b, .int .i64 c, .int .i64 d] 52)).trans (Still.alloc (newB w a b c d) (.cells #[.int .i64 x, .int .i64 y] 33))).trans hs1)
  clear r q hs1 h
  obtain ⟨c0, c1, c2, c3, cf⟩ := r1.cells
  obtain ⟨d0, d1, df⟩ := q1.cells
  go_wp2_with fail
  go_ret
  exact ⟨rfl, HF.out⟩
theorem rin5 (a b c d x y : Int) (h : okb a b c d = true) (h1 : a ≤ x) (h2 : x ≤ c) (h3 : b ≤ y) (h4 : d < y) (w : World) : Calls Try.prog 37 #[bx a b c d, pt x y] w fun e w' => e = .returned (.bool false) ∧ Still w w' := by
  have r := (newB_bb w a b c d).still (Still.alloc (newB w a b c d) (.cells #[.int .i64 x, .int .i64 y] 33))
  have q := newP_pb (newB w a b c d) x y
  simp only [size_alloc] at q
  go_enter Try.func37, Try.ntmps37
  go_wp2_with fail
  refine (rcheck_yes a b c d h _).mono ?_
  rintro e w1 ⟨rfl, hs1⟩
  have r1 := r.still hs1
  have q1 := q.still hs1
  have HF := hid (((Still.alloc w (.cells #[.int .i64 a, .int .i64 b, .int .i64 c, .int .i64 d] 52)).trans (Still.alloc (newB w a b c d) (.cells #[.int .i64 x, .int .i64 y] 33))).trans hs1)
  clear r q hs1 h
  obtain ⟨c0, c1, c2, c3, cf⟩ := r1.cells
  obtain ⟨d0, d1, df⟩ := q1.cells
  go_wp2_with fail
  go_ret
  exact ⟨show Ending.returned (.bool (decide (y ≤ d))) = _ by rw [decide_eq_false (show ¬ y ≤ d by omega)], HF.out⟩
theorem rin6 (a b c d x y : Int) (h : okb a b c d = true) (h1 : a ≤ x) (h2 : x ≤ c) (h3 : b ≤ y) (h4 : y ≤ d) (w : World) : Calls Try.prog 37 #[bx a b c d, pt x y] w fun e w' => e = .returned (.bool true) ∧ Still w w' := by
  have r := (newB_bb w a b c d).still (Still.alloc (newB w a b c d) (.cells #[.int .i64 x, .int .i64 y] 33))
  have q := newP_pb (newB w a b c d) x y
  simp only [size_alloc] at q
  go_enter Try.func37, Try.ntmps37
  go_wp2_with fail
  refine (rcheck_yes a b c d h _).mono ?_
  rintro e w1 ⟨rfl, hs1⟩
  have r1 := r.still hs1
  have q1 := q.still hs1
  have HF := hid (((Still.alloc w (.cells #[.int .i64 a, .int .i64 b, .int .i64 c, .int .i64 d] 52)).trans (Still.alloc (newB w a b c d) (.cells #[.int .i64 x, .int .i64 y] 33))).trans hs1)
  clear r q hs1 h
  obtain ⟨c0, c1, c2, c3, cf⟩ := r1.cells
  obtain ⟨d0, d1, df⟩ := q1.cells
  go_wp2_with fail
  go_ret
  exact ⟨rfl, HF.out⟩
theorem rinside_any (a b c d x y : Int) (w : World) : Calls Try.prog 37 #[bx a b c d, pt x y] w fun e w' => e = .returned (.bool (mt a b c d x y x y)) ∧ Still w w' := by
  cases h : okb a b c d with
  | false => rw [mt_out (by rw [h]; simp)]; exact rin1 a b c d x y h w
  | true =>
    by_cases h1 : x < a
    · rw [mt_out (by omega)]; exact rin2 a b c d x y h h1 w
    · by_cases h2 : c < x
      · rw [mt_out (by omega)]; exact rin3 a b c d x y h (by omega) h2 w
      · by_cases h3 : y < b
        · rw [mt_out (by omega)]; exact rin4 a b c d x y h (by omega) (by omega) h3 w
        · by_cases h4 : d < y
          · rw [mt_out (by omega)]; exact rin5 a b c d x y h (by omega) (by omega) (by omega) h4 w
          · rw [mt_in.2 ⟨h, by omega, by omega, by omega, by omega⟩]; exact rin6 a b c d x y h (by omega) (by omega) (by omega) (by omega) w
end Go.Proofs.Ytpohikhiekmfgaa
