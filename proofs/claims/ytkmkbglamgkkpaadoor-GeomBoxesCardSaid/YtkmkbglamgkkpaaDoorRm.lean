/- What two boxes have in common, by the document's answer. -/
import Derived.Test.YtkmkbglamgkkpaaDoorMu
namespace Go.Proofs.YtkmkbglamgkkpaaDoor
open Go.RowKit
open Pu Gp

theorem rcheck_yes (a b c d : Int) (h : okb a b c d = true) (w : World) : Calls Tryd.prog 33 #[bx a b c d] w fun e w' => e = .returned (.int .i64 0) ∧ Still w w' := by
  have := rcheck_any a b c d w
  unfold chk at this
  rw [h] at this
  exact this
theorem rcheck_no (a b c d : Int) (h : okb a b c d = false) (w : World) : Calls Tryd.prog 33 #[bx a b c d] w fun e w' => e = .returned (.int .i64 50) ∧ Still w w' := by
  have := rcheck_any a b c d w
  unfold chk at this
  rw [h] at this
  exact this
theorem Bb.set0 {w : World} {b : Nat} {x y z u : Int} (h : Bb w b x y z u) (v : Int) : Bb (w.setCell ⟨b, 0, none⟩ (.int .i64 v)) b v y z u := by
  unfold Bb; rw [heap_setCell_same w b 0 _ _ (.int .i64 v) h]; rfl
theorem Bb.set1 {w : World} {b : Nat} {x y z u : Int} (h : Bb w b x y z u) (v : Int) : Bb (w.setCell ⟨b, 1, none⟩ (.int .i64 v)) b x v z u := by
  unfold Bb; rw [heap_setCell_same w b 1 _ _ (.int .i64 v) h]; rfl
theorem Bb.set2 {w : World} {b : Nat} {x y z u : Int} (h : Bb w b x y z u) (v : Int) : Bb (w.setCell ⟨b, 2, none⟩ (.int .i64 v)) b x y v u := by
  unfold Bb; rw [heap_setCell_same w b 2 _ _ (.int .i64 v) h]; rfl
theorem Bb.set3 {w : World} {b : Nat} {x y z u : Int} (h : Bb w b x y z u) (v : Int) : Bb (w.setCell ⟨b, 3, none⟩ (.int .i64 v)) b x y z v := by
  unfold Bb; rw [heap_setCell_same w b 3 _ _ (.int .i64 v) h]; rfl
theorem Bb.off {w : World} {b : Nat} {x y z u : Int} {p : Addr} {v : Value} (h : Bb w b x y z u) (hb : b ≠ p.block) : Bb (w.setCell p v) b x y z u := by
  unfold Bb; rw [heap_setCell_other _ _ _ _ hb]; exact h
theorem rmeet1 (a b c d a' b' c' d' : Int) (h1 : okb a b c d = false) (h2 : okb a' b' c' d' = true) (w : World) : Calls Tryd.prog 29 #[bx a b c d, bx a' b' c' d'] w fun e w' => e = .returned (.tuple #[bx 0 0 0 0, .bool false]) ∧ Still w w' := by
  have p := ((newB_bb w a b c d).still (Still.alloc (newB w a b c d) (.cells #[.int .i64 a', .int .i64 b', .int .i64 c', .int .i64 d'] 35))).still (Still.alloc (newB (newB w a b c d) a' b' c' d') (.cells #[.int .i64 0, .int .i64 0, .int .i64 0, .int .i64 0] 35))
  have q := (newB_bb (newB w a b c d) a' b' c' d').still (Still.alloc (newB (newB w a b c d) a' b' c' d') (.cells #[.int .i64 0, .int .i64 0, .int .i64 0, .int .i64 0] 35))
  have r := newB_bb (newB (newB w a b c d) a' b' c' d') 0 0 0 0
  simp only [size_alloc] at q r
  have HS0 := hid (((Still.alloc w (.cells #[.int .i64 a, .int .i64 b, .int .i64 c, .int .i64 d] 35)).trans (Still.alloc (newB w a b c d) (.cells #[.int .i64 a', .int .i64 b', .int .i64 c', .int .i64 d'] 35))).trans (Still.alloc (newB (newB w a b c d) a' b' c' d') (.cells #[.int .i64 0, .int .i64 0, .int .i64 0, .int .i64 0] 35)))
  have HB := hid (show w.heap.size ≤ w.heap.size + 1 + 1 by omega)
  go_enter Tryd.func29, Tryd.ntmps29
  go_wp2_with fail
  refine (rcheck_no a b c d h1 _).mono ?_
  rintro e w1 ⟨rfl, hs1⟩
  have p1 := p.still hs1
  have q1 := q.still hs1
  have r1 := r.still hs1
  have HF1 := hid (HS0.out.trans hs1)
  clear p q r HS0 hs1
  obtain ⟨c0, c1, c2, c3, cf⟩ := p1.cells
  obtain ⟨g0, g1, g2, g3, gf⟩ := q1.cells
  go_wp2_with fail
  refine (rcheck_yes a' b' c' d' h2 _).mono ?_
  rintro e w2 ⟨rfl, hs2⟩
  have p2 := p1.still hs2
  have q2 := q1.still hs2
  have r2 := r1.still hs2
  have HF2 := hid (HF1.out.trans hs2)
  clear p1 q1 r1 HF1 hs2 c0 c1 c2 c3 cf g0 g1 g2 g3 gf
  obtain ⟨d0, d1, d2, d3, df⟩ := r2.cells
  go_wp2_with fail
  (try simp only [Exit.inBlock, Exit.then])
  exact bodyPost_ret ((r2.set _ _ _ _).resb rfl _ _ rfl rfl) rfl ⟨rfl, setB_fr HF2.out _ _ _ _ _ (.inr HB.out)⟩
theorem rmeet1b (a b c d a' b' c' d' : Int) (h1 : okb a b c d = false) (h2 : okb a' b' c' d' = false) (w : World) : Calls Tryd.prog 29 #[bx a b c d, bx a' b' c' d'] w fun e w' => e = .returned (.tuple #[bx 0 0 0 0, .bool false]) ∧ Still w w' := by
  have p := ((newB_bb w a b c d).still (Still.alloc (newB w a b c d) (.cells #[.int .i64 a', .int .i64 b', .int .i64 c', .int .i64 d'] 35))).still (Still.alloc (newB (newB w a b c d) a' b' c' d') (.cells #[.int .i64 0, .int .i64 0, .int .i64 0, .int .i64 0] 35))
  have q := (newB_bb (newB w a b c d) a' b' c' d').still (Still.alloc (newB (newB w a b c d) a' b' c' d') (.cells #[.int .i64 0, .int .i64 0, .int .i64 0, .int .i64 0] 35))
  have r := newB_bb (newB (newB w a b c d) a' b' c' d') 0 0 0 0
  simp only [size_alloc] at q r
  have HS0 := hid (((Still.alloc w (.cells #[.int .i64 a, .int .i64 b, .int .i64 c, .int .i64 d] 35)).trans (Still.alloc (newB w a b c d) (.cells #[.int .i64 a', .int .i64 b', .int .i64 c', .int .i64 d'] 35))).trans (Still.alloc (newB (newB w a b c d) a' b' c' d') (.cells #[.int .i64 0, .int .i64 0, .int .i64 0, .int .i64 0] 35)))
  have HB := hid (show w.heap.size ≤ w.heap.size + 1 + 1 by omega)
  go_enter Tryd.func29, Tryd.ntmps29
  go_wp2_with fail
  refine (rcheck_no a b c d h1 _).mono ?_
  rintro e w1 ⟨rfl, hs1⟩
  have p1 := p.still hs1
  have q1 := q.still hs1
  have r1 := r.still hs1
  have HF1 := hid (HS0.out.trans hs1)
  clear p q r HS0 hs1
  obtain ⟨c0, c1, c2, c3, cf⟩ := p1.cells
  obtain ⟨g0, g1, g2, g3, gf⟩ := q1.cells
  go_wp2_with fail
  refine (rcheck_no a' b' c' d' h2 _).mono ?_
  rintro e w2 ⟨rfl, hs2⟩
  have p2 := p1.still hs2
  have q2 := q1.still hs2
  have r2 := r1.still hs2
  have HF2 := hid (HF1.out.trans hs2)
  clear p1 q1 r1 HF1 hs2 c0 c1 c2 c3 cf g0 g1 g2 g3 gf
  obtain ⟨d0, d1, d2, d3, df⟩ := r2.cells
  go_wp2_with fail
  (try simp only [Exit.inBlock, Exit.then])
  exact bodyPost_ret ((r2.set _ _ _ _).resb rfl _ _ rfl rfl) rfl ⟨rfl, setB_fr HF2.out _ _ _ _ _ (.inr HB.out)⟩
theorem rmeet2 (a b c d a' b' c' d' : Int) (h1 : okb a b c d = true) (h2 : okb a' b' c' d' = false) (w : World) : Calls Tryd.prog 29 #[bx a b c d, bx a' b' c' d'] w fun e w' => e = .returned (.tuple #[bx 0 0 0 0, .bool false]) ∧ Still w w' := by
  have p := ((newB_bb w a b c d).still (Still.alloc (newB w a b c d) (.cells #[.int .i64 a', .int .i64 b', .int .i64 c', .int .i64 d'] 35))).still (Still.alloc (newB (newB w a b c d) a' b' c' d') (.cells #[.int .i64 0, .int .i64 0, .int .i64 0, .int .i64 0] 35))
  have q := (newB_bb (newB w a b c d) a' b' c' d').still (Still.alloc (newB (newB w a b c d) a' b' c' d') (.cells #[.int .i64 0, .int .i64 0, .int .i64 0, .int .i64 0] 35))
  have r := newB_bb (newB (newB w a b c d) a' b' c' d') 0 0 0 0
  simp only [size_alloc] at q r
  have HS0 := hid (((Still.alloc w (.cells #[.int .i64 a, .int .i64 b, .int .i64 c, .int .i64 d] 35)).trans (Still.alloc (newB w a b c d) (.cells #[.int .i64 a', .int .i64 b', .int .i64 c', .int .i64 d'] 35))).trans (Still.alloc (newB (newB w a b c d) a' b' c' d') (.cells #[.int .i64 0, .int .i64 0, .int .i64 0, .int .i64 0] 35)))
  have HB := hid (show w.heap.size ≤ w.heap.size + 1 + 1 by omega)
  go_enter Tryd.func29, Tryd.ntmps29
  go_wp2_with fail
  refine (rcheck_yes a b c d h1 _).mono ?_
  rintro e w1 ⟨rfl, hs1⟩
  have p1 := p.still hs1
  have q1 := q.still hs1
  have r1 := r.still hs1
  have HF1 := hid (HS0.out.trans hs1)
  clear p q r HS0 hs1
  obtain ⟨c0, c1, c2, c3, cf⟩ := p1.cells
  obtain ⟨g0, g1, g2, g3, gf⟩ := q1.cells
  go_wp2_with fail
  refine (rcheck_no a' b' c' d' h2 _).mono ?_
  rintro e w2 ⟨rfl, hs2⟩
  have p2 := p1.still hs2
  have q2 := q1.still hs2
  have r2 := r1.still hs2
  have HF2 := hid (HF1.out.trans hs2)
  clear p1 q1 r1 HF1 hs2 c0 c1 c2 c3 cf g0 g1 g2 g3 gf
  obtain ⟨d0, d1, d2, d3, df⟩ := r2.cells
  go_wp2_with fail
  (try simp only [Exit.inBlock, Exit.then])
  exact bodyPost_ret ((r2.set _ _ _ _).resb rfl _ _ rfl rfl) rfl ⟨rfl, setB_fr HF2.out _ _ _ _ _ (.inr HB.out)⟩
end Go.Proofs.YtkmkbglamgkkpaaDoor
