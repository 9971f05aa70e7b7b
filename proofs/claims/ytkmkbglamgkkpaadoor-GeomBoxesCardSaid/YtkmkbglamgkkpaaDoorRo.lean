/- What two boxes have in common, by the document's answer: where both may be. -/
import Derived.Test.YtkmkbglamgkkpaaDoorRm
namespace Go.Proofs.YtkmkbglamgkkpaaDoor
open Go.RowKit
open Pu Gp

set_option maxHeartbeats 8000000 in
theorem rmeet_n (a b c d a' b' c' d' : Int) (A B C D : Int) (h1 : okb a b c d = true) (h2 : okb a' b' c' d' = true) (h3 : okb A B C D = false)
    (k1 : (a < a' ∧ A = a') ∨ (¬ a < a' ∧ A = a)) (k2 : (b < b' ∧ B = b') ∨ (¬ b < b' ∧ B = b)) (k3 : (c' < c ∧ C = c') ∨ (¬ c' < c ∧ C = c)) (k4 : (d' < d ∧ D = d') ∨ (¬ d' < d ∧ D = d)) (w : World) : Calls Tryd.prog 29 #[bx a b c d, bx a' b' c' d'] w fun e w' => e = .returned (.tuple #[bx 0 0 0 0, .bool false]) ∧ Still w w' := by
  have p := ((newB_bb w a b c d).still (Still.alloc (newB w a b c d) (.cells #[.int .i64 a', .int .i64 b', .int .i64 c', .int .i64 d'] 35))).still (Still.alloc (newB (newB w a b c d) a' b' c' d') (.cells #[.int .i64 0, .int .i64 0, .int .i64 0, .int .i64 0] 35))
  have q := (newB_bb (newB w a b c d) a' b' c' d').still (Still.alloc (newB (newB w a b c d) a' b' c' d') (.cells #[.int .i64 0, .int .i64 0, .int .i64 0, .int .i64 0] 35))
  have r := newB_bb (newB (newB w a b c d) a' b' c' d') 0 0 0 0
  simp only [size_alloc] at q r
  have HS0 := hid (((Still.alloc w (.cells #[.int .i64 a, .int .i64 b, .int .i64 c, .int .i64 d] 35)).trans (Still.alloc (newB w a b c d) (.cells #[.int .i64 a', .int .i64 b', .int .i64 c', .int .i64 d'] 35))).trans (Still.alloc (newB (newB w a b c d) a' b' c' d') (.cells #[.int .i64 0, .int .i64 0, .int .i64 0, .int .i64 0] 35)))
  have HB := hid (show w.heap.size ≤ w.heap.size + 1 + 1 by omega)
  have HN := hid (show w.heap.size + 1 + 1 ≠ w.heap.size by omega)
  go_enter Tryd.func29, Tryd.ntmps29
  go_wp2_with fail
  refine (rcheck_yes a b c d h1 _).mono ?_
  rintro e w1 ⟨rfl, hs1⟩
  have p1 := p.still hs1
  have q1 := q.still hs1
  have r1 := r.still hs1
  have HF1 := hid (HS0.out.trans hs1)
  clear p q r HS0 hs1
  obtain ⟨c0, c1, c2, c3, cf⟩ := p1.cells
  obtain ⟨g0, g1, g2, g3, gf⟩ := q1.cells
  go_wp2_with fail
  refine (rcheck_yes a' b' c' d' h2 _).mono ?_
  rintro e w2 ⟨rfl, hs2⟩
  have p2 := p1.still hs2
  have q2 := q1.still hs2
  have r2 := r1.still hs2
  have HF2 := hid (HF1.out.trans hs2)
  clear p1 q1 r1 HF1 hs2 c0 c1 c2 c3 cf g0 g1 g2 g3 gf
  obtain ⟨c0, c1, c2, c3, cf⟩ := p2.cells
  obtain ⟨g0, g1, g2, g3, gf⟩ := q2.cells
  have H3 := hid h3
  clear h1 h2 h3
  rcases k1 with ⟨k1, rfl⟩ | ⟨k1, rfl⟩ <;> rcases k2 with ⟨k2, rfl⟩ | ⟨k2, rfl⟩ <;> rcases k3 with ⟨k3, rfl⟩ | ⟨k3, rfl⟩ <;> rcases k4 with ⟨k4, rfl⟩ | ⟨k4, rfl⟩
  all_goals
    go_wp2_with fail
    refine (rcheck_no _ _ _ _ H3.out _).mono ?_
    rintro e w4 ⟨rfl, hs4⟩
    have p4 : Bb w4 w.heap.size A B C D := Bb.still (by with_reducible repeat' (first | apply Bb.set3 | apply Bb.set2 | apply Bb.set1 | apply Bb.set0 | exact p2)) hs4
    have r4 := Bb.still (w' := w4) (b := w.heap.size + 1 + 1) (x := 0) (y := 0) (z := 0) (u := 0) (by with_reducible repeat' (first | exact r2 | refine Bb.off ?_ HN.out)) hs4
    have HF4 := hid (Still.trans (show Still w _ by with_reducible repeat' (first | exact HF2.out | refine Fr.setCell ?_ _ _ (.inr (Nat.le_refl _)))) hs4)
    clear p2 q2 r2 HF2 hs4 c0 c1 c2 c3 cf g0 g1 g2 g3 gf k1 k2 k3 k4 HN
    obtain ⟨c0, c1, c2, c3, cf⟩ := p4.cells
    obtain ⟨d0, d1, d2, d3, df⟩ := r4.cells
    go_wp2_with fail
    (try simp only [Exit.inBlock, Exit.then])
    exact bodyPost_ret ((r4.set _ _ _ _).resb rfl _ _ rfl rfl) rfl ⟨rfl, setB_fr HF4.out _ _ _ _ _ (.inr HB.out)⟩
end Go.Proofs.YtkmkbglamgkkpaaDoor
