/- The document's Hurt, whole; its Rest. -/
import Derived.Test.YtaalbkmdmocdeaaDoorNk
namespace Go.Proofs.YtaalbkmdmocdeaaDoor
open Go.RowKit
open Pu Gp Ap Vp Np
set_option maxRecDepth 100000

theorem rhurt_any (m : Mv) (h : Int) (w : World) : Calls Tryd.prog 19 #[mv m, .int .i64 h] w fun e w' => e = .returned (.tuple #[mv (hurM m h), .bool (hurD m h), .int .i64 (errH m h)]) ∧ Still w w' := by
  unfold hurM hurD errH
  cases hm : mayB m with
  | false => exact rhurt_may m h hm w
  | true =>
    obtain ⟨g1, g2, g3, g4, g5, g6, g7, g8, g9, g10, g11⟩ := mayB_iff.1 hm
    simp only [if_true]
    by_cases h1 : h < 1
    · rw [show (if h < 1 ∨ 100 < h then (1 : Int) else 0) = 1 from if_pos (.inl h1), if_neg (by decide)]
      exact rhurt_low m h hm h1 w
    · by_cases h2 : 100 < h
      · rw [show (if h < 1 ∨ 100 < h then (1 : Int) else 0) = 1 from if_pos (.inr h2), if_neg (by decide)]
        exact rhurt_high m h hm h1 h2 w
      · rw [show (if h < 1 ∨ 100 < h then (1 : Int) else 0) = 0 from if_neg (by omega), if_pos rfl]
        have h2d : decide (100 < h) = false := by simpa using h2
        unfold hurtM went
        by_cases h0 : m.ou = 0
        · have h0' : (m.ou == 0) = true := by simpa using h0
          rw [if_pos h0, h0']
          cases hs : m.sh with
          | false =>
            have et : tak m h = 0 := by unfold tak; rw [hs]; rfl
            simp only [et, Int.sub_zero]
            by_cases hd : m.hl - h ≤ 0
            · rw [if_pos hd]
              have := rhurt_n2 m h hm h1 h2d (by omega) (by omega) g5.1 g5.2 hs (by omega) w
              simpa [hd] using this
            · rw [if_neg hd]
              have := rhurt_n1 m h hm h1 h2d (by omega) (by omega) g5.1 g5.2 hs (by omega) w
              simpa [hd] using this
          | true =>
            by_cases hd : m.hl - (h - tak m h) ≤ 0
            · rw [if_pos hd]
              have := rhurt_s2 m h hm h1 h2d (by omega) (by omega) g5.1 g5.2 g6.1 g6.2 hs hd w
              simpa [hd] using this
            · rw [if_neg hd]
              have := rhurt_s1 m h hm h1 h2d (by omega) (by omega) g5.1 g5.2 g6.1 g6.2 hs hd w
              simpa [hd] using this
        · have h0' : (m.ou == 0) = false := by simpa using h0
          rw [if_neg h0, h0']
          exact rhurt_out m h hm h1 h2d (by omega) w
theorem rrest_may (m : Mv) (x y : Int) (hm : mayB m = false)  (w : World) : Calls Tryd.prog 21 #[mv m, pt x y] w fun e w' => e = .returned (.tuple #[mv zM, .bool false, .int .i64 80]) ∧ Still w w' := by
  have A0 := Still.alloc w (.cells (mcs m) 25)
  have A1 := Still.alloc (newM w m) (.cells #[.int .i64 x, .int .i64 y] 23)
  have A2 := Still.alloc (newP (newM w m) x y) (.cells (mcs zM) 25)
  have p0 := ((newM_mb w m).still A1).still A2
  have o0 := (newP_pb (newM w m) x y).still A2
  have q0 := newM_mb (newP (newM w m) x y) zM
  simp only [size_alloc] at o0 q0
  have HS0 := hid ((A0.trans A1).trans A2)
  clear A0 A1 A2
  obtain ⟨c0, c1, c2, c3, c4, c5, c6, c7, c8, c9, c10, c11, c12, cf⟩ := p0.cells
  have H := hid (fun w => rcheck8_any m w)
  rw [show chkM m = 80 by unfold chkM; rw [hm]; rfl] at H
  clear hm
  go_enter Tryd.func21, Tryd.ntmps21
  go_wp2_with fail
  refine (H.out _).mono ?_
  rintro e w1 ⟨rfl, h1⟩
  have p1 := p0.still h1
  have o1 := o0.still h1
  have q1 := q0.still h1
  have HS1 := hid (HS0.out.trans h1)
  clear h1 HS0 p0 o0 q0 c0 c1 c2 c3 c4 c5 c6 c7 c8 c9 c10 c11 c12 cf H
  obtain ⟨c0, c1, c2, c3, c4, c5, c6, c7, c8, c9, c10, c11, c12, cf⟩ := p1.cells
  obtain ⟨k0, k1, k2, k3, k4, k5, k6, k7, k8, k9, k10, k11, k12, kf⟩ := q1.cells
  go_wp2_with fail
  refine bodyPost_ret (Mb.rest3 (Mb.put (m := zM) ?_ _ _ _ _ _ _ _ _ _ _ _ _ _) rfl _ _ _ rfl rfl rfl) rfl ⟨?_, ?_⟩
  · repeat (first | refine Mb.other ?_ _ _ _ (by omega) | with_reducible exact q1)
  · rfl
  · repeat (first | refine setC_fr ?_ _ _ _ (by omega) | with_reducible exact HS1.out)
theorem rrest_wait (m : Mv) (x y : Int) (hm : mayB m = true) (h1 : (m.ou == 1) = false) (h2 : 1 < m.ou) (h3 : m.ou ≤ 30) (w : World) : Calls Tryd.prog 21 #[mv m, pt x y] w fun e w' => e = .returned (.tuple #[mv { m with ou := m.ou - 1 }, .bool false, .int .i64 0]) ∧ Still w w' := by
  have A0 := Still.alloc w (.cells (mcs m) 25)
  have A1 := Still.alloc (newM w m) (.cells #[.int .i64 x, .int .i64 y] 23)
  have A2 := Still.alloc (newP (newM w m) x y) (.cells (mcs zM) 25)
  have p0 := ((newM_mb w m).still A1).still A2
  have o0 := (newP_pb (newM w m) x y).still A2
  have q0 := newM_mb (newP (newM w m) x y) zM
  simp only [size_alloc] at o0 q0
  have HS0 := hid ((A0.trans A1).trans A2)
  clear A0 A1 A2
  obtain ⟨c0, c1, c2, c3, c4, c5, c6, c7, c8, c9, c10, c11, c12, cf⟩ := p0.cells
  have H := hid (fun w => rcheck8_any m w)
  rw [show chkM m = 0 by unfold chkM; rw [hm]; rfl] at H
  clear hm
  go_enter Tryd.func21, Tryd.ntmps21
  go_wp2_with fail
  refine (H.out _).mono ?_
  rintro e w1 ⟨rfl, h1⟩
  have p1 := p0.still h1
  have o1 := o0.still h1
  have q1 := q0.still h1
  have HS1 := hid (HS0.out.trans h1)
  clear h1 HS0 p0 o0 q0 c0 c1 c2 c3 c4 c5 c6 c7 c8 c9 c10 c11 c12 cf H
  obtain ⟨c0, c1, c2, c3, c4, c5, c6, c7, c8, c9, c10, c11, c12, cf⟩ := p1.cells
  obtain ⟨k0, k1, k2, k3, k4, k5, k6, k7, k8, k9, k10, k11, k12, kf⟩ := q1.cells
  go_wp2_with fail
  refine bodyPost_ret (Mb.rest3 (Mb.put (m := zM) ?_ _ _ _ _ _ _ _ _ _ _ _ _ _) rfl _ _ _ rfl rfl rfl) rfl ⟨?_, ?_⟩
  · repeat (first | refine Mb.other ?_ _ _ _ (by omega) | with_reducible exact q1)
  · rfl
  · repeat (first | refine setC_fr ?_ _ _ _ (by omega) | with_reducible exact HS1.out)
end Go.Proofs.YtaalbkmdmocdeaaDoor
