/- The document's Meet, Overlap and Inside, in one word each. -/
import Derived.Test.YtkmkbglamgkkpaaDoorRn
import Derived.Test.YtkmkbglamgkkpaaDoorRo
namespace Go.Proofs.YtkmkbglamgkkpaaDoor
open Go.RowKit
open Pu Gp

theorem rmeet_any (a b c d a' b' c' d' : Int) (w : World) : Calls Tryd.prog 29 #[bx a b c d, bx a' b' c' d'] w fun e w' => e = .returned (.tuple #[mb a b c d a' b' c' d', .bool (mt a b c d a' b' c' d')]) ∧ Still w w' := by
  unfold mb mt
  cases h1 : okb a b c d with
  | false =>
    cases h2 : okb a' b' c' d' with
    | false => exact rmeet1b a b c d a' b' c' d' h1 h2 w
    | true => exact rmeet1 a b c d a' b' c' d' h1 h2 w
  | true =>
    cases h2 : okb a' b' c' d' with
    | false => exact rmeet2 a b c d a' b' c' d' h1 h2 w
    | true =>
      cases h3 : okb (max a a') (max b b') (min c c') (min d d') with
      | false => exact rmeet_n a b c d a' b' c' d' _ _ _ _ h1 h2 h3 (by omega) (by omega) (by omega) (by omega) w
      | true => exact rmeet_y a b c d a' b' c' d' _ _ _ _ h1 h2 h3 (by omega) (by omega) (by omega) (by omega) w
theorem roverlap_any (a b c d a' b' c' d' : Int) (w : World) : Calls Tryd.prog 37 #[bx a b c d, bx a' b' c' d'] w fun e w' => e = .returned (.bool (mt a b c d a' b' c' d')) ∧ Still w w' := by
  go_enter Tryd.func37, Tryd.ntmps37
  go_wp2_with fail
  refine (rmeet_any a b c d a' b' c' d' _).mono ?_
  rintro e w1 ⟨rfl, hs1⟩
  go_wp2_with fail
  go_ret
  exact ⟨rfl, (((Still.alloc w _).trans (Still.alloc _ _)).trans hs1).trans (Still.alloc _ _)⟩
/-- inside: the numbers -/
theorem mt_in {a b c d x y : Int} : mt a b c d x y x y = true ↔ (okb a b c d = true ∧ a ≤ x ∧ x ≤ c ∧ b ≤ y ∧ y ≤ d) := by
  unfold mt
  constructor
  · intro h
    simp only [Bool.and_eq_true] at h
    obtain ⟨⟨h1, h2⟩, h3⟩ := h
    have k3 := okb_t h3
    unfold okB at k3
    exact ⟨h1, by omega, by omega, by omega, by omega⟩
  · rintro ⟨h1, h2, h3, h4, h5⟩
    have k1 := okb_t h1
    unfold okB at k1
    simp only [Bool.and_eq_true]
    exact ⟨⟨h1, okb_of (by unfold okB; omega)⟩, okb_of (by unfold okB; omega)⟩
theorem mt_out {a b c d x y : Int} (h : ¬ (okb a b c d = true ∧ a ≤ x ∧ x ≤ c ∧ b ≤ y ∧ y ≤ d)) : mt a b c d x y x y = false := by
  cases k : mt a b c d x y x y with
  | false => rfl
  | true => exact absurd (mt_in.1 k) h
theorem rin1 (a b c d x y : Int) (h : okb a b c d = false) (w : World) : Calls Tryd.prog 35 #[bx a b c d, pt x y] w fun e w' => e = .returned (.bool false) ∧ Still w w' := by
  have r := (newB_bb w a b c d).still (Still.alloc (newB w a b c d) (.cells #[.int .i64 x, .int .i64 y] 23))
  have q := newP_pb (newB w a b c d) x y
  simp only [size_alloc] at q
  go_enter Tryd.func35, Tryd.ntmps35
  go_wp2_with fail
  refine (rcheck_no a b c d h _).mono ?_
  rintro e w1 ⟨rfl, hs1⟩
  have r1 := r.still hs1
  have q1 := q.still hs1
  have HF := hid (((Still.alloc w (.cells #[.int .i64 a, .int .i64 b, .int .i64 c, .int .i64 d] 35)).trans (Still.alloc (newB w a b c d) (.cells #[.int .i64 x, .int .i64 y] 23))).trans hs1)
  clear r q hs1 h
  obtain ⟨c0, c1, c2, c3, cf⟩ := r1.cells
  obtain ⟨d0, d1, df⟩ := q1.cells
  go_wp2_with fail
  go_ret
  exact ⟨rfl, HF.out⟩
theorem rin2 (a b c d x y : Int) (h : okb a b c d = true) (h1 : x < a) (w : World) : Calls Tryd.prog 35 #[bx a b c d, pt x y] w fun e w' => e = .returned (.bool false) ∧ Still w w' := by
  have r := (newB_bb w a b c d).still (Still.alloc (newB w a b c d) (.cells #[.int .i64 x, .int .i64 y] 23))
  have q := newP_pb (newB w a b c d) x y
  simp only [size_alloc] at q
  go_enter Tryd.func35, Tryd.ntmps35
  go_wp2_with fail
  refine (rcheck_yes a b c d h _).mono ?_
  rintro e w1 ⟨rfl, hs1⟩
  have r1 := r.still hs1
  have q1 := q.still hs1
  have HF := hid (((Still.alloc w (.cells #[.int .i64 a, .int .i64 b, .int .i64 c, .int .i64 d] 35)).trans (Still.alloc (newB w a b c d) (.cells #[.int .i64 x, .int .i64 y] 23))).trans hs1)
  clear r q hs1 h
  obtain ⟨c0, c1, c2, c3, cf⟩ := r1.cells
  obtain ⟨d0, d1, df⟩ := q1.cells
  go_wp2_with fail
  go_ret
  exact ⟨rfl, HF.out⟩
theorem rin3 (a b c d x y : Int) (h : okb a b c d = true) (h1 : a ≤ x) (h2 : c < x) (w : World) : Calls Tryd.prog 35 #[bx a b c d, pt x y] w fun e w' => e = .returned (.bool false) ∧ Still w w' := by
  have r := (newB_bb w a b c d).still (Still.alloc (newB w a b c d) (.cells #[.int .i64 x, .int .i64 y] 23))
  have q := newP_pb (newB w a b c d) x y
  simp only [size_alloc] at q
  go_enter Tryd.func35, Tryd.ntmps35
  go_wp2_with fail
  refine (rcheck_yes a b c d h _).mono ?_
  rintro e w1 ⟨rfl, hs1⟩
  have r1 := r.still hs1
  have q1 := q.still hs1
  have HF := hid (((Still.alloc w (.cells #[.int .i64 a, .int .i64 b, .int .i64 c, .int .i64 d] 35)).trans (Still.alloc (newB w a b c d) (.cells #[.int .i64 x, .int .i64 y] 23))).trans hs1)
  clear r q hs1 h
  obtain ⟨c0, c1, c2, c3, cf⟩ := r1.cells
  obtain ⟨d0, d1, df⟩ := q1.cells
  go_wp2_with fail
  go_ret
  exact ⟨rfl, HF.out⟩
theorem rin4 (a b c d x y : Int) (h : okb a b c d = true) (h1 : a ≤ x) (h2 : x ≤ c) (h3 : y < b) (w : World) : Calls Tryd.prog 35 #[bx a b c d, pt x y] w fun e w' => e = .returned (.bool false) ∧ Still w w' := by
  have r := (newB_bb w a b c d).still (Still.alloc (newB w a b c d) (.cells #[.int .i64 x, .int .i64 y] 23))
  have q := newP_pb (newB w a b c d) x y
  simp only [size_alloc] at q
  go_enter Tryd.func35, Tryd.ntmps35
  go_wp2_with fail
  refine (rcheck_yes a b c d h _).mono ?_
  rintro e w1 ⟨rfl, hs1⟩
  have r1 := r.still hs1
  have q1 := q.still hs1
  have HF := hid (((Still.alloc w (.cells #[.int .i64 a, .int .i64 b, .int .i64 c, .int .i64 d] 35)).trans (Still.alloc (newB w a b c d) (.cells #[.int .i64 x, .int .i64 y] 23))).trans hs1)
  clear r q hs1 h
  obtain ⟨c0, c1, c2, c3, cf⟩ := r1.cells
  obtain ⟨d0, d1, df⟩ := q1.cells
  go_wp2_with fail
  go_ret
  exact ⟨rfl, HF.out⟩
theorem rin5 (a b c d x y : Int) (h : okb a b c d = true) (h1 : a ≤ x) (h2 : x ≤ c) (h3 : b ≤ y) (h4 : d < y) (w : World) : Calls Tryd.prog 35 #[bx a b c d, pt x y] w fun e w' => e = .returned (.bool false) ∧ Still w w' := by
  have r := (newB_bb w a b c d).still (Still.alloc (newB w a b c d) (.cells #[.int .i64 x, .int .i64 y] 23))
  have q := newP_pb (newB w a b c d) x y
  simp only [size_alloc] at q
  go_enter Tryd.func35, Tryd.ntmps35
  go_wp2_with fail
  refine (rcheck_yes a b c d h _).mono ?_
  rintro e w1 ⟨rfl, hs1⟩
  have r1 := r.still hs1
  have q1 := q.still hs1
  have HF := hid (((Still.alloc w (.cells #[.int .i64 a, .int .i64 b, .int .i64 c, .int .i64 d] 35)).trans (Still.alloc (newB w a b c d) (.cells #[.int .i64 x, .int .i64 y] 23))).trans hs1)
  clear r q hs1 h
  obtain ⟨c0, c1, c2, c3, cf⟩ := r1.cells
  obtain ⟨d0, d1, df⟩ := q1.cells
  go_wp2_with fail
  go_ret
  exact ⟨show Ending.returned (.bool (decide (y ≤ d))) = _ by rw [decide_eq_false (show ¬ y ≤ d by omega)], HF.out⟩
theorem rin6 (a b c d x y : Int) (h : okb a b c d = true) (h1 : a ≤ x) (h2 : x ≤ c) (h3 : b ≤ y) (h4 : y ≤ d) (w : World) : Calls Tryd.prog 35 #[bx a b c d, pt x y] w fun e w' => e = .returned (.bool true) ∧ Still w w' := by
  have r := (newB_bb w a b c d).still (Still.alloc (newB w a b c d) (.cells #[.int .i64 x, .int .i64 y] 23))
  have q := newP_pb (newB w a b c d) x y
  simp only [size_alloc] at q
  go_enter Tryd.func35, Tryd.ntmps35
  go_wp2_with fail
  refine (rcheck_yes a b c d h _).mono ?_
  rintro e w1 ⟨rfl, hs1⟩
  have r1 := r.still hs1
  have q1 := q.still hs1
  have HF := hid (((Still.alloc w (.cells #[.int .i64 a, .int .i64 b, .int .i64 c, .int .i64 d] 35)).trans (Still.alloc (newB w a b c d) (.cells #[.int .i64 x, .int .i64 y] 23))).trans hs1)
  clear r q hs1 h
  obtain ⟨c0, c1, c2, c3, cf⟩ := r1.cells
  obtain ⟨d0, d1, df⟩ := q1.cells
  go_wp2_with fail
  go_ret
  exact ⟨rfl, HF.out⟩
theorem rinside_any (a b c d x y : Int) (w : World) : Calls Tryd.prog 35 #[bx a b c d, pt x y] w fun e w' => e = .returned (.bool (mt a b c d x y x y)) ∧ Still w w' := by
  cases h : okb a b c d with
  | false => rw [mt_out (by rw [h]; simp)]; exact rin1 a b c d x y h w
  | true =>
    by_cases h1 : x < a
    · rw [mt_out (by omega)]; exact rin2 a b c d x y h h1 w
    · by_cases h2 : c < x
      · rw [mt_out (by omega)]; exact rin3 a b c d x y h (by omega) h2 w
      · by_cases h3 : y < b
        · rw [mt_out (by omega)]; exact rin4 a b c d x y h (by omega) (by omega) h3 w
        · by_cases h4 : d < y
          · rw [mt_out (by omega)]; exact rin5 a b c d x y h (by omega) (by omega) (by omega) h4 w
          · rw [mt_in.2 ⟨h, by omega, by omega, by omega, by omega⟩]; exact rin6 a b c d x y h (by omega) (by omega) (by omega) (by omega) w
end Go.Proofs.YtkmkbglamgkkpaaDoor
