/- The box around a point; what two boxes have in common, by the program. -/
import Derived.Test.YtkmkbglamgkkpabDoorCp
import Derived.Test.YtkmkbglamgkkpabDoorQn
namespace Go.Proofs.YtkmkbglamgkkpabDoor
open Go.RowKit
open Pu Gp

theorem around_any (x y n : Int) (w : World) : Calls Tryd.prog 11 #[pt x y, .int .i64 n] w fun e w' => e = .returned (bx (subf x (clampf n 0 2147483647)) (subf y (clampf n 0 2147483647)) (addf x (clampf n 0 2147483647)) (addf y (clampf n 0 2147483647))) ∧ Still w w' := by
  obtain ⟨R, eR⟩ : ∃ R, R = clampf n 0 2147483647 := ⟨_, rfl⟩
  rw [← eR]
  have HR := hid eR
  clear eR
  obtain ⟨W, eW⟩ : ∃ W, W = newP (newB (newP w x y) 0 0 0 0) R R := ⟨_, rfl⟩
  have p0 : Pb W w.heap.size x y := by rw [eW]; exact ((newP_pb w x y).still (Still.alloc _ _)).still (Still.alloc _ _)
  have r : Bb W (w.heap.size + 1) 0 0 0 0 := by rw [eW]; have h := newB_bb (newP w x y) 0 0 0 0; simp only [size_alloc] at h; exact h.still (Still.alloc _ _)
  have p1 : Pb W (w.heap.size + 1 + 1) R R := by rw [eW]; have h := newP_pb (newB (newP w x y) 0 0 0 0) R R; simp only [size_alloc] at h; exact h
  have c00 := Cl.cell p0.cells.1
  have c01 := Cl.cell p0.cells.2.1
  have c10 := Cl.cell p1.cells.1
  have c11 := Cl.cell p1.cells.2.1
  have HF := hid (show Still w W by rw [eW]; exact ((Still.alloc w _).trans (Still.alloc _ _)).trans (Still.alloc _ _))
  have HW := hid eW
  have hne := Aft.here W
  have HB := hid (show w.heap.size ≤ w.heap.size + 1 by omega)
  clear eW p0 p1
  go_enter Tryd.func11, Tryd.ntmps11
  go_wp2_with (go_at_call 24; refine (size_any _ _).mono ?_; rintro e w' ⟨he, hw⟩; rw [he, hw, ← HR.out]; clear he hw w')
  have e := HW.out
  simp only [newP, newB] at e
  rw [← e]
  clear e HW HR
  refine region_rest 6 (by kernel_rfl) (by kernel_rfl) ?_
  simp only [List.take_succ_cons, List.take_zero, List.drop_succ_cons, List.drop_zero]
  repeat (go_big_quiet_step ((first | (go_at_call 13; exact Calls.cl (gsub_any _ _ _ _ _)) | (go_at_call 12; exact Calls.cl (gadd_any _ _ _ _ _)))))
  refine wpQuiet_nil ?_
  intro w1 hs
  clear hne c00 c01 c10 c11
  have q := r.still hs
  obtain ⟨d0, d1, d2, d3, df⟩ := q.cells
  go_wp2_with fail
  (try simp only [Exit.inBlock, Exit.then])
  exact bodyPost_ret ((q.set _ _ _ _).res rfl _ rfl) rfl ⟨rfl, setB_fr (HF.out.trans hs) _ _ _ _ _ (.inr HB.out)⟩
/-- have two boxes something in common -/
def mt (a b c d a' b' c' d' : Int) : Bool := (okb a b c d && okb a' b' c' d') && okb (max a a') (max b b') (min c c') (min d d')
def mif (t : Bool) (x : Int) : Int := if t then x else 0
/-- what a box holds of another one: its four numbers -/
abbrev mb (a b c d a' b' c' d' : Int) : Value := bx (mif (mt a b c d a' b' c' d') (max a a')) (mif (mt a b c d a' b' c' d') (max b b')) (mif (mt a b c d a' b' c' d') (min c c')) (mif (mt a b c d a' b' c' d') (min d d'))
theorem meet1 (a b c d a' b' c' d' : Int) (h1 : okb a b c d = false) (w : World) : Calls Tryd.prog 6 #[bx a b c d, bx a' b' c' d'] w fun e w' => e = .returned (.tuple #[bx 0 0 0 0, .bool false]) ∧ Still w w' := by
  have p := ((newB_bb w a b c d).still (Still.alloc (newB w a b c d) (.cells #[.int .i64 a', .int .i64 b', .int .i64 c', .int .i64 d'] 25))).still (Still.alloc (newB (newB w a b c d) a' b' c' d') (.cells #[.int .i64 0, .int .i64 0, .int .i64 0, .int .i64 0] 25))
  have q := (newB_bb (newB w a b c d) a' b' c' d').still (Still.alloc (newB (newB w a b c d) a' b' c' d') (.cells #[.int .i64 0, .int .i64 0, .int .i64 0, .int .i64 0] 25))
  have r := newB_bb (newB (newB w a b c d) a' b' c' d') 0 0 0 0
  simp only [size_alloc] at q r
  have HS0 := hid (((Still.alloc w (.cells #[.int .i64 a, .int .i64 b, .int .i64 c, .int .i64 d] 25)).trans (Still.alloc (newB w a b c d) (.cells #[.int .i64 a', .int .i64 b', .int .i64 c', .int .i64 d'] 25))).trans (Still.alloc (newB (newB w a b c d) a' b' c' d') (.cells #[.int .i64 0, .int .i64 0, .int .i64 0, .int .i64 0] 25)))
  have HB := hid (show w.heap.size ≤ w.heap.size + 1 + 1 by omega)
  go_enter Tryd.func6, Tryd.ntmps6
  go_wp2_with fail
  refine (check_no a b c d h1 _).mono ?_
  rintro e w1 ⟨rfl, hs1⟩
  have p1 := p.still hs1
  have q1 := q.still hs1
  have r1 := r.still hs1
  have HF1 := hid (HS0.out.trans hs1)
  clear p q r HS0 hs1
  obtain ⟨c0, c1, c2, c3, cf⟩ := p1.cells
  obtain ⟨g0, g1, g2, g3, gf⟩ := q1.cells
  obtain ⟨d0, d1, d2, d3, df⟩ := r1.cells
  go_wp2_with fail
  (try simp only [Exit.inBlock, Exit.then])
  exact bodyPost_ret ((r1.set _ _ _ _).resb rfl _ _ rfl rfl) rfl ⟨rfl, setB_fr HF1.out _ _ _ _ _ (.inr HB.out)⟩
theorem meet2 (a b c d a' b' c' d' : Int) (h1 : okb a b c d = true) (h2 : okb a' b' c' d' = false) (w : World) : Calls Tryd.prog 6 #[bx a b c d, bx a' b' c' d'] w fun e w' => e = .returned (.tuple #[bx 0 0 0 0, .bool false]) ∧ Still w w' := by
  have p := ((newB_bb w a b c d).still (Still.alloc (newB w a b c d) (.cells #[.int .i64 a', .int .i64 b', .int .i64 c', .int .i64 d'] 25))).still (Still.alloc (newB (newB w a b c d) a' b' c' d') (.cells #[.int .i64 0, .int .i64 0, .int .i64 0, .int .i64 0] 25))
  have q := (newB_bb (newB w a b c d) a' b' c' d').still (Still.alloc (newB (newB w a b c d) a' b' c' d') (.cells #[.int .i64 0, .int .i64 0, .int .i64 0, .int .i64 0] 25))
  have r := newB_bb (newB (newB w a b c d) a' b' c' d') 0 0 0 0
  simp only [size_alloc] at q r
  have HS0 := hid (((Still.alloc w (.cells #[.int .i64 a, .int .i64 b, .int .i64 c, .int .i64 d] 25)).trans (Still.alloc (newB w a b c d) (.cells #[.int .i64 a', .int .i64 b', .int .i64 c', .int .i64 d'] 25))).trans (Still.alloc (newB (newB w a b c d) a' b' c' d') (.cells #[.int .i64 0, .int .i64 0, .int .i64 0, .int .i64 0] 25)))
  have HB := hid (show w.heap.size ≤ w.heap.size + 1 + 1 by omega)
  go_enter Tryd.func6, Tryd.ntmps6
  go_wp2_with fail
  refine (check_yes a b c d h1 _).mono ?_
  rintro e w1 ⟨rfl, hs1⟩
  have p1 := p.still hs1
  have q1 := q.still hs1
  have r1 := r.still hs1
  have HF1 := hid (HS0.out.trans hs1)
  clear p q r HS0 hs1
  obtain ⟨c0, c1, c2, c3, cf⟩ := p1.cells
  obtain ⟨g0, g1, g2, g3, gf⟩ := q1.cells
  obtain ⟨d0, d1, d2, d3, df⟩ := r1.cells
  go_wp2_with fail
  refine (check_no a' b' c' d' h2 _).mono ?_
  rintro e w2 ⟨rfl, hs2⟩
  have p2 := p1.still hs2
  have q2 := q1.still hs2
  have r2 := r1.still hs2
  have HF2 := hid (HF1.out.trans hs2)
  clear p1 q1 r1 HF1 hs2 c0 c1 c2 c3 cf g0 g1 g2 g3 gf d0 d1 d2 d3 df
  obtain ⟨d0, d1, d2, d3, df⟩ := r2.cells
  go_wp2_with fail
  (try simp only [Exit.inBlock, Exit.then])
  exact bodyPost_ret ((r2.set _ _ _ _).resb rfl _ _ rfl rfl) rfl ⟨rfl, setB_fr HF2.out _ _ _ _ _ (.inr HB.out)⟩
end Go.Proofs.YtkmkbglamgkkpabDoor
