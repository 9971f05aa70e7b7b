/- The box around a point; what two boxes have in common, by the program. -/
import Derived.Test.YtaalbkmdmocdeaaDoorCp
import Derived.Test.YtaalbkmdmocdeaaDoorQn
namespace Go.Proofs.YtaalbkmdmocdeaaDoor
open Go.RowKit
open Pu Gp

theorem around_any (x y n : Int) (w : World) : Calls Tryd.prog 23 #[pt x y, .int .i64 n] w fun e w' => e = .returned (bx (subf x (clampf n 0 2147483647)) (subf y (clampf n 0 2147483647)) (addf x (clampf n 0 2147483647)) (addf y (clampf n 0 2147483647))) ∧ Still w w' := by
  obtain ⟨R, eR⟩ : ∃ R, R = clampf n 0 2147483647 := ⟨_, rfl⟩
  rw [← eR]
  have HR := hid eR
  clear eR
  obtain ⟨W, eW⟩ : ∃ W, W = newP (newB (newP w x y) 0 0 0 0) R R := ⟨_, rfl⟩
  have p0 : Pb W w.heap.size x y := by rw [eW]; exact ((newP_pb w x y).still (Still.alloc _ _)).still (Still.alloc _ _)
  have r : Bb W (w.heap.size + 1) 0 0 0 0 := by rw [eW]; have h := newB_bb (newP w x y) 0 0 0 0; simp only [size_alloc] at h; exact h.still (Still.alloc _ _)
  have p1 : Pb W (w.heap.size + 1 + 1) R R := by rw [eW]; have h := newP_pb (newB (newP w x y) 0 0 0 0) R R; simp only [size_alloc] at h; exact h
  have c00 := Cl.cell p0.cells.1
  have c01 := Cl.cell p0.cells.2.1
  have c10 := Cl.cell p1.cells.1
  have c11 := Cl.cell p1.cells.2.1
  have HF := hid (show Still w W by rw [eW]; exact ((Still.alloc w _).trans (Still.alloc _ _)).trans (Still.alloc _ _))
  have HW := hid eW
  have hne := Aft.here W
  have HB := hid (show w.heap.size ≤ w.heap.size + 1 by omega)
  clear eW p0 p1
  go_enter Tryd.func23, Tryd.ntmps23
  go_wp2_with (go_at_call 47; refine (size_any _ _).mono ?_; rintro e w' ⟨he, hw⟩; rw [he, hw, ← HR.out]; clear he hw w')
  have e := HW.out
  simp only [newP, newB] at e
  rw [← e]
  clear e HW HR
  refine region_rest 6 (by kernel_rfl) (by kernel_rfl) ?_
  simp only [List.take_succ_cons, List.take_zero, List.drop_succ_cons, List.drop_zero]
  repeat (go_big_quiet_step ((first | (go_at_call 48; exact Calls.cl (gsub_any _ _ _ _ _)) | (go_at_call 49; exact Calls.cl (gadd_any _ _ _ _ _)))))
  refine wpQuiet_nil ?_
  intro w1 hs
  clear hne c00 c01 c10 c11
  have q := r.still hs
  obtain ⟨d0, d1, d2, d3, df⟩ := q.cells
  go_wp2_with fail
  (try simp only [Exit.inBlock, Exit.then])
  exact bodyPost_ret ((q.set _ _ _ _).res rfl _ rfl) rfl ⟨rfl, setB_fr (HF.out.trans hs) _ _ _ _ _ (.inr HB.out)⟩
theorem raround_any (x y n : Int) (w : World) : Calls Tryd.prog 91 #[pt x y, .int .i64 n] w fun e w' => e = .returned (bx (subf x (clampf n 0 2147483647)) (subf y (clampf n 0 2147483647)) (addf x (clampf n 0 2147483647)) (addf y (clampf n 0 2147483647))) ∧ Still w w' := by
  obtain ⟨R, eR⟩ : ∃ R, R = clampf n 0 2147483647 := ⟨_, rfl⟩
  rw [← eR]
  have HR := hid eR
  clear eR
  obtain ⟨W, eW⟩ : ∃ W, W = newP (newB (newP w x y) 0 0 0 0) R R := ⟨_, rfl⟩
  have p0 : Pb W w.heap.size x y := by rw [eW]; exact ((newP_pb w x y).still (Still.alloc _ _)).still (Still.alloc _ _)
  have r : Bb W (w.heap.size + 1) 0 0 0 0 := by rw [eW]; have h := newB_bb (newP w x y) 0 0 0 0; simp only [size_alloc] at h; exact h.still (Still.alloc _ _)
  have p1 : Pb W (w.heap.size + 1 + 1) R R := by rw [eW]; have h := newP_pb (newB (newP w x y) 0 0 0 0) R R; simp only [size_alloc] at h; exact h
  have c00 := Cl.cell p0.cells.1
  have c01 := Cl.cell p0.cells.2.1
  have c10 := Cl.cell p1.cells.1
  have c11 := Cl.cell p1.cells.2.1
  have HF := hid (show Still w W by rw [eW]; exact ((Still.alloc w _).trans (Still.alloc _ _)).trans (Still.alloc _ _))
  have HW := hid eW
  have hne := Aft.here W
  have HB := hid (show w.heap.size ≤ w.heap.size + 1 by omega)
  clear eW p0 p1
  go_enter Tryd.func91, Tryd.ntmps91
  go_wp2_with (go_at_call 38; refine (rclamp_any _ _ _ _).mono ?_; rintro e w' ⟨he, hw⟩; rw [he, hw, ← HR.out]; clear he hw w')
  have e := HW.out
  simp only [newP, newB] at e
  rw [← e]
  clear e HW HR
  refine region_rest 6 (by kernel_rfl) (by kernel_rfl) ?_
  simp only [List.take_succ_cons, List.take_zero, List.drop_succ_cons, List.drop_zero]
  repeat (go_big_quiet_step ((first | (go_at_call 108; exact Calls.cl (rgsub_any _ _ _ _ _)) | (go_at_call 76; exact Calls.cl (rgadd_any _ _ _ _ _)))))
  refine wpQuiet_nil ?_
  intro w1 hs
  clear hne c00 c01 c10 c11
  have q := r.still hs
  obtain ⟨d0, d1, d2, d3, df⟩ := q.cells
  go_wp2_with fail
  (try simp only [Exit.inBlock, Exit.then])
  exact bodyPost_ret ((q.set _ _ _ _).res rfl _ rfl) rfl ⟨rfl, setB_fr (HF.out.trans hs) _ _ _ _ _ (.inr HB.out)⟩
/-- have two boxes something in common -/
def mt (a b c d a' b' c' d' : Int) : Bool := (okb a b c d && okb a' b' c' d') && okb (max a a') (max b b') (min c c') (min d d')
def mif (t : Bool) (x : Int) : Int := if t then x else 0
/-- what a box holds of another one: its four numbers -/
abbrev mb (a b c d a' b' c' d' : Int) : Value := bx (mif (mt a b c d a' b' c' d') (max a a')) (mif (mt a b c d a' b' c' d') (max b b')) (mif (mt a b c d a' b' c' d') (min c c')) (mif (mt a b c d a' b' c' d') (min d d'))
end Go.Proofs.YtaalbkmdmocdeaaDoor
