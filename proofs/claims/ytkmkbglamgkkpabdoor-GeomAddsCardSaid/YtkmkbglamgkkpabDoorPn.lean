/- Points: how far a way leads, which of two is the greater, how far into a direction. -/
import Derived.Test.YtkmkbglamgkkpabDoorBd
namespace Go.Proofs.YtkmkbglamgkkpabDoor
open Go.RowKit
open Pu Gp

theorem along_any (x y z u : Int) (h0 : -2147483647 ≤ x) (h1 : x ≤ 2147483647) (h2 : -2147483647 ≤ y) (h3 : y ≤ 2147483647) (h4 : -256 ≤ z) (h5 : z ≤ 256) (h6 : -256 ≤ u) (h7 : u ≤ 256) (w : World) :
    Calls Tryd.prog 30 #[pt x y, pt z u] w fun e w' => e = .returned (.int .i64 (x * z + y * u)) ∧ Still w w' := by
  obtain ⟨a0, a1⟩ := mul_bd (a := x) (b := z) (by omega) (by omega) (by omega) (by omega)
  obtain ⟨b0, b1⟩ := mul_bd (a := y) (b := u) (by omega) (by omega) (by omega) (by omega)
  clear h0 h1 h2 h3 h4 h5 h6 h7
  go_enter Tryd.func30, Tryd.ntmps30
  go_wp2_with fail
  go_ret
  exact ⟨rfl, (Still.alloc w _).trans (Still.alloc _ _)⟩
theorem reach_any (x y : Int) (h0 : -2147483647 ≤ x) (h1 : x ≤ 2147483647) (h2 : -2147483647 ≤ y) (h3 : y ≤ 2147483647) (w : World) :
    Calls Tryd.prog 27 #[pt x y] w fun e w' => e = .returned (.int .i64 (far x y)) ∧ Still w w' := by
  have a0 := sq_nn x
  have a1 := sq_hi h0 h1
  have b0 := sq_nn y
  have b1 := sq_hi h2 h3
  clear h0 h1 h2 h3
  have HE := hid (show isqL (x * x + y * y) = far x y from rfl)
  go_enter Tryd.func27, Tryd.ntmps27
  go_wp2_with (go_at_call 32; refine (root_any _ _).mono ?_; rintro e w' ⟨rfl, rfl⟩)
  go_ret
  exact ⟨ret_int HE.out, Still.alloc w _⟩
theorem length_any (x y : Int) (w : World) :
    Calls Tryd.prog 14 #[pt x y] w fun e w' => e = .returned (.int .i64 (bnd (far (bnd x) (bnd y)))) ∧ Still w w' := by
  go_enter Tryd.func14, Tryd.ntmps14
  go_wp2_with fail
  refine (gbound_any x y _).mono ?_
  rintro e w1 ⟨rfl, hs⟩
  go_wp2_with fail
  refine (reach_any _ _ (bnd_lo x) (bnd_hi x) (bnd_lo y) (bnd_hi y) _).mono ?_
  rintro e w2 ⟨rfl, hs2⟩
  go_wp2_with (go_at_call 23; refine (bound_any _ _).mono ?_; rintro e w' ⟨rfl, rfl⟩)
  go_ret
  exact ⟨rfl, ((Still.alloc w _).trans hs).trans hs2⟩
theorem greater_any (x y z u : Int) (w : World) :
    Calls Tryd.prog 20 #[pt x y, pt z u] w fun e w' => e = .returned (pt (max x z) (max y u)) ∧ Still w w' := by
  have r := newP_pb (newP (newP w x y) z u) (max x z) (max y u)
  simp only [size_alloc] at r
  have HR := hid r
  clear r
  go_enter Tryd.func20, Tryd.ntmps20
  go_wp2_with fail
  (try simp only [Exit.inBlock, Exit.then])
  exact bodyPost_ret (HR.out.res rfl _ rfl) rfl ⟨rfl, ((Still.alloc w _).trans (Still.alloc _ _)).trans (Still.alloc _ _)⟩
theorem lesser_any (x y z u : Int) (w : World) :
    Calls Tryd.prog 21 #[pt x y, pt z u] w fun e w' => e = .returned (pt (min x z) (min y u)) ∧ Still w w' := by
  have r := newP_pb (newP (newP w x y) z u) (min x z) (min y u)
  simp only [size_alloc] at r
  have HR := hid r
  clear r
  go_enter Tryd.func21, Tryd.ntmps21
  go_wp2_with fail
  (try simp only [Exit.inBlock, Exit.then])
  exact bodyPost_ret (HR.out.res rfl _ rfl) rfl ⟨rfl, ((Still.alloc w _).trans (Still.alloc _ _)).trans (Still.alloc _ _)⟩
theorem between_any (x y z u : Int) (w : World) : Calls Tryd.prog 22 #[pt x y, pt z u] w fun e w' => e = .returned (bx (min x z) (min y u) (max x z) (max y u)) ∧ Still w w' := by
  obtain ⟨W, eW⟩ : ∃ W, W = (newB (newP (newP w x y) z u) 0 0 0 0) := ⟨_, rfl⟩
  have p0 : Pb W (w.heap.size) x y := by rw [eW]; have h := newP_pb w x y; exact ((h.still (Still.alloc _ _)).still (Still.alloc _ _))
  have c00 := Cl.cell p0.cells.1
  have c01 := Cl.cell p0.cells.2.1
  clear p0
  have p1 : Pb W (w.heap.size + 1) z u := by rw [eW]; have h := newP_pb (newP w x y) z u; simp only [size_alloc] at h; exact (h.still (Still.alloc _ _))
  have c10 := Cl.cell p1.cells.1
  have c11 := Cl.cell p1.cells.2.1
  clear p1
  have r : Bb W (w.heap.size + 1 + 1) 0 0 0 0 := by rw [eW]; have h := newB_bb (newP (newP w x y) z u) 0 0 0 0; simp only [size_alloc] at h; exact h
  have HF := hid (show Still w W by rw [eW]; exact (((Still.alloc w _).trans (Still.alloc _ _)).trans (Still.alloc _ _)))
  have HW := hid eW
  have hne := Aft.here W
  clear eW
  have HB := hid (show w.heap.size ≤ w.heap.size + 1 + 1 by omega)
  go_enter Tryd.func22, Tryd.ntmps22
  go_wp2_with fail
  have e := HW.out
  simp only [newP, newB] at e
  rw [← e]
  clear e HW
  refine region_rest 6 (by kernel_rfl) (by kernel_rfl) ?_
  simp only [List.take_succ_cons, List.take_zero, List.drop_succ_cons, List.drop_zero]
  repeat (go_big_quiet_step ((first | (go_at_call 21; exact Calls.cl (lesser_any _ _ _ _ _)) | (go_at_call 20; exact Calls.cl (greater_any _ _ _ _ _)))))
  refine wpQuiet_nil ?_
  intro w1 hs
  clear hne c00 c01 c10 c11
  have q := r.still hs
  obtain ⟨d0, d1, d2, d3, df⟩ := q.cells
  go_wp2_with fail
  (try simp only [Exit.inBlock, Exit.then])
  exact bodyPost_ret ((q.set _ _ _ _).res rfl _ rfl) rfl ⟨rfl, setB_fr (HF.out.trans hs) _ _ _ _ _ (.inr HB.out)⟩
end Go.Proofs.YtkmkbglamgkkpabDoor
