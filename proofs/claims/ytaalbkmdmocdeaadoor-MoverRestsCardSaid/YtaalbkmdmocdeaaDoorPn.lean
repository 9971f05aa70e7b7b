/- Points: how far a way leads, which of two is the greater, how far into a direction. -/
import Derived.Test.YtaalbkmdmocdeaaDoorBd
namespace Go.Proofs.YtaalbkmdmocdeaaDoor
open Go.RowKit
open Pu Gp

theorem greater_any (x y z u : Int) (w : World) :
    Calls Tryd.prog 96 #[pt x y, pt z u] w fun e w' => e = .returned (pt (max x z) (max y u)) ∧ Still w w' := by
  have r := newP_pb (newP (newP w x y) z u) (max x z) (max y u)
  simp only [size_alloc] at r
  have HR := hid r
  clear r
  go_enter Tryd.func96, Tryd.ntmps96
  go_wp2_with fail
  (try simp only [Exit.inBlock, Exit.then])
  exact bodyPost_ret (HR.out.res rfl _ rfl) rfl ⟨rfl, ((Still.alloc w _).trans (Still.alloc _ _)).trans (Still.alloc _ _)⟩
theorem lesser_any (x y z u : Int) (w : World) :
    Calls Tryd.prog 95 #[pt x y, pt z u] w fun e w' => e = .returned (pt (min x z) (min y u)) ∧ Still w w' := by
  have r := newP_pb (newP (newP w x y) z u) (min x z) (min y u)
  simp only [size_alloc] at r
  have HR := hid r
  clear r
  go_enter Tryd.func95, Tryd.ntmps95
  go_wp2_with fail
  (try simp only [Exit.inBlock, Exit.then])
  exact bodyPost_ret (HR.out.res rfl _ rfl) rfl ⟨rfl, ((Still.alloc w _).trans (Still.alloc _ _)).trans (Still.alloc _ _)⟩
theorem between_any (x y z u : Int) (w : World) : Calls Tryd.prog 78 #[pt x y, pt z u] w fun e w' => e = .returned (bx (min x z) (min y u) (max x z) (max y u)) ∧ Still w w' := by
  obtain ⟨W, eW⟩ : ∃ W, W = (newB (newP (newP w x y) z u) 0 0 0 0) := ⟨_, rfl⟩
  have p0 : Pb W (w.heap.size) x y := by rw [eW]; have h := newP_pb w x y; exact ((h.still (Still.alloc _ _)).still (Still.alloc _ _))
  have c00 := Cl.cell p0.cells.1
  have c01 := Cl.cell p0.cells.2.1
  clear p0
  have p1 : Pb W (w.heap.size + 1) z u := by rw [eW]; have h := newP_pb (newP w x y) z u; simp only [size_alloc] at h; exact (h.still (Still.alloc _ _))
  have c10 := Cl.cell p1.cells.1
  have c11 := Cl.cell p1.cells.2.1
  clear p1
  have r : Bb W (w.heap.size + 1 + 1) 0 0 0 0 := by rw [eW]; have h := newB_bb (newP (newP w x y) z u) 0 0 0 0; simp only [size_alloc] at h; exact h
  have HF := hid (show Still w W by rw [eW]; exact (((Still.alloc w _).trans (Still.alloc _ _)).trans (Still.alloc _ _)))
  have HW := hid eW
  have hne := Aft.here W
  clear eW
  have HB := hid (show w.heap.size ≤ w.heap.size + 1 + 1 by omega)
  go_enter Tryd.func78, Tryd.ntmps78
  go_wp2_with fail
  have e := HW.out
  simp only [newP, newB] at e
  rw [← e]
  clear e HW
  refine region_rest 6 (by kernel_rfl) (by kernel_rfl) ?_
  simp only [List.take_succ_cons, List.take_zero, List.drop_succ_cons, List.drop_zero]
  repeat (go_big_quiet_step ((first | (go_at_call 95; exact Calls.cl (lesser_any _ _ _ _ _)) | (go_at_call 96; exact Calls.cl (greater_any _ _ _ _ _)))))
  refine wpQuiet_nil ?_
  intro w1 hs
  clear hne c00 c01 c10 c11
  have q := r.still hs
  obtain ⟨d0, d1, d2, d3, df⟩ := q.cells
  go_wp2_with fail
  (try simp only [Exit.inBlock, Exit.then])
  exact bodyPost_ret ((q.set _ _ _ _).res rfl _ rfl) rfl ⟨rfl, setB_fr (HF.out.trans hs) _ _ _ _ _ (.inr HB.out)⟩
end Go.Proofs.YtaalbkmdmocdeaaDoor
