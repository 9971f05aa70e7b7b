/- The midpoint of a cell: the program's, the document's. -/
import Derived.Test.YtnoaomocdmkigaaPt
namespace Go.Proofs.Ytnoaomocdmkigaa
open Go.RowKit
open Pu Gp Ap

def midX (C k : Nat) : Int := ((k % C : Nat) : Int) * 4096 + 2048
def midY (C k : Nat) : Int := ((k / C : Nat) : Int) * 4096 + 2048
set_option maxHeartbeats 1000000 in
theorem midpoint_any (C k : Nat) (R : Int) (s : ByteArray) (hC : 1 ≤ C) (hC2 : C ≤ 32) (hk : k ≤ 768) (w : World) :
    Calls Try.prog 36 #[ar (C : Int) R s, .int .i64 (k : Int)] w fun e w' => e = .returned (pt (midX C k) (midY C k)) ∧ Still w w' := by
  obtain ⟨W, eW⟩ : ∃ W, W = (newP (newA w (C : Int) R s) 0 0) := ⟨_, rfl⟩
  have a0 : Ab W w.heap.size (C : Int) R s := by rw [eW]; exact (newA_ab w (C : Int) R s).still (Still.alloc _ _)
  have r : Pb W (w.heap.size + 1) 0 0 := by rw [eW]; have h := newP_pb (newA w (C : Int) R s) 0 0; simp only [size_alloc] at h; exact h
  have HF := hid (show Still w W by rw [eW]; exact (Still.alloc w _).trans (Still.alloc _ _))
  have c0 := Cl.cell a0.cells.1
  have HW := hid eW
  have hne := Aft.here W
  clear eW a0
  have HB := hid (show w.heap.size ≤ w.heap.size + 1 by omega)
  have e1 : (k : Int).tmod (C : Int) = ((k % C : Nat) : Int) := by rw [Int.tmod_eq_emod_of_nonneg (by omega)]; exact (Int.natCast_emod k C).symm
  have e2 : (k : Int).tdiv (C : Int) = ((k / C : Nat) : Int) := by rw [Int.tdiv_eq_ediv_of_nonneg (by omega)]; exact (Int.natCast_ediv k C).symm
  have b1 : k % C ≤ 768 := Nat.le_trans (Nat.mod_le k C) hk
  have b2 : k / C ≤ 768 := Nat.le_trans (Nat.div_le_self k C) hk
  obtain ⟨m, em⟩ : ∃ m, k % C = m := ⟨_, rfl⟩
  obtain ⟨q, eq⟩ : ∃ q, k / C = q := ⟨_, rfl⟩
  have HV := hid (show midX C k = (m : Int) * 4096 + 2048 ∧ midY C k = (q : Int) * 4096 + 2048 by unfold midX midY; rw [em, eq]; exact ⟨rfl, rfl⟩)
  rw [em] at e1 b1
  rw [eq] at e2 b2
  rw [HV.out.1, HV.out.2]
  clear em eq
  have nz : ¬ C = 0 := by omega
  have W1 : IntKind.i64.wrap (m : Int) = (m : Int) := by rw [IntKind.wrap_i64]; omega
  have W2 : IntKind.i64.wrap (q : Int) = (q : Int) := by rw [IntKind.wrap_i64]; omega
  go_enter Try.func36, Try.ntmps36
  go_wp2_with fail
  have e := HW.out
  simp only [newP, newA] at e
  rw [← e]
  clear e HW
  refine region_rest 13 (by kernel_rfl) (by kernel_rfl) ?_
  simp only [List.take_succ_cons, List.take_zero, List.drop_succ_cons, List.drop_zero]
  repeat (go_big_quiet_step (fail))
  refine wpQuiet_nil ?_
  intro w1 hs
  clear hne c0
  have v := r.still hs
  obtain ⟨d0, d1, df⟩ := v.cells
  go_wp2_with fail
  (try simp only [Exit.inBlock, Exit.then])
  exact bodyPost_ret ((v.set _ _).res rfl _ rfl) rfl ⟨rfl, setP_fr (HF.out.trans hs) _ _ _ (.inr HB.out)⟩
set_option maxHeartbeats 1000000 in
theorem rmiddle_any (C k : Nat) (R : Int) (s : ByteArray) (hC : 1 ≤ C) (hC2 : C ≤ 32) (hk : k ≤ 768) (w : World) :
    Calls Try.prog 38 #[ar (C : Int) R s, .int .i64 (k : Int)] w fun e w' => e = .returned (pt (midX C k) (midY C k)) ∧ Still w w' := by
  obtain ⟨W, eW⟩ : ∃ W, W = (newP (newA w (C : Int) R s) 0 0) := ⟨_, rfl⟩
  have a0 : Ab W w.heap.size (C : Int) R s := by rw [eW]; exact (newA_ab w (C : Int) R s).still (Still.alloc _ _)
  have r : Pb W (w.heap.size + 1) 0 0 := by rw [eW]; have h := newP_pb (newA w (C : Int) R s) 0 0; simp only [size_alloc] at h; exact h
  have HF := hid (show Still w W by rw [eW]; exact (Still.alloc w _).trans (Still.alloc _ _))
  have c0 := Cl.cell a0.cells.1
  have HW := hid eW
  have hne := Aft.here W
  clear eW a0
  have HB := hid (show w.heap.size ≤ w.heap.size + 1 by omega)
  have e1 : (k : Int).tmod (C : Int) = ((k % C : Nat) : Int) := by rw [Int.tmod_eq_emod_of_nonneg (by omega)]; exact (Int.natCast_emod k C).symm
  have e2 : (k : Int).tdiv (C : Int) = ((k / C : Nat) : Int) := by rw [Int.tdiv_eq_ediv_of_nonneg (by omega)]; exact (Int.natCast_ediv k C).symm
  have b1 : k % C ≤ 768 := Nat.le_trans (Nat.mod_le k C) hk
  have b2 : k / C ≤ 768 := Nat.le_trans (Nat.div_le_self k C) hk
  obtain ⟨m, em⟩ : ∃ m, k % C = m := ⟨_, rfl⟩
  obtain ⟨q, eq⟩ : ∃ q, k / C = q := ⟨_, rfl⟩
  have HV := hid (show midX C k = 4096 * (m : Int) + 2048 ∧ midY C k = 4096 * (q : Int) + 2048 by unfold midX midY; rw [em, eq]; omega)
  rw [em] at e1 b1
  rw [eq] at e2 b2
  rw [HV.out.1, HV.out.2]
  clear em eq
  have nz : ¬ C = 0 := by omega
  have W1 : IntKind.i64.wrap (m : Int) = (m : Int) := by rw [IntKind.wrap_i64]; omega
  have W2 : IntKind.i64.wrap (q : Int) = (q : Int) := by rw [IntKind.wrap_i64]; omega
  go_enter Try.func38, Try.ntmps38
  go_wp2_with fail
  have e := HW.out
  simp only [newP, newA] at e
  rw [← e]
  clear e HW
  refine region_rest 13 (by kernel_rfl) (by kernel_rfl) ?_
  simp only [List.take_succ_cons, List.take_zero, List.drop_succ_cons, List.drop_zero]
  repeat (go_big_quiet_step (fail))
  refine wpQuiet_nil ?_
  intro w1 hs
  clear hne c0
  have v := r.still hs
  obtain ⟨d0, d1, df⟩ := v.cells
  go_wp2_with fail
  (try simp only [Exit.inBlock, Exit.then])
  exact bodyPost_ret ((v.set _ _).res rfl _ rfl) rfl ⟨rfl, setP_fr (HF.out.trans hs) _ _ _ (.inr HB.out)⟩
end Go.Proofs.Ytnoaomocdmkigaa
