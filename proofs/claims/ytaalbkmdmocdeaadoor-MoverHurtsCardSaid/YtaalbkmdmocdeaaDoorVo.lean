/- The document's Operands. -/
import Derived.Test.YtaalbkmdmocdeaaDoorVn
namespace Go.Proofs.YtaalbkmdmocdeaaDoor
open Go.RowKit
open Vp

theorem roper_no (v : Int) (hv : isV v = false) (w : World) : Calls Tryd.prog 67 #[.int .i64 v] w fun e w' => ∃ x, e = .returned x ∧ OwO w' w.heap.size x (opV v) ∧ Still w w' := by
  have H := hid (fun u => ris_any v u)
  rw [hv] at H
  have HE := hid (show opV v = [] by unfold opV; rw [hv]; rfl)
  clear hv
  go_enter Tryd.func67, Tryd.ntmps67
  go_wp2_with (go_at_call 66; refine (H.out _).mono ?_; rintro e w' ⟨he, hw⟩; rw [he, hw]; clear he hw w')
  go_ret
  exact ⟨_, rfl, by rw [HE.out]; exact OwO.nil _ _, Fr.refl _ _⟩
theorem roper_2 (w : World) (ht : OTab w) : Calls Tryd.prog 67 #[.int .i64 2] w fun e w' => ∃ x, e = .returned x ∧ OwO w' w.heap.size x (opV 2) ∧ Still w w' := by
  have H := hid (fun u => ris_any 2 u)
  rw [show isV 2 = true by decide] at H
  have c := ht.fs 1 (by omega)
  rw [show fsB 1 = ⟨#[]⟩ from rfl] at c
  have HE := hid (show opV 2 = [] by decide)
  go_enter Tryd.func67, Tryd.ntmps67
  go_wp2_with (go_at_call 66; refine (H.out _).mono ?_; rintro e w' ⟨he, hw⟩; rw [he, hw]; clear he hw w')
  go_ret
  exact ⟨_, rfl, by rw [HE.out]; exact OwO.nil _ _, Fr.refl _ _⟩
set_option maxHeartbeats 2000000 in
theorem roper_1 (w : World) (ht : OTab w) : Calls Tryd.prog 67 #[.int .i64 1] w fun e w' => ∃ x, e = .returned x ∧ OwO w' w.heap.size x (opV 1) ∧ Still w w' := by
  have H := hid (fun u => ris_any 1 u)
  rw [show isV 1 = true by decide] at H
  have k0 := ht.fs 0 (by omega)
  have k1 := ht.lo 0 (by omega)
  have k2 := ht.hi 0 (by omega)
  rw [show fsB 0 = ⟨#[120]⟩ from rfl] at k0
  rw [show lo 0 = (-8) from rfl] at k1
  rw [show hi 0 = 8 from rfl] at k2
  have c0 := Cl.cell k0
  have c1 := Cl.cell k1
  have c2 := Cl.cell k2
  have hne := Aft.here w
  go_enter Tryd.func67, Tryd.ntmps67
  go_wp2_with (go_at_call 66; refine (H.out _).mono ?_; rintro e w' ⟨he, hw⟩; rw [he, hw]; clear he hw w')
  clear k0 k1 k2
  refine region_rest 13 (by kernel_rfl) (by kernel_rfl) ?_
  simp only [List.take_succ_cons, List.take_zero, List.drop_succ_cons, List.drop_zero]
  repeat (go_big_quiet_step (fail))
  refine wpQuiet_nil ?_
  intro w1 h1
  clear c0 c1 c2 hne
  have o1 := newOp_opb w1 ⟨#[120]⟩ (-8) 8
  have r1 := OwO.one (B := w.heap.size) o1 h1.size
  have HS1 := hid (h1.trans (Still.alloc w1 (.cells #[.string ⟨#[120]⟩, .int .i64 (-8), .int .i64 8] 88)))
  have HE := hid (show opV 1 = [(⟨#[120]⟩, (-8), 8)] ++ [(⟨#[121]⟩, -8, 8)] from rfl)
  have HR := hid (r1.alloc (.cells #[.string ⟨#[121]⟩, .int .i64 (-8), .int .i64 8] 88))
  have HO := hid (newOp_opb (newOp w1 ⟨#[120]⟩ (-8) 8) ⟨#[121]⟩ (-8) 8)
  have HS2 := hid (HS1.out.trans (Still.alloc (newOp w1 ⟨#[120]⟩ (-8) 8) (.cells #[.string ⟨#[121]⟩, .int .i64 (-8), .int .i64 8] 88)))
  clear o1 r1 HS1
  go_wp2_with (at_builtin; refine wpList_appO _ rfl _ _ rfl w.heap.size (newOp w1 ⟨#[120]⟩ (-8) 8).heap.size _ [(⟨#[120]⟩, (-8), 8)] ⟨#[121]⟩ (-8) 8 rfl (by simp; rfl) HR.out HO.out (by simp) HS2.out.size ?_; intro v' w' ho' hf')
  have HS3 := hid (still_appO HS2.out HR.out hf' (Nat.le_refl _))
  go_ret
  exact ⟨_, rfl, by rw [HE.out]; exact ho', HS3.out⟩
set_option maxHeartbeats 2000000 in
theorem roper_3 (w : World) (ht : OTab w) : Calls Tryd.prog 67 #[.int .i64 3] w fun e w' => ∃ x, e = .returned x ∧ OwO w' w.heap.size x (opV 3) ∧ Still w w' := by
  have H := hid (fun u => ris_any 3 u)
  rw [show isV 3 = true by decide] at H
  have k0 := ht.fs 2 (by omega)
  have k1 := ht.lo 2 (by omega)
  have k2 := ht.hi 2 (by omega)
  rw [show fsB 2 = ⟨#[116, 111]⟩ from rfl] at k0
  rw [show lo 2 = 0 from rfl] at k1
  rw [show hi 2 = 15 from rfl] at k2
  have c0 := Cl.cell k0
  have c1 := Cl.cell k1
  have c2 := Cl.cell k2
  have hne := Aft.here w
  go_enter Tryd.func67, Tryd.ntmps67
  go_wp2_with (go_at_call 66; refine (H.out _).mono ?_; rintro e w' ⟨he, hw⟩; rw [he, hw]; clear he hw w')
  clear k0 k1 k2
  refine region_rest 13 (by kernel_rfl) (by kernel_rfl) ?_
  simp only [List.take_succ_cons, List.take_zero, List.drop_succ_cons, List.drop_zero]
  repeat (go_big_quiet_step (fail))
  refine wpQuiet_nil ?_
  intro w1 h1
  clear c0 c1 c2 hne
  have o1 := newOp_opb w1 ⟨#[116, 111]⟩ 0 15
  have r1 := OwO.one (B := w.heap.size) o1 h1.size
  have HS1 := hid (h1.trans (Still.alloc w1 (.cells #[.string ⟨#[116, 111]⟩, .int .i64 0, .int .i64 15] 88)))
  have HE := hid (show opV 3 = [(⟨#[116, 111]⟩, 0, 15)] from rfl)
  go_wp2_with fail
  go_ret
  exact ⟨_, rfl, by rw [HE.out]; exact r1, HS1.out⟩
set_option maxHeartbeats 2000000 in
theorem roper_4 (w : World) (ht : OTab w) : Calls Tryd.prog 67 #[.int .i64 4] w fun e w' => ∃ x, e = .returned x ∧ OwO w' w.heap.size x (opV 4) ∧ Still w w' := by
  have H := hid (fun u => ris_any 4 u)
  rw [show isV 4 = true by decide] at H
  have k0 := ht.fs 3 (by omega)
  have k1 := ht.lo 3 (by omega)
  have k2 := ht.hi 3 (by omega)
  rw [show fsB 3 = ⟨#[112, 111, 119, 101, 114]⟩ from rfl] at k0
  rw [show lo 3 = 1 from rfl] at k1
  rw [show hi 3 = 3 from rfl] at k2
  have c0 := Cl.cell k0
  have c1 := Cl.cell k1
  have c2 := Cl.cell k2
  have hne := Aft.here w
  go_enter Tryd.func67, Tryd.ntmps67
  go_wp2_with (go_at_call 66; refine (H.out _).mono ?_; rintro e w' ⟨he, hw⟩; rw [he, hw]; clear he hw w')
  clear k0 k1 k2
  refine region_rest 13 (by kernel_rfl) (by kernel_rfl) ?_
  simp only [List.take_succ_cons, List.take_zero, List.drop_succ_cons, List.drop_zero]
  repeat (go_big_quiet_step (fail))
  refine wpQuiet_nil ?_
  intro w1 h1
  clear c0 c1 c2 hne
  have o1 := newOp_opb w1 ⟨#[112, 111, 119, 101, 114]⟩ 1 3
  have r1 := OwO.one (B := w.heap.size) o1 h1.size
  have HS1 := hid (h1.trans (Still.alloc w1 (.cells #[.string ⟨#[112, 111, 119, 101, 114]⟩, .int .i64 1, .int .i64 3] 88)))
  have HE := hid (show opV 4 = [(⟨#[112, 111, 119, 101, 114]⟩, 1, 3)] from rfl)
  go_wp2_with fail
  go_ret
  exact ⟨_, rfl, by rw [HE.out]; exact r1, HS1.out⟩
set_option maxHeartbeats 2000000 in
theorem roper_5 (w : World) (ht : OTab w) : Calls Tryd.prog 67 #[.int .i64 5] w fun e w' => ∃ x, e = .returned x ∧ OwO w' w.heap.size x (opV 5) ∧ Still w w' := by
  have H := hid (fun u => ris_any 5 u)
  rw [show isV 5 = true by decide] at H
  have k0 := ht.fs 4 (by omega)
  have k1 := ht.lo 4 (by omega)
  have k2 := ht.hi 4 (by omega)
  rw [show fsB 4 = ⟨#[111, 110]⟩ from rfl] at k0
  rw [show lo 4 = 0 from rfl] at k1
  rw [show hi 4 = 1 from rfl] at k2
  have c0 := Cl.cell k0
  have c1 := Cl.cell k1
  have c2 := Cl.cell k2
  have hne := Aft.here w
  go_enter Tryd.func67, Tryd.ntmps67
  go_wp2_with (go_at_call 66; refine (H.out _).mono ?_; rintro e w' ⟨he, hw⟩; rw [he, hw]; clear he hw w')
  clear k0 k1 k2
  refine region_rest 13 (by kernel_rfl) (by kernel_rfl) ?_
  simp only [List.take_succ_cons, List.take_zero, List.drop_succ_cons, List.drop_zero]
  repeat (go_big_quiet_step (fail))
  refine wpQuiet_nil ?_
  intro w1 h1
  clear c0 c1 c2 hne
  have o1 := newOp_opb w1 ⟨#[111, 110]⟩ 0 1
  have r1 := OwO.one (B := w.heap.size) o1 h1.size
  have HS1 := hid (h1.trans (Still.alloc w1 (.cells #[.string ⟨#[111, 110]⟩, .int .i64 0, .int .i64 1] 88)))
  have HE := hid (show opV 5 = [(⟨#[111, 110]⟩, 0, 1)] from rfl)
  go_wp2_with fail
  go_ret
  exact ⟨_, rfl, by rw [HE.out]; exact r1, HS1.out⟩
set_option maxHeartbeats 2000000 in
theorem roper_6 (w : World) (ht : OTab w) : Calls Tryd.prog 67 #[.int .i64 6] w fun e w' => ∃ x, e = .returned x ∧ OwO w' w.heap.size x (opV 6) ∧ Still w w' := by
  have H := hid (fun u => ris_any 6 u)
  rw [show isV 6 = true by decide] at H
  have k0 := ht.fs 5 (by omega)
  have k1 := ht.lo 5 (by omega)
  have k2 := ht.hi 5 (by omega)
  rw [show fsB 5 = ⟨#[116, 111]⟩ from rfl] at k0
  rw [show lo 5 = 0 from rfl] at k1
  rw [show hi 5 = 15 from rfl] at k2
  have c0 := Cl.cell k0
  have c1 := Cl.cell k1
  have c2 := Cl.cell k2
  have hne := Aft.here w
  go_enter Tryd.func67, Tryd.ntmps67
  go_wp2_with (go_at_call 66; refine (H.out _).mono ?_; rintro e w' ⟨he, hw⟩; rw [he, hw]; clear he hw w')
  clear k0 k1 k2
  refine region_rest 13 (by kernel_rfl) (by kernel_rfl) ?_
  simp only [List.take_succ_cons, List.take_zero, List.drop_succ_cons, List.drop_zero]
  repeat (go_big_quiet_step (fail))
  refine wpQuiet_nil ?_
  intro w1 h1
  clear c0 c1 c2 hne
  have o1 := newOp_opb w1 ⟨#[116, 111]⟩ 0 15
  have r1 := OwO.one (B := w.heap.size) o1 h1.size
  have HS1 := hid (h1.trans (Still.alloc w1 (.cells #[.string ⟨#[116, 111]⟩, .int .i64 0, .int .i64 15] 88)))
  have HE := hid (show opV 6 = [(⟨#[116, 111]⟩, 0, 15)] from rfl)
  go_wp2_with fail
  go_ret
  exact ⟨_, rfl, by rw [HE.out]; exact r1, HS1.out⟩
set_option maxHeartbeats 2000000 in
theorem roper_7 (w : World) (ht : OTab w) : Calls Tryd.prog 67 #[.int .i64 7] w fun e w' => ∃ x, e = .returned x ∧ OwO w' w.heap.size x (opV 7) ∧ Still w w' := by
  have H := hid (fun u => ris_any 7 u)
  rw [show isV 7 = true by decide] at H
  have k0 := ht.fs 6 (by omega)
  have k1 := ht.lo 6 (by omega)
  have k2 := ht.hi 6 (by omega)
  rw [show fsB 6 = ⟨#[119, 104, 97, 116]⟩ from rfl] at k0
  rw [show lo 6 = 0 from rfl] at k1
  rw [show hi 6 = 255 from rfl] at k2
  have c0 := Cl.cell k0
  have c1 := Cl.cell k1
  have c2 := Cl.cell k2
  have hne := Aft.here w
  go_enter Tryd.func67, Tryd.ntmps67
  go_wp2_with (go_at_call 66; refine (H.out _).mono ?_; rintro e w' ⟨he, hw⟩; rw [he, hw]; clear he hw w')
  clear k0 k1 k2
  refine region_rest 13 (by kernel_rfl) (by kernel_rfl) ?_
  simp only [List.take_succ_cons, List.take_zero, List.drop_succ_cons, List.drop_zero]
  repeat (go_big_quiet_step (fail))
  refine wpQuiet_nil ?_
  intro w1 h1
  clear c0 c1 c2 hne
  have o1 := newOp_opb w1 ⟨#[119, 104, 97, 116]⟩ 0 255
  have r1 := OwO.one (B := w.heap.size) o1 h1.size
  have HS1 := hid (h1.trans (Still.alloc w1 (.cells #[.string ⟨#[119, 104, 97, 116]⟩, .int .i64 0, .int .i64 255] 88)))
  have HE := hid (show opV 7 = [(⟨#[119, 104, 97, 116]⟩, 0, 255)] from rfl)
  go_wp2_with fail
  go_ret
  exact ⟨_, rfl, by rw [HE.out]; exact r1, HS1.out⟩
theorem roper_any (v : Int) (w : World) (ht : OTab w) : Calls Tryd.prog 67 #[.int .i64 v] w fun e w' => ∃ x, e = .returned x ∧ OwO w' w.heap.size x (opV v) ∧ Still w w' := by
  cases h : isV v with
  | false => exact roper_no v h w
  | true =>
    rcases verbs h with rfl | rfl | rfl | rfl | rfl | rfl | rfl
    · exact roper_1 w ht
    · exact roper_2 w ht
    · exact roper_3 w ht
    · exact roper_4 w ht
    · exact roper_5 w ht
    · exact roper_6 w ht
    · exact roper_7 w ht
end Go.Proofs.YtaalbkmdmocdeaaDoor
