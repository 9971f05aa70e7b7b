/- GeomWorks, GeomLengths: the walks. -/
import Derived.Test.YtkmkbglamgkkpaaDoorAw
namespace Go.Proofs.YtkmkbglamgkkpaaDoor
open Go.RowKit
open Pu Gp

set_option maxHeartbeats 2000000 in
set_option maxRecDepth 100000 in
theorem works_law (x y z u b : Int) (w : World) (ht : Tab w) : Calls Tryd.prog 3 #[pt x y, pt z u, .int .i64 b] w fun e w' => e = .returned (.bool true) ∧ Still w w' := by
  have p := (newP_pb w x y).still (Still.alloc (newP w x y) (.cells #[.int .i64 z, .int .i64 u] 23))
  have q := newP_pb (newP w x y) z u
  simp only [size_alloc] at q
  have s0 := (Still.alloc w (.cells #[.int .i64 x, .int .i64 y] 23)).trans (Still.alloc (newP w x y) (.cells #[.int .i64 z, .int .i64 u] 23))
  have E1 := fun w => eql_pt_t (x := addf x z) (y := addf y u) rfl rfl w
  have E2 := fun w => eql_pt_t (x := subf x z) (y := subf y u) rfl rfl w
  have E3 := fun w => eql_pt_t (x := mulf x b) (y := mulf y b) rfl rfl w
  have E4 := fun w => eql_pt_t (x := bnd x) (y := bnd y) rfl rfl w
  have G1 := guard_pt
  go_enter Tryd.func3, Tryd.ntmps3
  go_wp2_with fail
  refine (awake_any _ (ht.still s0)).mono ?_
  rintro e w1 ⟨rfl, h1⟩
  have p1 := p.still h1
  have q1 := q.still h1
  have HS1 := hid (s0.trans h1)
  have c0 := Cl.cell p1.cells.1
  have c1 := Cl.cell p1.cells.2.1
  have d0 := Cl.cell q1.cells.1
  have d1 := Cl.cell q1.cells.2.1
  have hne := Aft.here w1
  clear p q s0 h1 ht
  go_wp2_with fail
  refine region_all (by kernel_rfl) (by kernel_rfl) ?_
  repeat (go_big_quiet_step ((first | (go_at_call 10; exact Calls.cl (gadd_any _ _ _ _ _)) | (go_at_call 11; exact Calls.cl (rgadd_any _ _ _ _ _)) | (go_at_call 12; exact Calls.cl (gsub_any _ _ _ _ _)) | (go_at_call 13; exact Calls.cl (rgsub_any _ _ _ _ _)))))
  refine wpQuiet_nil ?_
  intro w2 h2
  have p2 := p1.still h2
  have q2 := q1.still h2
  have HS2 := hid (HS1.out.trans h2)
  clear p1 q1 HS1 h2 c0 c1 d0 d1 hne E1 E2
  have c0 := Cl.cell p2.cells.1
  have c1 := Cl.cell p2.cells.2.1
  have hne := Aft.here w2
  go_wp2_with fail
  refine region_all (by kernel_rfl) (by kernel_rfl) ?_
  repeat (go_big_quiet_step ((first | (go_at_call 14; exact Calls.cl (gscale_any _ _ _ _)) | (go_at_call 15; exact Calls.cl (rgscale_any _ _ _ _)) | (go_at_call 16; exact Calls.cl (gbound_any _ _ _)) | (go_at_call 17; exact Calls.cl (rgbound_any _ _ _)))))
  refine wpQuiet_nil ?_
  intro w3 h3
  have HS3 := hid (HS2.out.trans h3)
  clear p2 q2 HS2 h3 c0 c1 hne E3 E4
  go_wp2_with fail
  go_ret
  exact ⟨rfl, HS3.out⟩
set_option maxHeartbeats 2000000 in
set_option maxRecDepth 100000 in
theorem lengths_law (x y m : Int) (w : World) (ht : Tab w) : Calls Tryd.prog 4 #[pt x y, .int .i64 m] w fun e w' => e = .returned (.bool true) ∧ Still w w' := by
  have p := newP_pb w x y
  have s0 := Still.alloc w (.cells #[.int .i64 x, .int .i64 y] 23)
  have E1 := fun w => eql_pt_t (x := capf (bnd x) (far (bnd x) (bnd y)) (clampf m 0 2147483647)) (y := capf (bnd y) (far (bnd x) (bnd y)) (clampf m 0 2147483647)) rfl rfl w
  have G1 := guard_pt
  go_enter Tryd.func4, Tryd.ntmps4
  go_wp2_with fail
  refine (awake_any _ (ht.still s0)).mono ?_
  rintro e w1 ⟨rfl, h1⟩
  have p1 := p.still h1
  have HS1 := hid (s0.trans h1)
  have c0 := Cl.cell p1.cells.1
  have c1 := Cl.cell p1.cells.2.1
  have hne := Aft.here w1
  clear p s0 h1 ht
  go_wp2_with fail
  refine region_all (by kernel_rfl) (by kernel_rfl) ?_
  repeat (go_big_quiet_step ((first | (go_at_call 18; exact Calls.cl (length_any _ _ _)) | (go_at_call 19; exact Calls.cl (rlength_any _ _ _)) | (go_at_call 20; exact Calls.cl (cap_any _ _ _ _)) | (go_at_call 21; exact Calls.cl (rcap_any _ _ _ _)))))
  refine wpQuiet_nil ?_
  intro w2 h2
  have HS2 := hid (HS1.out.trans h2)
  clear p1 HS1 h2 c0 c1 hne E1
  go_wp2_with fail
  go_ret
  exact ⟨rfl, HS2.out⟩
end Go.Proofs.YtkmkbglamgkkpaaDoor
