/- GeomDirections: the walk. -/
import Derived.Test.YtkmkbglamgkkpaaDoorAw
namespace Go.Proofs.YtkmkbglamgkkpaaDoor
open Go.RowKit
open Pu Gp

set_option maxHeartbeats 2000000 in
set_option maxRecDepth 100000 in
theorem directions_law (d b x y : Int) (w : World) (ht : Tab w) (hr : RTab w) : Calls Tryd.prog 5 #[.int .i64 d, .int .i64 b, pt x y] w fun e w' => e = .returned (.bool true) ∧ Still w w' := by
  have p := newP_pb w x y
  have s0 := Still.alloc w (.cells #[.int .i64 x, .int .i64 y] 23)
  have E1 := fun w => eql_pt_t (x := ux (dir d)) (y := uy (dir d)) rfl rfl w
  have G1 := guard_pt
  go_enter Tryd.func5, Tryd.ntmps5
  go_wp2_with fail
  refine (awake_any _ (ht.still s0)).mono ?_
  rintro e w1 ⟨rfl, h1⟩
  have p1 := p.still h1
  have HS1 := hid (s0.trans h1)
  have t1 := ht.still HS1.out
  have k1 := hr.still HS1.out
  have c0 := Cl.cell p1.cells.1
  have c1 := Cl.cell p1.cells.2.1
  have hne := Aft.here w1
  clear p s0 h1 ht hr
  go_wp2_with fail
  refine region_all (by kernel_rfl) (by kernel_rfl) ?_
  repeat (go_big_quiet_step ((first | (go_at_call 22; refine Calls.cl (unit_any _ _ ?_); exact t1.still (Aft.s _)) | (go_at_call 23; refine Calls.cl (runit_any _ _ ?_); exact k1.still (Aft.s _)) | (go_at_call 24; exact Calls.cl_same (turn_any _ _ _)) | (go_at_call 25; exact Calls.cl_same (rturn_any _ _ _)) | (go_at_call 26; refine Calls.cl (heading_any _ _ _ ?_); exact t1.still (Aft.s _)) | (go_at_call 27; refine Calls.cl (rheading_any _ _ _ ?_); exact k1.still (Aft.s _)))))
  refine wpQuiet_nil ?_
  intro w2 h2
  have HS2 := hid (HS1.out.trans h2)
  clear p1 HS1 h2 c0 c1 hne E1 t1 k1
  go_wp2_with fail
  go_ret
  exact ⟨rfl, HS2.out⟩
end Go.Proofs.YtkmkbglamgkkpaaDoor
