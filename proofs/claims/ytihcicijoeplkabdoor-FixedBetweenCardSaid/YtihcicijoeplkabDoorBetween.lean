/- The walk of the law FixedBetween. -/
import Derived.Test.YtihcicijoeplkabDoorAwake
import Derived.Test.YtihcicijoeplkabDoorPl
namespace Go.Proofs.YtihcicijoeplkabDoor
open Go.ChangeShapes Go.WideShapes Go.ChangeAt Go.RowKit
open Pu

theorem awake_hid (w : World) (ht : Tab w) : Calls Tryd.prog 6 #[] w fun e w' => e = .returned (.bool true) ∧ Hid (Below w.heap.size w w') := awake_any w ht
set_option maxHeartbeats 2000000 in
set_option maxRecDepth 100000 in
theorem between_walk (a b t u : Int) (_ : (Lit.int .i64 a).wf = true) (_ : (Lit.int .i64 b).wf = true) (_ : (Lit.int .i64 t).wf = true) (_ : (Lit.int .i64 u).wf = true) (w : World) (ht : Tab w) :
    Calls Tryd.prog 4 #[.int .i64 a, .int .i64 b, .int .i64 t, .int .i64 u] w fun e w' => e = .returned (.bool true) ∧ Below w.heap.size w w' := by
  have hx := bnd_bnd a
  have hy := bnd_bnd b
  have e0 : (blendf (bnd a) (bnd b) 0 == bnd a) = true := by rw [blend_0 hx (by decide)]; exact beq_self_eq_true _
  have e1 : (blendf (bnd a) (bnd b) 256 == bnd b) = true := by rw [blend_1 hx hy (by decide)]; exact beq_self_eq_true _
  by_cases htu : u < t
  · have st : (clampf (clampf u (bnd a) (bnd b)) (bnd a) (bnd b) == clampf u (bnd a) (bnd b)) = true := by rw [clamp_still hx hy]; exact beq_self_eq_true _
    by_cases hxy : bnd b < bnd a
    · obtain ⟨d1, d2, d3⟩ := way_down (t := u) (u := t) hx hy (by omega) (by omega)
      have co : (clampf u (bnd a) (bnd b) == bnd b) = true := by rw [clamp_out hx hy hxy]; exact beq_self_eq_true _
      clear hx hy
      by_cases g1 : bnd a ≤ blendf (bnd a) (bnd b) u
      · by_cases g2 : blendf (bnd a) (bnd b) u ≤ blendf (bnd a) (bnd b) t
        · by_cases g3 : blendf (bnd a) (bnd b) t ≤ bnd b
          · exfalso; omega
          · go_enter Tryd.func4, Tryd.ntmps4
            go_wp2_with (first
              | (go_at_call 6; refine (awake_hid _ ht).mono ?_; rintro e w1 ⟨rfl, HB⟩)
              | (go_at_call 7; refine (bound_any _ _).mono ?_; rintro e w' ⟨rfl, rfl⟩)
              | (go_at_call 13; refine (blend_any _ _ _ _).mono ?_; rintro e w' ⟨rfl, rfl⟩)
              | (go_at_call 14; refine (clamp_any _ _ _ _).mono ?_; rintro e w' ⟨rfl, rfl⟩))
            go_ret
            exact ⟨rfl, HB.out⟩
        · go_enter Tryd.func4, Tryd.ntmps4
          go_wp2_with (first
            | (go_at_call 6; refine (awake_hid _ ht).mono ?_; rintro e w1 ⟨rfl, HB⟩)
            | (go_at_call 7; refine (bound_any _ _).mono ?_; rintro e w' ⟨rfl, rfl⟩)
            | (go_at_call 13; refine (blend_any _ _ _ _).mono ?_; rintro e w' ⟨rfl, rfl⟩)
            | (go_at_call 14; refine (clamp_any _ _ _ _).mono ?_; rintro e w' ⟨rfl, rfl⟩))
          go_ret
          exact ⟨rfl, HB.out⟩
      · go_enter Tryd.func4, Tryd.ntmps4
        go_wp2_with (first
          | (go_at_call 6; refine (awake_hid _ ht).mono ?_; rintro e w1 ⟨rfl, HB⟩)
          | (go_at_call 7; refine (bound_any _ _).mono ?_; rintro e w' ⟨rfl, rfl⟩)
          | (go_at_call 13; refine (blend_any _ _ _ _).mono ?_; rintro e w' ⟨rfl, rfl⟩)
          | (go_at_call 14; refine (clamp_any _ _ _ _).mono ?_; rintro e w' ⟨rfl, rfl⟩))
        go_ret
        exact ⟨rfl, HB.out⟩
    · obtain ⟨d1, d2, d3⟩ := way_up (t := u) (u := t) hx hy (by omega) (by omega)
      obtain ⟨c1, c2⟩ := clamp_in (t := u) hx hy (by omega)
      clear hx hy
      go_enter Tryd.func4, Tryd.ntmps4
      go_wp2_with (first
        | (go_at_call 6; refine (awake_hid _ ht).mono ?_; rintro e w1 ⟨rfl, HB⟩)
        | (go_at_call 7; refine (bound_any _ _).mono ?_; rintro e w' ⟨rfl, rfl⟩)
        | (go_at_call 13; refine (blend_any _ _ _ _).mono ?_; rintro e w' ⟨rfl, rfl⟩)
        | (go_at_call 14; refine (clamp_any _ _ _ _).mono ?_; rintro e w' ⟨rfl, rfl⟩))
      go_ret
      exact ⟨rfl, HB.out⟩
  · have st : (clampf (clampf t (bnd a) (bnd b)) (bnd a) (bnd b) == clampf t (bnd a) (bnd b)) = true := by rw [clamp_still hx hy]; exact beq_self_eq_true _
    by_cases hxy : bnd b < bnd a
    · obtain ⟨d1, d2, d3⟩ := way_down (t := t) (u := u) hx hy (by omega) (by omega)
      have co : (clampf t (bnd a) (bnd b) == bnd b) = true := by rw [clamp_out hx hy hxy]; exact beq_self_eq_true _
      clear hx hy
      by_cases g1 : bnd a ≤ blendf (bnd a) (bnd b) t
      · by_cases g2 : blendf (bnd a) (bnd b) t ≤ blendf (bnd a) (bnd b) u
        · by_cases g3 : blendf (bnd a) (bnd b) u ≤ bnd b
          · exfalso; omega
          · go_enter Tryd.func4, Tryd.ntmps4
            go_wp2_with (first
              | (go_at_call 6; refine (awake_hid _ ht).mono ?_; rintro e w1 ⟨rfl, HB⟩)
              | (go_at_call 7; refine (bound_any _ _).mono ?_; rintro e w' ⟨rfl, rfl⟩)
              | (go_at_call 13; refine (blend_any _ _ _ _).mono ?_; rintro e w' ⟨rfl, rfl⟩)
              | (go_at_call 14; refine (clamp_any _ _ _ _).mono ?_; rintro e w' ⟨rfl, rfl⟩))
            go_ret
            exact ⟨rfl, HB.out⟩
        · go_enter Tryd.func4, Tryd.ntmps4
          go_wp2_with (first
            | (go_at_call 6; refine (awake_hid _ ht).mono ?_; rintro e w1 ⟨rfl, HB⟩)
            | (go_at_call 7; refine (bound_any _ _).mono ?_; rintro e w' ⟨rfl, rfl⟩)
            | (go_at_call 13; refine (blend_any _ _ _ _).mono ?_; rintro e w' ⟨rfl, rfl⟩)
            | (go_at_call 14; refine (clamp_any _ _ _ _).mono ?_; rintro e w' ⟨rfl, rfl⟩))
          go_ret
          exact ⟨rfl, HB.out⟩
      · go_enter Tryd.func4, Tryd.ntmps4
        go_wp2_with (first
          | (go_at_call 6; refine (awake_hid _ ht).mono ?_; rintro e w1 ⟨rfl, HB⟩)
          | (go_at_call 7; refine (bound_any _ _).mono ?_; rintro e w' ⟨rfl, rfl⟩)
          | (go_at_call 13; refine (blend_any _ _ _ _).mono ?_; rintro e w' ⟨rfl, rfl⟩)
          | (go_at_call 14; refine (clamp_any _ _ _ _).mono ?_; rintro e w' ⟨rfl, rfl⟩))
        go_ret
        exact ⟨rfl, HB.out⟩
    · obtain ⟨d1, d2, d3⟩ := way_up (t := t) (u := u) hx hy (by omega) (by omega)
      obtain ⟨c1, c2⟩ := clamp_in (t := t) hx hy (by omega)
      clear hx hy
      go_enter Tryd.func4, Tryd.ntmps4
      go_wp2_with (first
        | (go_at_call 6; refine (awake_hid _ ht).mono ?_; rintro e w1 ⟨rfl, HB⟩)
        | (go_at_call 7; refine (bound_any _ _).mono ?_; rintro e w' ⟨rfl, rfl⟩)
        | (go_at_call 13; refine (blend_any _ _ _ _).mono ?_; rintro e w' ⟨rfl, rfl⟩)
        | (go_at_call 14; refine (clamp_any _ _ _ _).mono ?_; rintro e w' ⟨rfl, rfl⟩))
      go_ret
      exact ⟨rfl, HB.out⟩
end Go.Proofs.YtihcicijoeplkabDoor
