/- GeomAdds: the plain facts and the walk. -/
import Derived.Test.YtkmkbglamgkkpabDoorAw
namespace Go.Proofs.YtkmkbglamgkkpabDoor
open Go.RowKit
open Pu Gp

theorem add_plain2 {a b : Int} (a0 : -1073741823 ≤ a) (a1 : a ≤ 1073741823) (b0 : -1073741823 ≤ b) (b1 : b ≤ 1073741823) : addf a b = a + b := by
  unfold addf
  rw [bnd_id (n := a) (by omega) (by omega), bnd_id (n := b) (by omega) (by omega), bnd_id (by omega) (by omega)]
theorem sub_plain2 {a b : Int} (a0 : -1073741823 ≤ a) (a1 : a ≤ 1073741823) (b0 : -1073741823 ≤ b) (b1 : b ≤ 1073741823) : subf (a + b) b = a := by
  unfold subf
  rw [bnd_id (n := a + b) (by omega) (by omega), bnd_id (n := b) (by omega) (by omega), show a + b - b = a by omega, bnd_id (by omega) (by omega)]
theorem far_half {x y : Int} (x0 : -1073741823 ≤ x) (x1 : x ≤ 1073741823) (y0 : -1073741823 ≤ y) (y1 : y ≤ 1073741823) : 0 ≤ far x y ∧ far x y ≤ 2147483646 := by
  refine ⟨(far_ok (by omega) (by omega) (by omega) (by omega)).1, far_le (by omega) (by omega) (by omega) (by omega) (by omega) ?_⟩
  have h : ∀ {v : Int}, -1073741823 ≤ v → v ≤ 1073741823 → v * v ≤ 1152921502459363329 := by
    intro v v0 v1
    rcases Int.le_total 0 v with k | k
    · have := sq_mono k v1; omega
    · have := sq_mono (a := -v) (b := 1073741823) (by omega) (by omega)
      rw [sq_neg] at this
      omega
  have h1 := h x0 x1
  have h2 := h y0 y1
  unfold sq2
  omega
/-- what the law compares, of two ways within half the bounds -/
structure Half (X Y Z U : Int) : Prop where
  x0 : -1073741823 ≤ X
  x1 : X ≤ 1073741823
  y0 : -1073741823 ≤ Y
  y1 : Y ≤ 1073741823
  z0 : -1073741823 ≤ Z
  z1 : Z ≤ 1073741823
  u0 : -1073741823 ≤ U
  u1 : U ≤ 1073741823
theorem half_add {X Y Z U : Int} (h : Half X Y Z U) (w : World) : Calls Tryd.prog 12 #[pt X Y, pt Z U] w fun e w' => e = .returned (pt (X + Z) (Y + U)) ∧ Still w w' := by
  have k := gadd_any X Y Z U w
  rw [add_plain2 h.x0 h.x1 h.z0 h.z1, add_plain2 h.y0 h.y1 h.u0 h.u1] at k
  exact k
theorem half_turned {X Y Z U : Int} (h : Half X Y Z U) (w : World) : Calls Tryd.prog 12 #[pt Z U, pt X Y] w fun e w' => e = .returned (pt (X + Z) (Y + U)) ∧ Still w w' := by
  have k := gadd_any Z U X Y w
  rw [addf_comm Z X, addf_comm U Y, add_plain2 h.x0 h.x1 h.z0 h.z1, add_plain2 h.y0 h.y1 h.u0 h.u1] at k
  exact k
theorem half_sub {X Y Z U : Int} (h : Half X Y Z U) (w : World) : Calls Tryd.prog 13 #[pt (X + Z) (Y + U), pt Z U] w fun e w' => e = .returned (pt X Y) ∧ Still w w' := by
  have k := gsub_any (X + Z) (Y + U) Z U w
  rw [sub_plain2 h.x0 h.x1 h.z0 h.z1, sub_plain2 h.y0 h.y1 h.u0 h.u1] at k
  exact k
theorem half_sub2 {X Y Z U : Int} (h : Half X Y Z U) (w : World) : Calls Tryd.prog 13 #[pt (X + Z) (Y + U), pt X Y] w fun e w' => e = .returned (pt Z U) ∧ Still w w' := by
  have k := gsub_any (X + Z) (Y + U) X Y w
  rw [Int.add_comm X Z, Int.add_comm Y U, sub_plain2 h.z0 h.z1 h.x0 h.x1, sub_plain2 h.u0 h.u1 h.y0 h.y1] at k
  rw [Int.add_comm X Z, Int.add_comm Y U]
  exact k
theorem half_len {X Y Z U : Int} (h : Half X Y Z U) (w : World) : Calls Tryd.prog 14 #[pt X Y] w fun e w' => e = .returned (.int .i64 (far X Y)) ∧ Still w w' := by
  have k := length_any X Y w
  have f := far_half h.x0 h.x1 h.y0 h.y1
  rw [bnd_id (n := X) (by have := h.x0; omega) (by have := h.x1; omega), bnd_id (n := Y) (by have := h.y0; omega) (by have := h.y1; omega), bnd_id (by omega) (by omega)] at k
  exact k
theorem half_len2 {X Y Z U : Int} (h : Half X Y Z U) (w : World) : Calls Tryd.prog 14 #[pt Z U] w fun e w' => e = .returned (.int .i64 (far Z U)) ∧ Still w w' := by
  have k := length_any Z U w
  have f := far_half h.z0 h.z1 h.u0 h.u1
  rw [bnd_id (n := Z) (by have := h.z0; omega) (by have := h.z1; omega), bnd_id (n := U) (by have := h.u0; omega) (by have := h.u1; omega), bnd_id (by omega) (by omega)] at k
  exact k
theorem half_lens {X Y Z U : Int} (h : Half X Y Z U) (w : World) : Calls Tryd.prog 14 #[pt (X + Z) (Y + U)] w fun e w' => e = .returned (.int .i64 (bnd (far (X + Z) (Y + U)))) ∧ Still w w' := by
  have k := length_any (X + Z) (Y + U) w
  obtain ⟨a0, a1, a2, a3, a4, a5, a6, a7⟩ := h
  rw [bnd_id (n := X + Z) (by omega) (by omega), bnd_id (n := Y + U) (by omega) (by omega)] at k
  exact k
theorem half_about {X Y Z U : Int} (h : Half X Y Z U) (w : World) : Calls Tryd.prog 14 #[pt (-X) Y] w fun e w' => e = .returned (.int .i64 (far X Y)) ∧ Still w w' := by
  have k := length_any (-X) Y w
  have f := far_half h.x0 h.x1 h.y0 h.y1
  rw [bnd_id (n := -X) (by have := h.x1; omega) (by have := h.x0; omega), bnd_id (n := Y) (by have := h.y0; omega) (by have := h.y1; omega), far_turn, bnd_id (by omega) (by omega)] at k
  exact k
theorem half_swap {X Y Z U : Int} (h : Half X Y Z U) (w : World) : Calls Tryd.prog 14 #[pt Y X] w fun e w' => e = .returned (.int .i64 (far X Y)) ∧ Still w w' := by
  have k := length_any Y X w
  have f := far_half h.x0 h.x1 h.y0 h.y1
  rw [bnd_id (n := X) (by have := h.x0; omega) (by have := h.x1; omega), bnd_id (n := Y) (by have := h.y0; omega) (by have := h.y1; omega), far_swap, bnd_id (by omega) (by omega)] at k
  exact k
theorem half_scale {X Y Z U : Int} (h : Half X Y Z U) (w : World) : Calls Tryd.prog 15 #[pt X Y, .int .i64 256] w fun e w' => e = .returned (pt X Y) ∧ Still w w' := by
  have k := gscale_any X Y 256 w
  rw [mulf_one (bnd_id (by have := h.x0; omega) (by have := h.x1; omega)), mulf_one (bnd_id (by have := h.y0; omega) (by have := h.y1; omega))] at k
  exact k
theorem half_tri {X Y Z U : Int} (h : Half X Y Z U) : (0 ≤ far X Y ∧ far X Y ≤ 2147483646) ∧ (0 ≤ far Z U ∧ far Z U ≤ 2147483646) ∧ bnd (far (X + Z) (Y + U)) ≤ far X Y + far Z U + 2 := by
  obtain ⟨a0, a1, a2, a3, a4, a5, a6, a7⟩ := h
  refine ⟨far_half a0 a1 a2 a3, far_half a4 a5 a6 a7, ?_⟩
  have t := far_add a0 a1 a2 a3 a4 a5 a6 a7
  have f := (far_ok (x := X + Z) (y := Y + U) (by omega) (by omega) (by omega) (by omega)).1
  have b : bnd (far (X + Z) (Y + U)) ≤ far (X + Z) (Y + U) := by
    generalize far (X + Z) (Y + U) = v at f
    unfold bnd; repeat' split
    all_goals omega
  omega
set_option maxHeartbeats 8000000 in
set_option maxRecDepth 100000 in
theorem adds_law (x y z u : Int) (w : World) (ht : Tab w) : Calls Tryd.prog 4 #[pt x y, pt z u] w fun e w' => e = .returned (.bool true) ∧ Still w w' := by
  have p := (newP_pb w x y).still (Still.alloc (newP w x y) (.cells #[.int .i64 z, .int .i64 u] 23))
  have q := newP_pb (newP w x y) z u
  simp only [size_alloc] at q
  have s0 := (Still.alloc w (.cells #[.int .i64 x, .int .i64 y] 23)).trans (Still.alloc (newP w x y) (.cells #[.int .i64 z, .int .i64 u] 23))
  obtain ⟨X, eX⟩ : ∃ X, bnd x = X := ⟨_, rfl⟩
  obtain ⟨Y, eY⟩ : ∃ Y, bnd y = Y := ⟨_, rfl⟩
  obtain ⟨Z, eZ⟩ : ∃ Z, bnd z = Z := ⟨_, rfl⟩
  obtain ⟨U, eU⟩ : ∃ U, bnd u = U := ⟨_, rfl⟩
  have HX := hid eX
  have HY := hid eY
  have HZ := hid eZ
  have HU := hid eU
  clear eX eY eZ eU
  go_enter Tryd.func4, Tryd.ntmps4
  go_wp2_with fail
  refine (awake_any _ (ht.still s0)).mono ?_
  rintro e w1 ⟨rfl, h1⟩
  have A1 := Still.alloc w1 (.cells #[.int .i64 1073741823, .int .i64 1073741823] 23)
  have p1 := (p.still h1).still A1
  have q1 := (q.still h1).still A1
  have k1 := newP_pb w1 1073741823 1073741823
  have HS1 := hid ((s0.trans h1).trans A1)
  clear p q s0 h1 A1 ht
  obtain ⟨c0, c1, cf⟩ := p1.cells
  go_wp2_with fail
  refine (gbound_any x y _).mono ?_
  rintro e w2 ⟨rfl, h2⟩
  rw [HX.out, HY.out]
  have A2 := Still.alloc w2 (.cells #[.int .i64 X, .int .i64 Y] 23)
  have q2 := (q1.still h2).still A2
  have k2 := (k1.still h2).still A2
  have a2 := newP_pb w2 X Y
  have HS2 := hid ((HS1.out.trans h2).trans A2)
  clear p1 q1 k1 HS1 h2 A2 c0 c1 cf
  obtain ⟨c0, c1, cf⟩ := q2.cells
  go_wp2_with fail
  refine (gbound_any z u _).mono ?_
  rintro e w3 ⟨rfl, h3⟩
  rw [HZ.out, HU.out]
  have A3 := Still.alloc w3 (.cells #[.int .i64 Z, .int .i64 U] 23)
  have k3 := (k2.still h3).still A3
  have a3 := (a2.still h3).still A3
  have b3 := newP_pb w3 Z U
  have HS3 := hid ((HS2.out.trans h3).trans A3)
  clear q2 k2 a2 HS2 h3 A3 c0 c1 cf HX HY HZ HU
  obtain ⟨c0, c1, cf⟩ := k3.cells
  obtain ⟨d0, d1, df⟩ := a3.cells
  obtain ⟨f0, f1, ff⟩ := b3.cells
  by_cases t1 : 1073741823 < X
  · go_wp2_with fail
    go_ret
    exact ⟨rfl, HS3.out⟩
  by_cases t2 : X < -1073741823
  · go_wp2_with fail
    go_ret
    exact ⟨rfl, HS3.out⟩
  by_cases t3 : 1073741823 < Y
  · go_wp2_with fail
    go_ret
    exact ⟨rfl, HS3.out⟩
  by_cases t4 : Y < -1073741823
  · go_wp2_with fail
    go_ret
    exact ⟨rfl, HS3.out⟩
  by_cases t5 : 1073741823 < Z
  · go_wp2_with fail
    go_ret
    exact ⟨rfl, HS3.out⟩
  by_cases t6 : Z < -1073741823
  · go_wp2_with fail
    go_ret
    exact ⟨rfl, HS3.out⟩
  by_cases t7 : 1073741823 < U
  · go_wp2_with fail
    go_ret
    exact ⟨rfl, HS3.out⟩
  by_cases t8 : U < -1073741823
  · go_wp2_with fail
    go_ret
    exact ⟨rfl, HS3.out⟩
  have H : Half X Y Z U := ⟨by omega, by omega, by omega, by omega, by omega, by omega, by omega, by omega⟩
  have HH := hid H
  clear H
  go_wp2_with fail
  refine (half_add HH.out _).mono ?_
  rintro e w4 ⟨rfl, h4⟩
  have A4 := Still.alloc w4 (.cells #[.int .i64 (X + Z), .int .i64 (Y + U)] 23)
  have a4 := (a3.still h4).still A4
  have b4 := (b3.still h4).still A4
  have s4 := newP_pb w4 (X + Z) (Y + U)
  have HS4 := hid ((HS3.out.trans h4).trans A4)
  clear k3 a3 b3 HS3 h4 A4 c0 c1 cf d0 d1 df f0 f1 ff t1 t2 t3 t4 t5 t6 t7 t8
  go_wp2_with fail
  obtain ⟨W, eW⟩ : ∃ W, w4.alloc (.cells #[.int .i64 (X + Z), .int .i64 (Y + U)] 23) = W := ⟨_, rfl⟩
  simp only [newP] at s4
  rw [eW] at a4 b4 s4 HS4 ⊢
  clear eW
  have c0 := Cl.cell a4.cells.1
  have c1 := Cl.cell a4.cells.2.1
  have d0 := Cl.cell b4.cells.1
  have d1 := Cl.cell b4.cells.2.1
  have f0 := Cl.cell s4.cells.1
  have f1 := Cl.cell s4.cells.2.1
  have hne := Aft.here W
  have E1 := fun w => eql_pt_t (x := X) (y := Y) rfl rfl w
  have E2 := fun w => eql_pt_t (x := Z) (y := U) rfl rfl w
  have E3 := fun w => eql_pt_t (x := X + Z) (y := Y + U) rfl rfl w
  have G1 := guard_pt
  refine region_all (by kernel_rfl) (by kernel_rfl) ?_
  repeat (go_big_quiet_step ((first | (go_at_call 13; first | with_reducible exact Calls.cl (half_sub HH.out _) | with_reducible exact Calls.cl (half_sub2 HH.out _)) | (go_at_call 12; with_reducible exact Calls.cl (half_turned HH.out _)))))
  refine wpQuiet_nil ?_
  intro w5 h5
  have a5 := a4.still h5
  have b5 := b4.still h5
  have s5 := s4.still h5
  have HS5 := hid (HS4.out.trans h5)
  clear a4 b4 s4 HS4 h5 c0 c1 d0 d1 f0 f1 hne E2 E3
  obtain ⟨c0, c1, cf⟩ := a5.cells
  go_wp2_with fail
  refine (half_len HH.out _).mono ?_
  rintro e w6 ⟨rfl, h6⟩
  have a6 := a5.still h6
  have b6 := b5.still h6
  have s6 := s5.still h6
  have HS6 := hid (HS5.out.trans h6)
  clear a5 b5 s5 HS5 h6 c0 c1 cf
  obtain ⟨c0, c1, cf⟩ := b6.cells
  go_wp2_with fail
  refine (half_len2 HH.out _).mono ?_
  rintro e w7 ⟨rfl, h7⟩
  have a7 := a6.still h7
  have s7 := s6.still h7
  have HS7 := hid (HS6.out.trans h7)
  clear a6 b6 s6 HS6 h7 c0 c1 cf
  obtain ⟨c0, c1, cf⟩ := s7.cells
  go_wp2_with fail
  refine (half_lens HH.out _).mono ?_
  rintro e w8 ⟨rfl, h8⟩
  have a8 := a7.still h8
  have HS8 := hid (HS7.out.trans h8)
  clear a7 s7 HS7 h8 c0 c1 cf
  obtain ⟨c0, c1, cf⟩ := a8.cells
  obtain ⟨⟨f0, f1⟩, ⟨g0, g1⟩, tri⟩ := half_tri HH.out
  have x0 := HH.out.x0
  have x1 := HH.out.x1
  have HC1 : Hid (∀ v : World, Calls Tryd.prog 14 #[pt (-X) Y] v fun e w' => e = .returned (.int .i64 (far X Y)) ∧ Still v w') := hid (fun v => half_about HH.out v)
  have HC2 : Hid (∀ v : World, Calls Tryd.prog 14 #[pt Y X] v fun e w' => e = .returned (.int .i64 (far X Y)) ∧ Still v w') := hid (fun v => half_swap HH.out v)
  obtain ⟨F, eF⟩ : ∃ F, far X Y = F := ⟨_, rfl⟩
  obtain ⟨G, eG⟩ : ∃ G, far Z U = G := ⟨_, rfl⟩
  obtain ⟨L, eL⟩ : ∃ L, bnd (far (X + Z) (Y + U)) = L := ⟨_, rfl⟩
  rw [eF] at f0 f1 tri HC1 HC2 ⊢
  rw [eG] at g0 g1 tri ⊢
  rw [eL] at tri ⊢
  clear eF eG eL
  have hL : (L == 2147483647) = true ∨ (L == 2147483647) = false := by cases (L == 2147483647) <;> simp
  rcases hL with hL | hL
  all_goals
    go_wp2_with fail
    refine (HC1.out _).mono ?_
    rintro e w9 ⟨rfl, h9⟩
    have a9 := a8.still h9
    have HS9 := hid (HS8.out.trans h9)
    clear a8 HS8 h9 c0 c1 cf
    obtain ⟨c0, c1, cf⟩ := a9.cells
    go_wp2_with fail
    refine (HC2.out _).mono ?_
    rintro e wA ⟨rfl, hA⟩
    have aA := a9.still hA
    have HSA := hid (HS9.out.trans hA)
    clear a9 HS9 hA c0 c1 cf
    have c0 := Cl.cell aA.cells.1
    have c1 := Cl.cell aA.cells.2.1
    have hne := Aft.here wA
    go_wp2_with fail
    refine region_all (by kernel_rfl) (by kernel_rfl) ?_
    repeat (go_big_quiet_step ((go_at_call 15; with_reducible exact Calls.cl (half_scale HH.out _))))
    refine wpQuiet_nil ?_
    intro wB hB
    have HSB := hid (HSA.out.trans hB)
    clear aA HSA hB c0 c1 hne E1
    go_wp2_with fail
    go_ret
    exact ⟨rfl, HSB.out⟩
end Go.Proofs.YtkmkbglamgkkpabDoor
