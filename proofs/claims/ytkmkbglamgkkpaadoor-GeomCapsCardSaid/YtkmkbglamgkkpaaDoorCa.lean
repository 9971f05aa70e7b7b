/- GeomCaps: the plain facts and the walk. -/
import Derived.Test.YtkmkbglamgkkpaaDoorAw
namespace Go.Proofs.YtkmkbglamgkkpaaDoor
open Go.RowKit
open Pu Gp

/-- what a cap leaves: within the bounds, not longer than that, the same way -/
theorem cap_facts {X Y M : Int} (x0 : -2147483647 ≤ X) (x1 : X ≤ 2147483647) (y0 : -2147483647 ≤ Y) (y1 : Y ≤ 2147483647) (m0 : 0 ≤ M) :
    (-2147483647 ≤ capf X (far X Y) M ∧ capf X (far X Y) M ≤ 2147483647) ∧ (-2147483647 ≤ capf Y (far X Y) M ∧ capf Y (far X Y) M ≤ 2147483647) ∧
    far (capf X (far X Y) M) (capf Y (far X Y) M) ≤ M := by
  have f0 := (far_ok x0 x1 y0 y1).1
  unfold capf
  by_cases h : far X Y ≤ M
  · rw [if_pos h, if_pos h]
    exact ⟨⟨x0, x1⟩, ⟨y0, y1⟩, h⟩
  · rw [if_neg h, if_neg h]
    have a := part_le (x := X) (m := M) (k := far X Y + 1) m0 (by omega) (by omega) x0 x1
    have b := part_le (x := Y) (m := M) (k := far X Y + 1) m0 (by omega) (by omega) y0 y1
    exact ⟨a, b, far_le a.1 a.2 b.1 b.2 m0 (cap_short x0 x1 y0 y1 m0)⟩
theorem cap_sign {X F M : Int} (f0 : 0 ≤ F) (m0 : 0 ≤ M) : capf X F M = 0 ∨ (0 < capf X F M ∧ 0 < X) ∨ (capf X F M < 0 ∧ X < 0) := by
  unfold capf
  by_cases h : F ≤ M
  · rw [if_pos h]; omega
  · rw [if_neg h]
    have s := part_sign (x := X) (m := M) (k := F + 1) m0 (by omega)
    rcases Int.lt_trichotomy X 0 with k | k | k
    · have := s.2 (by omega); omega
    · have := s.1 (by omega); have := s.2 (by omega); omega
    · have := s.1 (by omega); omega
/-- a cap of a way that is bounded -/
theorem cap_b (X Y m M : Int) (eX : bnd X = X) (eY : bnd Y = Y) (eM : clampf m 0 2147483647 = M) (w : World) : Calls Tryd.prog 20 #[pt X Y, .int .i64 m] w fun e w' => e = .returned (pt (capf X (far X Y) M) (capf Y (far X Y) M)) ∧ Still w w' := by
  have h := cap_any X Y m w
  rw [eX, eY, eM] at h
  exact h
/-- a cap of a way that is short enough -/
theorem cap_same (X Y m M : Int) (eX : bnd X = X) (eY : bnd Y = Y) (eM : clampf m 0 2147483647 = M) (hf : far X Y ≤ M) (w : World) : Calls Tryd.prog 20 #[pt X Y, .int .i64 m] w fun e w' => e = .returned (pt X Y) ∧ Still w w' := by
  have h := cap_b X Y m M eX eY eM w
  unfold capf at h
  rw [if_pos hf, if_pos hf] at h
  exact h
theorem length_b (X Y : Int) (eX : bnd X = X) (eY : bnd Y = Y) (w : World) : Calls Tryd.prog 18 #[pt X Y] w fun e w' => e = .returned (.int .i64 (bnd (far X Y))) ∧ Still w w' := by
  have h := length_any X Y w
  rw [eX, eY] at h
  exact h
theorem clamp_most : clampf 2147483646 0 2147483647 = 2147483646 := by decide
set_option maxHeartbeats 8000000 in
set_option maxRecDepth 100000 in
theorem caps_law (x y m : Int) (w : World) (ht : Tab w) : Calls Tryd.prog 8 #[pt x y, .int .i64 m] w fun e w' => e = .returned (.bool true) ∧ Still w w' := by
  obtain ⟨X, eX⟩ : ∃ X, bnd x = X := ⟨_, rfl⟩
  obtain ⟨Y, eY⟩ : ∃ Y, bnd y = Y := ⟨_, rfl⟩
  have x0 := bnd_lo x
  have x1 := bnd_hi x
  have y0 := bnd_lo y
  have y1 := bnd_hi y
  rw [eX] at x0 x1
  rw [eY] at y0 y1
  have HX := hid eX
  have HY := hid eY
  obtain ⟨M, eM⟩ : ∃ M, clampf m 0 2147483647 = M := ⟨_, rfl⟩
  have m0 := (clamp_in m).1
  rw [eM] at m0
  have HM := hid eM
  have f0 := (far_ok x0 x1 y0 y1).1
  obtain ⟨⟨a0, a1⟩, ⟨b0, b1⟩, hl⟩ := cap_facts x0 x1 y0 y1 m0
  have sx := cap_sign (X := X) f0 m0
  have sy := cap_sign (X := Y) f0 m0
  obtain ⟨⟨k0, k1⟩, ⟨l0, l1⟩, hk⟩ := cap_facts (M := 2147483646) x0 x1 y0 y1 (by omega)
  obtain ⟨A, eA⟩ : ∃ A, capf X (far X Y) M = A := ⟨_, rfl⟩
  obtain ⟨B, eB⟩ : ∃ B, capf Y (far X Y) M = B := ⟨_, rfl⟩
  obtain ⟨K, eK⟩ : ∃ K, capf X (far X Y) 2147483646 = K := ⟨_, rfl⟩
  obtain ⟨L, eL⟩ : ∃ L, capf Y (far X Y) 2147483646 = L := ⟨_, rfl⟩
  rw [eA] at a0 a1 hl sx
  rw [eB] at b0 b1 hl sy
  rw [eK] at k0 k1 hk
  rw [eL] at l0 l1 hk
  have HA := hid eA
  have HB := hid eB
  have HK := hid eK
  have HL := hid eL
  obtain ⟨N, eN⟩ : ∃ N, bnd (far A B) = N := ⟨_, rfl⟩
  have hN : N ≤ M := by
    have h1 := (far_ok a0 a1 b0 b1).1
    have h2 : bnd (far A B) ≤ far A B := by unfold bnd; repeat' split
                                            all_goals omega
    omega
  have HN := hid eN
  have HI := hid (show (bnd X = X ∧ bnd Y = Y) ∧ (bnd A = A ∧ bnd B = B) ∧ (bnd K = K ∧ bnd L = L) ∧ far K L ≤ 2147483646 from ⟨⟨bnd_id x0 x1, bnd_id y0 y1⟩, ⟨bnd_id a0 a1, bnd_id b0 b1⟩, ⟨bnd_id k0 k1, bnd_id l0 l1⟩, hk⟩)
  have E1 := fun w => eql_pt_t (x := K) (y := L) rfl rfl w
  have G1 := guard_pt
  have p := newP_pb w x y
  have s0 := Still.alloc w (.cells #[.int .i64 x, .int .i64 y] 23)
  clear eX eY eM eA eB eK eL eN a0 a1 b0 b1 k0 k1 l0 l1 hk hl x0 x1 y0 y1 m0 f0
  go_enter Tryd.func8, Tryd.ntmps8
  go_wp2_with fail
  refine (awake_any _ (ht.still s0)).mono ?_
  rintro e w1 ⟨rfl, h1⟩
  have p1 := p.still h1
  have HS1 := hid (s0.trans h1)
  clear p s0 h1 ht
  obtain ⟨c0, c1, cf⟩ := p1.cells
  go_wp2_with fail
  refine (gbound_any x y _).mono ?_
  rintro e w2 ⟨rfl, h2⟩
  rw [HX.out, HY.out]
  have p2 := p1.still h2
  have HS2 := hid (HS1.out.trans h2)
  clear p1 HS1 h2 c0 c1 cf
  obtain ⟨c0, c1, cf⟩ := p2.cells
  have p3 := p2.set X Y
  have HS3 := hid (setP_fr HS2.out w.heap.size X Y (.inr (Nat.le_refl _)))
  clear p2 HS2
  go_wp2_with fail
  refine (cap_b X Y m M HI.out.1.1 HI.out.1.2 HM.out _).mono ?_
  rintro e w4 ⟨rfl, h4⟩
  rw [HA.out, HB.out]
  have A4 := Still.alloc w4 (.cells #[.int .i64 A, .int .i64 B] 23)
  have p4 := (p3.still h4).still A4
  have q4 := newP_pb w4 A B
  have HS4 := hid ((Still.trans HS3.out h4).trans A4)
  clear p3 HS3 h4 A4 c0 c1 cf
  go_wp2_with fail
  refine (length_b A B HI.out.2.1.1 HI.out.2.1.2 _).mono ?_
  rintro e w5 ⟨rfl, h5⟩
  rw [HN.out]
  have p5 := p4.still h5
  have q5 := q4.still h5
  have HS5 := hid (HS4.out.trans h5)
  clear p4 q4 HS4 h5
  obtain ⟨c0, c1, cf⟩ := p5.cells
  obtain ⟨d0, d1, df⟩ := q5.cells
  have HC1 : Hid (∀ u : World, Calls Tryd.prog 20 #[pt X Y, .int .i64 2147483646] u fun e w' => e = .returned (pt K L) ∧ Still u w') := hid (fun u => by
    have h := cap_b X Y 2147483646 2147483646 HI.out.1.1 HI.out.1.2 clamp_most u
    rw [HK.out, HL.out] at h
    exact h)
  have HC2 : Hid (∀ u : World, Calls Tryd.prog 20 #[pt K L, .int .i64 2147483646] u fun e w' => e = .returned (pt K L) ∧ Still u w') := hid (fun u =>
    cap_same K L 2147483646 2147483646 HI.out.2.2.1.1 HI.out.2.2.1.2 clamp_most HI.out.2.2.2 u)
  have e0 := Cl.cell p5.cells.1
  have e1 := Cl.cell p5.cells.2.1
  have hne := Aft.here w5
  clear HI HA HB HK HL HN HX HY p5 q5
  have sx' : (A == 0) = true ∨ ((A == 0) = false ∧ decide (0 < A) = true ∧ decide (0 < X) = true ∧ (X != 0) = true) ∨ ((A == 0) = false ∧ decide (0 < A) = false ∧ decide (0 < X) = false ∧ (X != 0) = true) := by
    rcases sx with h | ⟨h, h'⟩ | ⟨h, h'⟩
    · exact .inl (by simpa using h)
    · exact .inr (.inl ⟨by simp; omega, by simpa using h, by simpa using h', by simp; omega⟩)
    · exact .inr (.inr ⟨by simp; omega, by simp; omega, by simp; omega, by simp; omega⟩)
  have sy' : (B == 0) = true ∨ ((B == 0) = false ∧ decide (0 < B) = true ∧ decide (0 < Y) = true ∧ (Y != 0) = true) ∨ ((B == 0) = false ∧ decide (0 < B) = false ∧ decide (0 < Y) = false ∧ (Y != 0) = true) := by
    rcases sy with h | ⟨h, h'⟩ | ⟨h, h'⟩
    · exact .inl (by simpa using h)
    · exact .inr (.inl ⟨by simp; omega, by simpa using h, by simpa using h', by simp; omega⟩)
    · exact .inr (.inr ⟨by simp; omega, by simp; omega, by simp; omega, by simp; omega⟩)
  clear sx sy
  rcases sx' with z0 | ⟨z0, z1, z2, z3⟩ | ⟨z0, z1, z2, z3⟩ <;> rcases sy' with t0 | ⟨t0, t1, t2, t3⟩ | ⟨t0, t1, t2, t3⟩
  all_goals
    go_wp2_with (go_at_call 38; refine (rclamp_any _ _ _ _).mono ?_; rintro e w' ⟨he, hw⟩; rw [he, hw, HM.out]; clear he hw w')
    refine region_all (by kernel_rfl) (by kernel_rfl) ?_
    repeat (go_big_quiet_step ((go_at_call 20; first | with_reducible exact Calls.cl (HC1.out _) | with_reducible exact Calls.cl (HC2.out _))))
    refine wpQuiet_nil ?_
    intro w6 h6
    have HS6 := hid (HS5.out.trans h6)
    clear HS5 h6 c0 c1 cf d0 d1 df e0 e1 hne E1
    go_wp2_with fail
    go_ret
    exact ⟨rfl, HS6.out⟩
end Go.Proofs.YtkmkbglamgkkpaaDoor
