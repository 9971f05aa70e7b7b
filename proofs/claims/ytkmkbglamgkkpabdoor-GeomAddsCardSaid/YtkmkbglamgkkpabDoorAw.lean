/- The chapter's examples, which each law calls first. -/
import Derived.Test.YtkmkbglamgkkpabDoorMu
import Derived.Test.YtkmkbglamgkkpabDoorUn
namespace Go.Proofs.YtkmkbglamgkkpabDoor
open Go.RowKit
open Pu Gp

theorem aw_around (w : World) : Calls Tryd.prog 11 #[pt 0 0, .int .i64 5] w fun e w' => e = .returned (bx (-5) (-5) 5 5) ∧ Still w w' := by
  have h := around_any 0 0 5 w
  rw [show subf 0 (clampf 5 0 2147483647) = -5 by decide +kernel, show addf 0 (clampf 5 0 2147483647) = 5 by decide +kernel] at h
  exact h
theorem aw_inside (w : World) : Calls Tryd.prog 7 #[bx (-5) (-5) 5 5, pt 5 (-5)] w fun e w' => e = .returned (.bool true) ∧ Still w w' := by
  have h := inside_any (-5) (-5) 5 5 5 (-5) w
  rw [show mt (-5) (-5) 5 5 5 (-5) 5 (-5) = true by decide +kernel] at h
  exact h
theorem aw_overlap (w : World) : Calls Tryd.prog 9 #[bx (-5) (-5) 5 5, bx (-5) (-5) 5 5] w fun e w' => e = .returned (.bool true) ∧ Still w w' := by
  have h := overlap_any (-5) (-5) 5 5 (-5) (-5) 5 5 w
  rw [show mt (-5) (-5) 5 5 (-5) (-5) 5 5 = true by decide +kernel] at h
  exact h
theorem aw_meet (w : World) : Calls Tryd.prog 6 #[bx (-5) (-5) 5 5, bx (-5) (-5) 5 5] w fun e w' => e = .returned (.tuple #[bx (-5) (-5) 5 5, .bool true]) ∧ Still w w' := by
  have h := meet_any (-5) (-5) 5 5 (-5) (-5) 5 5 w
  unfold mb at h
  rw [show mt (-5) (-5) 5 5 (-5) (-5) 5 5 = true by decide +kernel, show mif true (max (-5) (-5)) = -5 by decide +kernel, show mif true (min 5 5) = 5 by decide +kernel] at h
  exact h
theorem aw_length (w : World) : Calls Tryd.prog 14 #[pt 3 4] w fun e w' => e = .returned (.int .i64 5) ∧ Still w w' := by
  have h := length_any 3 4 w
  rw [show bnd (far (bnd 3) (bnd 4)) = 5 by decide +kernel] at h
  exact h
theorem aw_cap (w : World) : Calls Tryd.prog 16 #[pt 300 400, .int .i64 250] w fun e w' => e = .returned (pt 149 199) ∧ Still w w' := by
  have h := cap_any 300 400 250 w
  rw [show capf (bnd 300) (far (bnd 300) (bnd 400)) (clampf 250 0 2147483647) = 149 by decide +kernel, show capf (bnd 400) (far (bnd 300) (bnd 400)) (clampf 250 0 2147483647) = 199 by decide +kernel] at h
  exact h
theorem aw_unit (w : World) (ht : Tab w) : Calls Tryd.prog 17 #[.int .i64 3] w fun e w' => e = .returned (pt 98 237) ∧ Still w w' := by
  have h := unit_any 3 w ht
  rw [show ux (dir 3) = 98 by decide +kernel, show uy (dir 3) = 237 by decide +kernel] at h
  exact h
theorem aw_turn (w : World) : Calls Tryd.prog 18 #[.int .i64 15, .int .i64 2] w fun e w' => e = .returned (.int .i64 1) ∧ w' = w := by
  have h := turn_any 15 2 w
  rw [show ((15 : Int) + 2) % 16 = 1 by decide +kernel] at h
  exact h
theorem aw_heading (w : World) (ht : Tab w) : Calls Tryd.prog 19 #[pt 5 5] w fun e w' => e = .returned (.int .i64 2) ∧ Still w w' := by
  have h := heading_any 5 5 w ht
  rw [show ((hd (bnd 5) (bnd 5) : Nat) : Int) = 2 by decide +kernel] at h
  exact h
theorem aw_add (w : World) : Calls Tryd.prog 12 #[pt 1 0, pt 2 0] w fun e w' => e = .returned (pt 3 0) ∧ Still w w' := by
  have h := gadd_any 1 0 2 0 w
  rw [show addf 1 2 = 3 by decide +kernel, show addf 0 0 = 0 by decide +kernel] at h
  exact h
theorem aw_sub (w : World) : Calls Tryd.prog 13 #[pt 1 0, pt 2 0] w fun e w' => e = .returned (pt (-1) 0) ∧ Still w w' := by
  have h := gsub_any 1 0 2 0 w
  rw [show subf 1 2 = -1 by decide +kernel, show subf 0 0 = 0 by decide +kernel] at h
  exact h
theorem aw_check (w : World) : Calls Tryd.prog 8 #[bx 1 0 0 0] w fun e w' => e = .returned (.int .i64 50) ∧ Still w w' := by
  have h := check_any 1 0 0 0 w
  rw [show chk 1 0 0 0 = 50 by decide +kernel] at h
  exact h
set_option maxHeartbeats 2000000 in
set_option maxRecDepth 100000 in
theorem awake_any (w : World) (ht : Tab w) : Calls Tryd.prog 5 #[] w fun e w' => e = .returned (.bool true) ∧ Still w w' := by
  have E1 := eql_pt
  have E2 := eql_bx
  have G1 := guard_pt
  have G2 := guard_bx
  go_enter Tryd.func5, Tryd.ntmps5
  go_wp2_with fail
  refine (aw_around _).mono ?_
  rintro e w1 ⟨rfl, h1⟩
  have b1 := newB_bb w1 (-5) (-5) 5 5
  have s1 := h1.trans (Still.alloc w1 (.cells #[.int .i64 (-5), .int .i64 (-5), .int .i64 5, .int .i64 5] 25))
  obtain ⟨g, eg⟩ : ∃ g, w1.heap.size = g := ⟨_, rfl⟩
  go_wp2_with fail
  rw [eg] at b1
  refine (aw_inside _).mono ?_
  rintro e w2 ⟨rfl, h2⟩
  have b2 := b1.still h2
  have s2 := s1.trans h2
  clear b1 s1 h1 h2 eg
  obtain ⟨c0, c1, c2, c3, cf⟩ := b2.cells
  go_wp2_with fail
  refine (aw_overlap _).mono ?_
  rintro e w3 ⟨rfl, h3⟩
  have b3 := b2.still h3
  have s3 := s2.trans h3
  clear b2 s2 h3 c0 c1 c2 c3 cf
  obtain ⟨c0, c1, c2, c3, cf⟩ := b3.cells
  go_wp2_with fail
  refine (aw_meet _).mono ?_
  rintro e w4 ⟨rfl, h4⟩
  have b4 := (b3.still h4).still (Still.alloc w4 (.cells #[.int .i64 (-5), .int .i64 (-5), .int .i64 5, .int .i64 5] 25))
  have m4 := newB_bb w4 (-5) (-5) 5 5
  have s4 := (s3.trans h4).trans (Still.alloc w4 (.cells #[.int .i64 (-5), .int .i64 (-5), .int .i64 5, .int .i64 5] 25))
  clear b3 s3 h4 c0 c1 c2 c3 cf
  go_wp2_with fail
  refine (aw_length _).mono ?_
  rintro e w5 ⟨rfl, h5⟩
  have b5 := b4.still h5
  have m5 := m4.still h5
  have s5 := s4.trans h5
  obtain ⟨m, em⟩ : ∃ m, w4.heap.size = m := ⟨_, rfl⟩
  rw [em] at m5 ⊢
  clear b4 m4 s4 h5 em
  go_wp2_with fail
  refine (aw_cap _).mono ?_
  rintro e w6 ⟨rfl, h6⟩
  have s6 := s5.trans h6
  have b6 := b5.still h6
  have m6 := m5.still h6
  clear b5 m5 s5 h6
  go_wp2_with fail
  refine (aw_unit _ (ht.still s6)).mono ?_
  rintro e w7 ⟨rfl, h7⟩
  have s7 := s6.trans h7
  have b7 := b6.still h7
  have m7 := m6.still h7
  clear b6 m6 s6 h7
  go_wp2_with (go_at_call 18; refine (aw_turn _).mono ?_; rintro e w' ⟨he, hw⟩; rw [he, hw]; clear he hw w')
  refine (aw_heading _ (ht.still s7)).mono ?_
  rintro e w8 ⟨rfl, h8⟩
  have s8 := s7.trans h8
  have b8 := b7.still h8
  have m8 := m7.still h8
  clear b7 m7 s7 h8
  go_wp2_with fail
  refine (aw_add _).mono ?_
  rintro e w9 ⟨rfl, h9⟩
  have s9 := s8.trans h9
  have b9 := b8.still h9
  have m9 := m8.still h9
  clear b8 m8 s8 h9
  go_wp2_with fail
  refine (aw_sub _).mono ?_
  rintro e wA ⟨rfl, hA⟩
  have sA := s9.trans hA
  have bA := b9.still hA
  have mA := m9.still hA
  clear b9 m9 s9 hA
  obtain ⟨c0, c1, c2, c3, cf⟩ := bA.cells
  obtain ⟨n0, n1, n2, n3, nf⟩ := mA.cells
  clear bA mA
  go_wp2_with fail
  refine (aw_check _).mono ?_
  rintro e wB ⟨rfl, hB⟩
  have HS := hid (sA.trans hB)
  clear sA hB c0 c1 c2 c3 cf n0 n1 n2 n3 nf
  go_wp2_with fail
  go_ret
  exact ⟨rfl, HS.out⟩
end Go.Proofs.YtkmkbglamgkkpabDoor
