/- GeomTurns: the walk. -/
import Derived.Test.YtkmkbglamgkkpaaDoorAw
namespace Go.Proofs.YtkmkbglamgkkpaaDoor
open Go.RowKit
open Pu Gp

theorem dir_turn (d : Int) : dir ((d + 8) % 16) = (dir d + 8) % 16 := by unfold dir; omega
theorem hd_unit {k : Nat} (hk : k < 16) : hd (bnd (ux k)) (bnd (uy k)) = k := by
  have h1 := ux_in k hk
  have h2 := uy_in k hk
  rw [bnd_id (by omega) (by omega), bnd_id (by omega) (by omega)]
  exact Best.one (hdF_best (dot (ux k) (uy k)) 15) (best_unit k hk)
/-- the unit 8 further -/
theorem unit_about (d : Int) (w : World) (ht : Tab w) : Calls Tryd.prog 22 #[.int .i64 ((d + 8) % 16)] w fun e w' => e = .returned (pt (-ux (dir d)) (-uy (dir d))) ∧ Still w w' := by
  have h := unit_any ((d + 8) % 16) w ht
  obtain ⟨e1, e2⟩ := units_about (dir d) (dir_lt d)
  rw [dir_turn, e1, e2] at h
  exact h
theorem turn_to {d b n : Int} (h : (d + b) % 16 = n) (w : World) : Calls Tryd.prog 24 #[.int .i64 d, .int .i64 b] w fun e w' => e = .returned (.int .i64 n) ∧ w' = w := by
  have := turn_any d b w
  rw [h] at this
  exact this
theorem heading_unit (d : Int) (w : World) (ht : Tab w) : Calls Tryd.prog 26 #[pt (ux (dir d)) (uy (dir d))] w fun e w' => e = .returned (.int .i64 (dir d : Nat)) ∧ Still w w' := by
  have h := heading_any (ux (dir d)) (uy (dir d)) w ht
  rw [hd_unit (dir_lt d)] at h
  exact h
set_option maxHeartbeats 2000000 in
set_option maxRecDepth 100000 in
theorem turns_law (d a b : Int) (w : World) (ht : Tab w) : Calls Tryd.prog 7 #[.int .i64 d, .int .i64 a, .int .i64 b] w fun e w' => e = .returned (.bool true) ∧ Still w w' := by
  obtain ⟨U, eU⟩ : ∃ U, U = ux (dir d) := ⟨_, rfl⟩
  obtain ⟨V, eV⟩ : ∃ V, V = uy (dir d) := ⟨_, rfl⟩
  have HU := hid eU
  have HV := hid eV
  have u1 := ux_in (dir d) (dir_lt d)
  have u2 := uy_in (dir d) (dir_lt d)
  rw [← eU] at u1
  rw [← eV] at u2
  obtain ⟨u0, u1⟩ := u1
  obtain ⟨v0, v1⟩ := u2
  obtain ⟨N, eN⟩ : ∃ N, N = (d + a + b) % 16 := ⟨_, rfl⟩
  have HN := hid eN
  have n0 : 0 ≤ N := by omega
  have n1 : N < 16 := by omega
  clear eU eV eN
  go_enter Tryd.func7, Tryd.ntmps7
  go_wp2_with fail
  refine (awake_any _ ht).mono ?_
  rintro e w1 ⟨rfl, h1⟩
  go_wp2_with fail
  refine (unit_any d _ (ht.still h1)).mono ?_
  rintro e w2 ⟨rfl, h2⟩
  rw [← HU.out, ← HV.out]
  have p2 := newP_pb w2 U V
  have s2 := (h1.trans h2).trans (Still.alloc w2 (.cells #[.int .i64 U, .int .i64 V] 23))
  clear h1 h2
  go_wp2_with (go_at_call 24; refine (turn_any _ _ _).mono ?_; rintro e w' ⟨he, hw⟩; rw [he, hw]; clear he hw w')
  refine (unit_about d _ (ht.still s2)).mono ?_
  rintro e w3 ⟨rfl, h3⟩
  rw [← HU.out, ← HV.out]
  have p3 := p2.still h3
  have q3 := newP_pb w3 (-U) (-V)
  have s3 := (s2.trans h3).trans (Still.alloc w3 (.cells #[.int .i64 (-U), .int .i64 (-V)] 23))
  have p4 := p3.still (Still.alloc w3 (.cells #[.int .i64 (-U), .int .i64 (-V)] 23))
  simp only [newP] at q3
  clear p2 p3 s2 h3
  obtain ⟨c0, c1, cf⟩ := p4.cells
  obtain ⟨d0, d1, df⟩ := q3.cells
  go_wp2_with fail
  refine (turn_any d a _).mono ?_
  rintro e w' ⟨he, hw⟩
  rw [he, hw]
  clear he hw w'
  go_wp2_with fail
  refine (turn_to (n := N) (by have := HN.out; omega) _).mono ?_
  rintro e w' ⟨he, hw⟩
  rw [he, hw]
  clear he hw w'
  go_wp2_with fail
  refine (turn_any d b _).mono ?_
  rintro e w' ⟨he, hw⟩
  rw [he, hw]
  clear he hw w'
  go_wp2_with fail
  refine (turn_to (n := N) (by have := HN.out; omega) _).mono ?_
  rintro e w' ⟨he, hw⟩
  rw [he, hw]
  clear he hw w'
  go_wp2_with fail
  refine (turn_any a b _).mono ?_
  rintro e w' ⟨he, hw⟩
  rw [he, hw]
  clear he hw w'
  go_wp2_with fail
  refine (turn_to (n := N) (by have := HN.out; omega) _).mono ?_
  rintro e w' ⟨he, hw⟩
  rw [he, hw]
  clear he hw w'
  go_wp2_with fail
  have hh := heading_unit d _ (ht.still s3)
  rw [← HU.out, ← HV.out] at hh
  refine hh.mono ?_
  rintro e w5 ⟨rfl, h5⟩
  have HS := hid (s3.trans h5)
  clear c0 c1 cf d0 d1 df p4 q3 s3 h5 hh
  go_wp2_with fail
  refine (turn_to (d := d) (b := 0) (n := (dir d : Nat)) (by unfold dir; omega) _).mono ?_
  rintro e w' ⟨he, hw⟩
  rw [he, hw]
  clear he hw w'
  go_wp2_with fail
  go_ret
  exact ⟨rfl, HS.out⟩
end Go.Proofs.YtkmkbglamgkkpaaDoor
