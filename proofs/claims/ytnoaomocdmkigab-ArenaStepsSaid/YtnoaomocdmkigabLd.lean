/- The law on two slides, one behind the other. -/
import Derived.Test.YtnoaomocdmkigabAw
import Derived.Test.YtnoaomocdmkigabTo
import Derived.Test.YtnoaomocdmkigabAf
import Derived.Test.YtnoaomocdmkigabSx
import Derived.Deep.RegionHeld3
namespace Go.Proofs.Ytnoaomocdmkigab
open Go.RowKit
open Pu Gp Ap

/-- a slide to the right -/
theorem slide_right (C R X Y n r : Int) (s : ByteArray) (hz : s.size ≤ 281474976710656) (hX : inB2 X) (hY : inB2 Y) (j : Nat) (hj : j ≤ 2048) (er : clampf n 0 4096 = r) (k : Nat) (ek : gR (solB C R s) r X Y j = k) (w : World) :
    Calls Try.prog 12 #[ar C R s, pt X Y, pt (j : Int) 0, .int .i64 n] w fun e w' => e = .returned (.tuple #[pt (addf X (k : Int)) Y, .int .i64 (if k < j then 1 else 0)]) ∧ Still w w' := by
  have e1 : stp (j : Int) = (j : Int) := stp_id (by omega) (by omega)
  have e2 : stp 0 = 0 := by decide
  have e3 : kX (solB C R s) r X Y (j : Int) = k := by rw [kX_right hY, ek]
  have hk : k ≤ j := ek ▸ go_le _ _
  have e4 : sgn (j : Int) * (k : Int) = (k : Int) := by
    by_cases h0 : j = 0
    · obtain rfl : k = 0 := by omega
      omega
    · rw [show sgn (j : Int) = 1 by unfold sgn; rw [if_pos (by omega)]]; omega
  have e5 : ∀ X1, kY (solB C R s) r X1 Y 0 = 0 := fun X1 => by have := kY_le (solB C R s) r X1 Y 0; omega
  have := slide_any C R X Y (j : Int) 0 n s hz X Y (j : Int) 0 r (addf X (k : Int)) Y (addf X (k : Int)) Y k 0 (bnd_id hX.1 hX.2) (bnd_id hY.1 hY.2) e1 e2 er e3 (by rw [e4]) (addf_zero hY) (e5 _) (addf_zero (addf_in _ _)) (by rw [show sgn 0 * ((0 : Nat) : Int) = 0 by omega]; exact addf_zero hY) w
  have e6 : side k (j : Int).natAbs 0 (0 : Int).natAbs = if k < j then 1 else 0 := by
    unfold side
    rw [show (j : Int).natAbs = j by omega]
    simp
  rw [e6] at this
  exact this

set_option maxHeartbeats 8000000 in
theorem steps_walk (C R x y m n d X Y PX S QX T RX U AX V : Int) (s : ByteArray) (eX : bnd x = X) (eY : bnd y = Y) (m0 : 0 ≤ m) (m1 : m ≤ 1024) (n0 : 0 ≤ n) (n1 : n ≤ 1024)
    (H1 : Hid (∀ u, Calls Try.prog 12 #[ar C R s, pt X Y, pt (m + n) 0, .int .i64 d] u fun e w' => e = .returned (.tuple #[pt PX Y, .int .i64 S]) ∧ Still u w'))
    (H2 : Hid (∀ u, Calls Try.prog 12 #[ar C R s, pt X Y, pt m 0, .int .i64 d] u fun e w' => e = .returned (.tuple #[pt QX Y, .int .i64 T]) ∧ Still u w'))
    (H3 : Hid (∀ u, Calls Try.prog 12 #[ar C R s, pt QX Y, pt n 0, .int .i64 d] u fun e w' => e = .returned (.tuple #[pt RX Y, .int .i64 U]) ∧ Still u w'))
    (H4 : Hid (∀ u, Calls Try.prog 12 #[ar C R s, pt PX Y, pt 1 0, .int .i64 d] u fun e w' => e = .returned (.tuple #[pt AX Y, .int .i64 V]) ∧ Still u w'))
    (hc : Hid ((S = 0 ∧ T = 0 ∧ U = 0 ∧ RX = PX) ∨ (¬ m + n = 0 ∧ S = 1 ∧ T = 0 ∧ U = 1 ∧ RX = PX ∧ AX = PX ∧ V = 1) ∨ (¬ m + n = 0 ∧ S = 1 ∧ T = 1 ∧ U = 0 ∧ QX = PX ∧ AX = PX ∧ V = 1) ∨ (¬ m + n = 0 ∧ S = 1 ∧ T = 1 ∧ U = 1 ∧ QX = PX ∧ AX = PX ∧ V = 1))) (w : World) :
    Calls Try.prog 5 #[ar C R s, pt x y, .int .i64 m, .int .i64 n, .int .i64 d] w fun e w' => e = .returned (.bool true) ∧ Still w w' := by
  have A1 := Still.alloc (newA w C R s) (.cells #[.int .i64 x, .int .i64 y] 32)
  have a0 := (newA_ab w C R s).still A1
  have b0 := newP_pb (newA w C R s) x y
  simp only [size_alloc] at b0
  have HS0 := hid ((Still.alloc w (.cells #[.int .i64 C, .int .i64 R, .string s] 23)).trans A1)
  have hw1 : IntKind.i64.wrap (m + n) = m + n := by rw [IntKind.wrap_i64]; omega
  clear A1
  go_enter Try.func5, Try.ntmps5
  go_wp2_with fail
  refine (awake_any _).mono ?_
  rintro e w1 ⟨rfl, h1⟩
  have a1 := a0.still h1
  have b1 := b0.still h1
  have HS1 := hid (HS0.out.trans h1)
  clear a0 b0 HS0 h1
  obtain ⟨c0, c1, c2, cf⟩ := a1.cells
  obtain ⟨d0, d1, df⟩ := b1.cells
  go_wp2_with fail
  refine (rgbound_any x y _).mono ?_
  rintro e w2 ⟨rfl, h2⟩
  rw [eX, eY]
  have a2 := a1.still h2
  have b2 := b1.still h2
  have HS2 := hid (HS1.out.trans h2)
  clear a1 b1 HS1 h2 c0 c1 c2 cf d0 d1 df
  obtain ⟨c0, c1, c2, cf⟩ := a2.cells
  obtain ⟨d0, d1, df⟩ := b2.cells
  go_wp2_with fail
  refine (H1.out _).mono ?_
  rintro e w3 ⟨rfl, h3⟩
  have A3 := Still.alloc w3 (.cells #[.int .i64 PX, .int .i64 Y] 32)
  have a3 := ((setP_ab a2 (show w.heap.size ≠ w.heap.size + 1 by omega) X Y).still h3).still A3
  have b3 := ((b2.set X Y).still h3).still A3
  have p3 := newP_pb w3 PX Y
  have HS3 := hid (Still.trans (Still.trans (setP_fr HS2.out (w.heap.size + 1) X Y (.inr (by omega))) h3) A3)
  clear a2 b2 HS2 h3 A3 c0 c1 c2 cf d0 d1 df
  obtain ⟨c0, c1, c2, cf⟩ := a3.cells
  obtain ⟨d0, d1, df⟩ := b3.cells
  go_wp2_with fail
  refine (H2.out _).mono ?_
  rintro e w4 ⟨rfl, h4⟩
  have A4 := Still.alloc w4 (.cells #[.int .i64 QX, .int .i64 Y] 32)
  have a4 := (a3.still h4).still A4
  have p4 := (p3.still h4).still A4
  have q4 := newP_pb w4 QX Y
  have HS4 := hid (Still.trans (Still.trans HS3.out h4) A4)
  clear a3 b3 p3 HS3 h4 A4 c0 c1 c2 cf d0 d1 df
  obtain ⟨c0, c1, c2, cf⟩ := a4.cells
  obtain ⟨d0, d1, df⟩ := q4.cells
  go_wp2_with fail
  refine (H3.out _).mono ?_
  rintro e w5 ⟨rfl, h5⟩
  have A5 := Still.alloc w5 (.cells #[.int .i64 RX, .int .i64 Y] 32)
  have a5 := (a4.still h5).still A5
  have p5 := (p4.still h5).still A5
  have q5 := (q4.still h5).still A5
  have r5 := newP_pb w5 RX Y
  have HS5 := hid (Still.trans (Still.trans HS4.out h5) A5)
  clear a4 p4 q4 HS4 h5 A5 c0 c1 c2 cf d0 d1 df
  obtain ⟨c0, c1, c2, cf⟩ := a5.cells
  obtain ⟨k0, k1, kf⟩ := p5.cells
  obtain ⟨d0, d1, df⟩ := q5.cells
  obtain ⟨e0, e1, ef⟩ := r5.cells
  have g1 := guard_pt
  have N1 := neq_pt_f (x := PX) (y := Y) (z := PX) (u := Y) ⟨rfl, rfl⟩
  have N2 := eql_pt_t (x := PX) (y := Y) (z := PX) (u := Y) rfl rfl
  rcases hc.out with ⟨z1, z2, z3, z4⟩ | ⟨z0, z1, z2, z3, z4, z5, z6⟩ | ⟨z0, z1, z2, z3, z4, z5, z6⟩ | ⟨z0, z1, z2, z3, z4, z5, z6⟩
  · subst z1 z2 z3 z4
    go_wp2_with fail
    refine (H4.out _).mono ?_
    rintro e w6 ⟨rfl, h6⟩
    have A6 := Still.alloc w6 (.cells #[.int .i64 AX, .int .i64 Y] 32)
    have r6 := newP_pb w6 AX Y
    have p6 := (p5.still h6).still A6
    have HS6 := hid (Still.trans (Still.trans HS5.out h6) A6)
    clear a5 p5 q5 r5 HS5 h6 A6 c0 c1 c2 cf d0 d1 df k0 k1 kf e0 e1 ef
    obtain ⟨k0, k1, kf⟩ := p6.cells
    obtain ⟨d0, d1, df⟩ := r6.cells
    go_wp2_with fail
    go_ret
    exact ⟨rfl, HS6.out⟩
  · subst z1 z2 z3 z4 z5 z6
    go_wp2_with fail
    refine (H4.out _).mono ?_
    rintro e w6 ⟨rfl, h6⟩
    have A6 := Still.alloc w6 (.cells #[.int .i64 AX, .int .i64 Y] 32)
    have r6 := newP_pb w6 AX Y
    have p6 := (p5.still h6).still A6
    have HS6 := hid (Still.trans (Still.trans HS5.out h6) A6)
    clear a5 p5 q5 r5 HS5 h6 A6 c0 c1 c2 cf d0 d1 df k0 k1 kf e0 e1 ef
    obtain ⟨k0, k1, kf⟩ := p6.cells
    obtain ⟨d0, d1, df⟩ := r6.cells
    go_wp2_with fail
    go_ret
    exact ⟨rfl, HS6.out⟩
  · subst z1 z2 z3 z4 z5 z6
    go_wp2_with fail
    refine (H4.out _).mono ?_
    rintro e w6 ⟨rfl, h6⟩
    have A6 := Still.alloc w6 (.cells #[.int .i64 AX, .int .i64 Y] 32)
    have r6 := newP_pb w6 AX Y
    have p6 := (p5.still h6).still A6
    have HS6 := hid (Still.trans (Still.trans HS5.out h6) A6)
    clear a5 p5 q5 r5 HS5 h6 A6 c0 c1 c2 cf d0 d1 df k0 k1 kf e0 e1 ef
    obtain ⟨k0, k1, kf⟩ := p6.cells
    obtain ⟨d0, d1, df⟩ := r6.cells
    go_wp2_with fail
    go_ret
    exact ⟨rfl, HS6.out⟩
  · subst z1 z2 z3 z4 z5 z6
    go_wp2_with fail
    refine (H4.out _).mono ?_
    rintro e w6 ⟨rfl, h6⟩
    have A6 := Still.alloc w6 (.cells #[.int .i64 AX, .int .i64 Y] 32)
    have r6 := newP_pb w6 AX Y
    have p6 := (p5.still h6).still A6
    have HS6 := hid (Still.trans (Still.trans HS5.out h6) A6)
    clear a5 p5 q5 r5 HS5 h6 A6 c0 c1 c2 cf d0 d1 df k0 k1 kf e0 e1 ef
    obtain ⟨k0, k1, kf⟩ := p6.cells
    obtain ⟨d0, d1, df⟩ := r6.cells
    go_wp2_with fail
    go_ret
    exact ⟨rfl, HS6.out⟩
set_option maxHeartbeats 8000000 in
theorem steps_out (C R x y m n d : Int) (s : ByteArray) (hx : m < 0 ∨ n < 0 ∨ 1024 < m ∨ 1024 < n) (w : World) :
    Calls Try.prog 5 #[ar C R s, pt x y, .int .i64 m, .int .i64 n, .int .i64 d] w fun e w' => e = .returned (.bool true) ∧ Still w w' := by
  have HS0 := hid ((Still.alloc w (.cells #[.int .i64 C, .int .i64 R, .string s] 23)).trans (Still.alloc (newA w C R s) (.cells #[.int .i64 x, .int .i64 y] 32)))
  go_enter Try.func5, Try.ntmps5
  go_wp2_with fail
  refine (awake_any _).mono ?_
  rintro e w1 ⟨rfl, h1⟩
  have HS1 := hid (HS0.out.trans h1)
  clear HS0 h1
  go_wp2_with fail
  all_goals first
    | (exfalso; omega)
    | (go_ret; exact ⟨rfl, HS1.out⟩)
theorem steps_law (C R : Int) (s : ByteArray) (x y m n d : Int) (_hC : C ≤ 9223372036854775807) (hz : s.size ≤ 140737488355328) (w : World) :
    Calls Try.prog 5 #[ar C R s, pt x y, .int .i64 m, .int .i64 n, .int .i64 d] w fun e w' => e = .returned (.bool true) ∧ Still w w' := by
  by_cases hx : m < 0 ∨ n < 0 ∨ 1024 < m ∨ 1024 < n
  · exact steps_out C R x y m n d s hx w
  obtain ⟨M, rfl⟩ := Int.eq_ofNat_of_zero_le (show 0 ≤ m by omega)
  obtain ⟨N, rfl⟩ := Int.eq_ofNat_of_zero_le (show 0 ≤ n by omega)
  have hM : M ≤ 1024 := by omega
  have hN : N ≤ 1024 := by omega
  have hX : inB2 (bnd x) := ⟨bnd_lo _, bnd_hi _⟩
  have hY : inB2 (bnd y) := ⟨bnd_lo _, bnd_hi _⟩
  obtain ⟨X, eX⟩ : ∃ X, bnd x = X := ⟨_, rfl⟩
  obtain ⟨Y, eY⟩ : ∃ Y, bnd y = Y := ⟨_, rfl⟩
  rw [eX] at hX
  rw [eY] at hY
  have hz' : s.size ≤ 281474976710656 := by omega
  obtain ⟨r, er⟩ : ∃ r, clampf d 0 4096 = r := ⟨_, rfl⟩
  obtain ⟨A, eA⟩ : ∃ A, gR (solB C R s) r X Y (M + N) = A := ⟨_, rfl⟩
  obtain ⟨B, eB⟩ : ∃ B, gR (solB C R s) r X Y M = B := ⟨_, rfl⟩
  obtain ⟨D, eD⟩ : ∃ D, gR (solB C R s) r (addf X (B : Int)) Y N = D := ⟨_, rfl⟩
  obtain ⟨E, eE⟩ : ∃ E, gR (solB C R s) r (addf X (A : Int)) Y 1 = E := ⟨_, rfl⟩
  have lB : B ≤ M := eB ▸ go_le _ _
  have lD : D ≤ N := eD ▸ go_le _ _
  have H1 := hid (fun u => slide_right C R X Y d r s hz' hX hY (M + N) (by omega) er A eA u)
  rw [Int.natCast_add] at H1
  refine steps_walk C R x y M N d X Y (addf X (A : Int)) (if A < M + N then 1 else 0) (addf X (B : Int)) (if B < M then 1 else 0) (addf (addf X (B : Int)) (D : Int)) (if D < N then 1 else 0) (addf (addf X (A : Int)) (E : Int)) (if E < 1 then 1 else 0) s eX eY (by omega) (by omega) (by omega) (by omega) H1
    (hid (fun u => slide_right C R X Y d r s hz' hX hY M (by omega) er B eB u)) (hid (fun u => slide_right C R (addf X (B : Int)) Y d r s hz' (addf_in _ _) hY N (by omega) er D eD u))
    (hid (fun u => slide_right C R (addf X (A : Int)) Y d r s hz' (addf_in _ _) hY 1 (by omega) er E eE u)) (hid ?_) w
  have hstay : A < M + N → E = 0 := fun h => by
    rw [← eE, ← eA]
    exact right_stay hX (by omega) (by rw [eA]; exact h)
  by_cases hB : B < M
  · have e1 : A = B := by rw [← eA, right_less (show M ≤ M + N by omega) (by rw [eB]; exact hB), eB]
    have e2 := hstay (by omega)
    subst e1 e2
    right; right
    by_cases hD : D < N
    · right
      exact ⟨by omega, if_pos (by omega), if_pos hB, if_pos hD, rfl, addf_zero (addf_in _ _), rfl⟩
    · left
      exact ⟨by omega, if_pos (by omega), if_pos hB, if_neg hD, rfl, addf_zero (addf_in _ _), rfl⟩
  · obtain rfl : B = M := by omega
    have e1 : A = B + D := by rw [← eA, right_add hX hM hN eB, eD]
    have e3 : addf (addf X (B : Int)) (D : Int) = addf X (A : Int) := by rw [addf_more hX (by omega) (by omega) (by omega) (by omega), e1, Int.natCast_add]
    by_cases hD : D < N
    · have e2 := hstay (by omega)
      subst e2
      right; left
      exact ⟨by omega, if_pos (by omega), if_neg hB, if_pos hD, e3, addf_zero (addf_in _ _), rfl⟩
    · left
      exact ⟨if_neg (by omega), if_neg hB, if_neg hD, e3⟩
end Go.Proofs.Ytnoaomocdmkigab
