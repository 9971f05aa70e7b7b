/- The law on free bodies and rays. -/
import Derived.Test.YtnoaomocdmkigabAw
import Derived.Test.YtnoaomocdmkigabTo
import Derived.Test.YtnoaomocdmkigabAf
import Derived.Test.YtnoaomocdmkigabSx
import Derived.Deep.RegionHeld3
import Derived.Deep.DeepCutAuto
namespace Go.Proofs.Ytnoaomocdmkigab
open Go.RowKit
open Pu Gp Ap

theorem way_true (m n : Int) (h : wayP m n) (w : World) : Calls Try.prog 15 #[.int .i64 m, .int .i64 n] w fun e w' => e = .returned (.bool true) ∧ w' = w := by
  rcases h with rfl | ⟨h1, h2, h3⟩ | ⟨h1, h2, h3⟩
  · go_enter Try.func15, Try.ntmps15
    go_wp2_with fail
    go_ret
    exact ⟨rfl, rfl⟩
  · have h0 : ¬ m = 0 := by omega
    go_enter Try.func15, Try.ntmps15
    go_wp2_with fail
    go_ret
    exact ⟨rfl, rfl⟩
  · have h0 : ¬ m = 0 := by omega
    have h4 : ¬ 0 < n := by omega
    have h5 : ¬ 0 < m := by omega
    go_enter Try.func15, Try.ntmps15
    go_wp2_with fail
    go_ret
    exact ⟨rfl, rfl⟩

set_option maxHeartbeats 8000000 in
set_option maxRecDepth 100000 in
theorem free_walk (C R x y p q n X Y P Q r X2 Y2 N F G X3 Y3 B1 B2 B3 B4 D1 D2 D3 D4 DX DY EX EY SX SY : Int) (b1 b2 b3 b4 is e2 : Bool) (s : ByteArray)
    (eX : bnd x = X) (eY : bnd y = Y) (eP : stp p = P) (eQ : stp q = Q) (er : clampf n 0 4096 = r)
    (wX : IntKind.i64.wrap (X2 - X) = DX) (wY : IntKind.i64.wrap (Y2 - Y) = DY) (vX : IntKind.i64.wrap (X3 - X) = EX) (vY : IntKind.i64.wrap (Y3 - Y) = EY) (sX : IntKind.i64.wrap (X + P) = SX) (sY : IntKind.i64.wrap (Y + Q) = SY)
    (H1 : Hid (∀ u, Calls Try.prog 12 #[ar C R s, pt X Y, pt P Q, .int .i64 n] u fun e w' => e = .returned (.tuple #[pt X2 Y2, .int .i64 N]) ∧ Still u w'))
    (A1 : Hid (∀ u, Calls Try.prog 14 #[pt X Y, .int .i64 r] u fun e w' => e = .returned (bx B1 B2 B3 B4) ∧ Still u w'))
    (A2 : Hid (∀ u, Calls Try.prog 14 #[pt X2 Y2, .int .i64 r] u fun e w' => e = .returned (bx D1 D2 D3 D4) ∧ Still u w'))
    (T1 : Hid (∀ u, Calls Try.prog 13 #[ar C R s, bx B1 B2 B3 B4] u fun e w' => e = .returned (.bool b1) ∧ Still u w'))
    (T2 : Hid (∀ u, Calls Try.prog 13 #[ar C R s, bx D1 D2 D3 D4] u fun e w' => e = .returned (.bool b2) ∧ Still u w'))
    (T3 : Hid (∀ u, Calls Try.prog 13 #[ar C R s, bx X Y X Y] u fun e w' => e = .returned (.bool b3) ∧ Still u w'))
    (T4 : Hid (∀ u, Calls Try.prog 13 #[ar C R s, bx X3 Y3 X3 Y3] u fun e w' => e = .returned (.bool b4) ∧ Still u w'))
    (W1 : Hid (∀ u, Calls Try.prog 15 #[.int .i64 DX, .int .i64 P] u fun e w' => e = .returned (.bool true) ∧ w' = u))
    (W2 : Hid (∀ u, Calls Try.prog 15 #[.int .i64 DY, .int .i64 Q] u fun e w' => e = .returned (.bool true) ∧ w' = u))
    (W3 : Hid (∀ u, Calls Try.prog 15 #[.int .i64 EX, .int .i64 P] u fun e w' => e = .returned (.bool true) ∧ w' = u))
    (W4 : Hid (∀ u, Calls Try.prog 15 #[.int .i64 EY, .int .i64 Q] u fun e w' => e = .returned (.bool true) ∧ w' = u))
    (AD : Hid (∀ u, Calls Try.prog 16 #[pt X Y, pt P Q] u fun e w' => e = .returned (pt F G) ∧ Still u w'))
    (RY : Hid (∀ u, Calls Try.prog 17 #[ar C R s, pt X Y, pt P Q] u fun e w' => e = .returned (.tuple #[pt X3 Y3, .bool is]) ∧ Still u w'))
    (N0 : 0 ≤ N) (N3 : N ≤ 3) (f1 : Hid (b1 = true ∨ b2 = false)) (f2 : Hid (b3 = true ∨ b4 = false))
    (q1 : ∀ w, (binOp .eql 32 (pt X2 Y2) (pt F G)).run Try.prog w = .ok (.bool e2) w)
    (whole : Hid (decide (N = 0) = e2 ∨ (decide (N = 0) ≠ e2 ∧ ∀ w, (binOp .neq 32 (pt F G) (pt SX SY)).run Try.prog w = .ok (.bool true) w)))
    (ray : Hid (is = true ∨ (is = false ∧ ∀ w, (binOp .eql 32 (pt X3 Y3) (pt F G)).run Try.prog w = .ok (.bool true) w))) (w : World) :
    Calls Try.prog 4 #[ar C R s, pt x y, pt p q, .int .i64 n] w fun e w' => e = .returned (.bool true) ∧ Still w w' := by
  have A1' := Still.alloc (newA w C R s) (.cells #[.int .i64 x, .int .i64 y] 32)
  have A2' := Still.alloc (newP (newA w C R s) x y) (.cells #[.int .i64 p, .int .i64 q] 32)
  have a0 := ((newA_ab w C R s).still A1').still A2'
  have b0 := (newP_pb (newA w C R s) x y).still A2'
  have d0 := newP_pb (newP (newA w C R s) x y) p q
  simp only [size_alloc] at b0 d0
  have HS0 := hid (((Still.alloc w (.cells #[.int .i64 C, .int .i64 R, .string s] 23)).trans A1').trans A2')
  have g1 := guard_pt
  clear A1' A2'
  go_enter Try.func4, Try.ntmps4
  go_wp2_with fail
  refine (awake_any _).mono ?_
  rintro e w1 ⟨rfl, h1⟩
  have a1 := a0.still h1
  have p1 := b0.still h1
  have d1 := d0.still h1
  have HS1 := hid (HS0.out.trans h1)
  clear a0 b0 d0 HS0 h1
  obtain ⟨m0, m1, mf⟩ := p1.cells
  go_wp2_with fail
  refine (rgbound_any x y _).mono ?_
  rintro e w2 ⟨rfl, h2⟩
  rw [eX, eY]
  have a2 := setP_ab (a1.still h2) (show w.heap.size ≠ w.heap.size + 1 by omega) X Y
  have p2 := (p1.still h2).set X Y
  have d2 := setP_pb (d1.still h2) (show w.heap.size + 1 + 1 ≠ w.heap.size + 1 by omega) X Y
  have HS2 := hid (setP_fr (HS1.out.trans h2) (w.heap.size + 1) X Y (.inr (by omega)))
  obtain ⟨m0', m1', mf'⟩ := (p1.still h2).cells
  obtain ⟨o0, o1, of⟩ := (d1.still h2).cells
  clear a1 p1 d1 HS1 h2 m0 m1 mf
  go_wp2_with fail
  refine (rstep_any p q _).mono ?_
  rintro e w3 ⟨rfl, h3⟩
  rw [eP, eQ]
  have a3 := setP_ab (a2.still h3) (show w.heap.size ≠ w.heap.size + 1 + 1 by omega) P Q
  have p3 := setP_pb (p2.still h3) (show w.heap.size + 1 ≠ w.heap.size + 1 + 1 by omega) P Q
  have d3 := (d2.still h3).set P Q
  have HS3 := hid (setP_fr (Still.trans HS2.out h3) (w.heap.size + 1 + 1) P Q (.inr (by omega)))
  obtain ⟨k0, k1, k2, kf⟩ := (a2.still h3).cells
  obtain ⟨l0, l1, lf⟩ := (p2.still h3).cells
  obtain ⟨n0, n1, nf⟩ := (d2.still h3).cells
  clear a2 p2 d2 HS2 h3 m0' m1' mf' o0 o1 of
  go_wp2_with fail
  refine (rclamp_any n 0 4096 _).mono ?_
  rintro e w4 ⟨rfl, rfl⟩
  rw [er]
  go_wp2_with fail
  refine (H1.out _).mono ?_
  rintro e w4 ⟨rfl, h4⟩
  have A4 := Still.alloc w4 (.cells #[.int .i64 X2, .int .i64 Y2] 32)
  have a4 := (a3.still h4).still A4
  have p4 := (p3.still h4).still A4
  have d4 := (d3.still h4).still A4
  have s4 := newP_pb w4 X2 Y2
  have HS4 := hid (Still.trans (Still.trans HS3.out h4) A4)
  clear a3 p3 d3 HS3 h4 A4 k0 k1 k2 kf l0 l1 lf n0 n1 nf
  obtain ⟨V4, eV4⟩ : ∃ W, w4.alloc (.cells #[.int .i64 X2, .int .i64 Y2] 32) = W := ⟨_, rfl⟩
  rw [show newP w4 X2 Y2 = V4 from eV4] at s4
  rw [eV4] at a4 p4 d4 HS4
  have HE4 := hid eV4
  clear eV4
  go_wp2_with fail
  rw [HE4.out]
  have c0 := Cl.cell a4.cells.1
  have c1 := Cl.cell a4.cells.2.1
  have c2 := Cl.cell a4.cells.2.2.1
  have m0 := Cl.cell p4.cells.1
  have m1 := Cl.cell p4.cells.2.1
  have hne := Aft.here V4
  refine region_all (by kernel_rfl) (by kernel_rfl) ?_
  repeat (go_big_quiet_step ((first | (go_at_call 14; exact Calls.cl (A1.out _)) | (go_at_call 13; exact Calls.cl (T1.out _)))))
  refine wpQuiet_nil ?_
  intro w5 h5
  have a5 := a4.still h5
  have p5 := p4.still h5
  have d5 := d4.still h5
  have s5 := s4.still h5
  have HS5 := hid (Still.trans HS4.out h5)
  clear a4 p4 d4 s4 HS4 h5 c0 c1 c2 m0 m1 hne
  go_wp2_with fail
  have c0 := Cl.cell a5.cells.1
  have c1 := Cl.cell a5.cells.2.1
  have c2 := Cl.cell a5.cells.2.2.1
  have m0 := Cl.cell s5.cells.1
  have m1 := Cl.cell s5.cells.2.1
  have hne := Aft.here w5
  refine region_all (by kernel_rfl) (by kernel_rfl) ?_
  repeat (go_big_quiet_step ((first | (go_at_call 14; exact Calls.cl (A2.out _)) | (go_at_call 13; exact Calls.cl (T2.out _)))))
  refine wpQuiet_nil ?_
  intro w6 h6
  have a6 := a5.still h6
  have p6 := p5.still h6
  have d6 := d5.still h6
  have s6 := s5.still h6
  have HS6 := hid (Still.trans HS5.out h6)
  clear a5 p5 d5 s5 HS5 h6 c0 c1 c2 m0 m1 hne
  obtain ⟨m0, m1, mf⟩ := p6.cells
  obtain ⟨o0, o1, of⟩ := d6.cells
  obtain ⟨n0, n1, nf⟩ := s6.cells
  go_wp2_with fail
  refine (W1.out _).mono ?_
  rintro e w7 ⟨rfl, rfl⟩
  go_wp2_with fail
  refine (W2.out _).mono ?_
  rintro e w7 ⟨rfl, rfl⟩
  go_upto_region 10 with fail
  go_cut [17] (fun v wx => v = .bool true ∧ Still w7 wx)
  case first =>
    clear m0 m1 mf o0 o1 of n0 n1 nf
    have m0 := Cl.cell p6.cells.1
    have m1 := Cl.cell p6.cells.2.1
    have o0 := Cl.cell d6.cells.1
    have o1 := Cl.cell d6.cells.2.1
    have n0 := Cl.cell s6.cells.1
    have n1 := Cl.cell s6.cells.2.1
    have hne := Aft.here w7
    have hN : (N = 0 ∧ e2 = true) ∨ (¬ N = 0 ∧ e2 = false) ∨ ((N = 0 ∧ e2 = false ∨ ¬ N = 0 ∧ e2 = true) ∧ ∀ w, (binOp .neq 32 (pt F G) (pt SX SY)).run Try.prog w = .ok (.bool true) w) := by
      rcases whole.out with h | ⟨h, h'⟩
      · by_cases hn : N = 0
        · left; rw [decide_eq_true hn] at h; exact ⟨hn, h.symm⟩
        · right; left; rw [decide_eq_false hn] at h; exact ⟨hn, h.symm⟩
      · right; right
        refine ⟨?_, h'⟩
        by_cases hn : N = 0
        · left; rw [decide_eq_true hn] at h; exact ⟨hn, by cases e2 <;> simp at h ⊢⟩
        · right; rw [decide_eq_false hn] at h; exact ⟨hn, by cases e2 <;> simp at h ⊢⟩
    rcases hN with ⟨hn, he⟩ | ⟨hn, he⟩ | ⟨⟨hn, he⟩ | ⟨hn, he⟩, hq⟩
    · subst hn he
      refine region_all (by kernel_rfl) (by kernel_rfl) ?_
      repeat (go_big_quiet_step ((first | (go_at_call 16; exact Calls.cl (AD.out _)))))
      refine wpQuiet_nil ?_
      intro w8 h8
      go_wp2_with fail
      go_meet
      exact ⟨rfl, h8⟩
    · subst he
      have hb : (N == 0) = false := by simp [hn]
      refine region_all (by kernel_rfl) (by kernel_rfl) ?_
      repeat (go_big_quiet_step ((first | (go_at_call 16; exact Calls.cl (AD.out _)))))
      refine wpQuiet_nil ?_
      intro w8 h8
      go_wp2_with fail
      go_meet
      exact ⟨rfl, h8⟩
    · subst hn he
      refine region_all (by kernel_rfl) (by kernel_rfl) ?_
      repeat (go_big_quiet_step ((first | (go_at_call 16; exact Calls.cl (AD.out _)))))
      refine wpQuiet_nil ?_
      intro w8 h8
      go_wp2_with fail
      go_meet
      exact ⟨rfl, h8⟩
    · subst he
      have hb : (N == 0) = false := by simp [hn]
      refine region_all (by kernel_rfl) (by kernel_rfl) ?_
      repeat (go_big_quiet_step ((first | (go_at_call 16; exact Calls.cl (AD.out _)))))
      refine wpQuiet_nil ?_
      intro w8 h8
      go_wp2_with fail
      go_meet
      exact ⟨rfl, h8⟩
  case rest =>
    obtain ⟨rfl, h7⟩ := hcut
    have a8 := a6.still h7
    have p8 := p6.still h7
    have d8 := d6.still h7
    have HS8 := hid (Still.trans HS6.out h7)
    clear a6 p6 d6 s6 HS6 h7 m0 m1 mf o0 o1 of n0 n1 nf q1 whole
    obtain ⟨c0, c1, c2, cf⟩ := a8.cells
    obtain ⟨m0, m1, mf⟩ := p8.cells
    obtain ⟨o0, o1, of⟩ := d8.cells
    go_wp2_with fail
    refine (RY.out _).mono ?_
    rintro e w9 ⟨rfl, h9⟩
    have A9 := Still.alloc w9 (.cells #[.int .i64 X3, .int .i64 Y3] 32)
    have a9 := (a8.still h9).still A9
    have p9 := (p8.still h9).still A9
    have d9 := (d8.still h9).still A9
    have s9 := newP_pb w9 X3 Y3
    have HS9 := hid (Still.trans (Still.trans HS8.out h9) A9)
    clear a8 p8 d8 HS8 h9 A9 c0 c1 c2 cf m0 m1 mf o0 o1 of
    obtain ⟨c0, c1, c2, cf⟩ := a9.cells
    obtain ⟨m0, m1, mf⟩ := p9.cells
    go_wp2_with fail
    refine (T3.out _).mono ?_
    rintro e w10 ⟨rfl, h10⟩
    have a10 := a9.still h10
    have p10 := p9.still h10
    have d10 := d9.still h10
    have s10 := s9.still h10
    have HS10 := hid (Still.trans HS9.out h10)
    clear a9 p9 d9 s9 HS9 h10 c0 c1 c2 cf m0 m1 mf
    obtain ⟨c0, c1, c2, cf⟩ := a10.cells
    obtain ⟨m0, m1, mf⟩ := s10.cells
    go_wp2_with fail
    refine (T4.out _).mono ?_
    rintro e w11 ⟨rfl, h11⟩
    have p11 := p10.still h11
    have d11 := d10.still h11
    have s11 := s10.still h11
    have HS11 := hid (Still.trans HS10.out h11)
    clear a10 p10 d10 s10 HS10 h11 c0 c1 c2 cf m0 m1 mf
    go_upto_region 14 with fail
    go_cut [22] (fun v wx => v = .bool true ∧ Still w11 wx)
    case first =>
      have m0 := Cl.cell p11.cells.1
      have m1 := Cl.cell p11.cells.2.1
      have o0 := Cl.cell d11.cells.1
      have o1 := Cl.cell d11.cells.2.1
      have n0 := Cl.cell s11.cells.1
      have n1 := Cl.cell s11.cells.2.1
      have hne := Aft.here w11
      rcases f2.out with hf | hf <;> rcases ray.out with hr | ⟨hr, hq⟩
      · subst hf hr
        refine region_all (by kernel_rfl) (by kernel_rfl) ?_
        repeat (go_big_quiet_step ((first | (go_at_call 16; exact Calls.cl (AD.out _)) | (go_at_call_of 15 EX; exact Calls.cl_same (W3.out _)) | (go_at_call_of 15 EY; exact Calls.cl_same (W4.out _)))))
        refine wpQuiet_nil ?_
        intro w13 h13
        go_wp2_with fail
        go_meet
        exact ⟨rfl, h13⟩
      · subst hf hr
        refine region_all (by kernel_rfl) (by kernel_rfl) ?_
        repeat (go_big_quiet_step ((first | (go_at_call 16; exact Calls.cl (AD.out _)) | (go_at_call_of 15 EX; exact Calls.cl_same (W3.out _)) | (go_at_call_of 15 EY; exact Calls.cl_same (W4.out _)))))
        refine wpQuiet_nil ?_
        intro w13 h13
        go_wp2_with fail
        go_meet
        exact ⟨rfl, h13⟩
      · cases b3 <;> subst hf hr
        all_goals
          refine region_all (by kernel_rfl) (by kernel_rfl) ?_
          repeat (go_big_quiet_step ((first | (go_at_call 16; exact Calls.cl (AD.out _)) | (go_at_call_of 15 EX; exact Calls.cl_same (W3.out _)) | (go_at_call_of 15 EY; exact Calls.cl_same (W4.out _)))))
          refine wpQuiet_nil ?_
          intro w13 h13
          go_wp2_with fail
          go_meet
          exact ⟨rfl, h13⟩
      · cases b3 <;> subst hf hr
        all_goals
          refine region_all (by kernel_rfl) (by kernel_rfl) ?_
          repeat (go_big_quiet_step ((first | (go_at_call 16; exact Calls.cl (AD.out _)) | (go_at_call_of 15 EX; exact Calls.cl_same (W3.out _)) | (go_at_call_of 15 EY; exact Calls.cl_same (W4.out _)))))
          refine wpQuiet_nil ?_
          intro w13 h13
          go_wp2_with fail
          go_meet
          exact ⟨rfl, h13⟩
    case rest =>
      obtain ⟨rfl, h12⟩ := hcut
      have HS12 := hid (Still.trans HS11.out h12)
      clear p11 d11 s11 HS11 h12
      rcases f1.out with hf | hf
      · subst hf
        go_wp2_with fail
        go_ret
        exact ⟨rfl, HS12.out⟩
      · cases b1 <;> subst hf
        all_goals
          go_wp2_with fail
          go_ret
          exact ⟨rfl, HS12.out⟩
end Go.Proofs.Ytnoaomocdmkigab
