/- The document's Fly. -/
import Derived.Test.YtmbllkkoanjghaaDoorZd
namespace Go.Proofs.YtmbllkkoanjghaaDoor
open Go.RowKit
open Pu Gp Ap Vp Np Za
set_option maxRecDepth 100000

theorem rfly_may (s : Sh) (C R : Int) (b : ByteArray) (hm : maySB s = false) (w : World) : Calls Tryd.prog 16 #[sv s, ar C R b] w fun e w' => e = .returned (.tuple #[sv zS, .bool false, .int .i64 90]) ∧ Still w w' := by
  have A0 := Still.alloc w (.cells (scs s) 25)
  have A1 := Still.alloc (newS w s) (.cells #[.int .i64 C, .int .i64 R, .string b] 37)
  have A2 := Still.alloc (newA (newS w s) C R b) (.cells (scs zS) 25)
  have p0 := ((newS_sb w s).still A1).still A2
  have o0 := (newA_ab (newS w s) C R b).still A2
  have q0 := newS_sb (newA (newS w s) C R b) zS
  simp only [size_alloc] at o0 q0
  have HS0 := hid ((A0.trans A1).trans A2)
  clear A0 A1 A2
  obtain ⟨c0, c1, c2, c3, c4, c5, c6, c7, cf⟩ := p0.cells
  have H := hid (fun w => rchks_any s w)
  rw [show chkS s = 90 by unfold chkS; rw [hm]; rfl] at H
  clear hm
  go_enter Tryd.func16, Tryd.ntmps16
  go_wp2_with fail
  refine (H.out _).mono ?_
  rintro e w1 ⟨rfl, h1⟩
  have p1 := p0.still h1
  have o1 := o0.still h1
  have q1 := q0.still h1
  have HS1 := hid (HS0.out.trans h1)
  clear h1 HS0 p0 o0 q0 c0 c1 c2 c3 c4 c5 c6 c7 cf H
  obtain ⟨c0, c1, c2, c3, c4, c5, c6, c7, cf⟩ := p1.cells
  obtain ⟨i0, i1, i2, jf⟩ := o1.cells
  obtain ⟨k0, k1, k2, k3, k4, k5, k6, k7, kf⟩ := q1.cells
  go_wp2_with fail
  refine bodyPost_ret (Sb.rest3 (Sb.put q1 _ _ _ _ _ _ _ _) rfl _ _ _ rfl rfl rfl) rfl ⟨rfl, ?_⟩
  repeat (first | refine setC_fr ?_ _ _ _ (by omega) | with_reducible exact HS1.out)
theorem rfly_wall (s : Sh) (C R : Int) (b : ByteArray) (X Y : Int) (hm : maySB s = true) (hR : ∀ u, Calls Tryd.prog 35 #[ar C R b, pt s.ax s.ay, pt s.sx s.sy] u fun e w' => e = .returned (.tuple #[pt X Y, .bool true]) ∧ Still u w') (w : World) : Calls Tryd.prog 16 #[sv s, ar C R b] w fun e w' => e = .returned (.tuple #[sv zS, .bool false, .int .i64 0]) ∧ Still w w' := by
  have A0 := Still.alloc w (.cells (scs s) 25)
  have A1 := Still.alloc (newS w s) (.cells #[.int .i64 C, .int .i64 R, .string b] 37)
  have A2 := Still.alloc (newA (newS w s) C R b) (.cells (scs zS) 25)
  have p0 := ((newS_sb w s).still A1).still A2
  have o0 := (newA_ab (newS w s) C R b).still A2
  have q0 := newS_sb (newA (newS w s) C R b) zS
  simp only [size_alloc] at o0 q0
  have HS0 := hid ((A0.trans A1).trans A2)
  clear A0 A1 A2
  obtain ⟨c0, c1, c2, c3, c4, c5, c6, c7, cf⟩ := p0.cells
  have H := hid (fun w => rchks_any s w)
  rw [show chkS s = 0 by unfold chkS; rw [hm]; rfl] at H
  have HR := hid hR
  clear hm hR
  go_enter Tryd.func16, Tryd.ntmps16
  go_wp2_with fail
  refine (H.out _).mono ?_
  rintro e w1 ⟨rfl, h1⟩
  have p1 := p0.still h1
  have o1 := o0.still h1
  have q1 := q0.still h1
  have HS1 := hid (HS0.out.trans h1)
  clear h1 HS0 p0 o0 q0 c0 c1 c2 c3 c4 c5 c6 c7 cf H
  obtain ⟨c0, c1, c2, c3, c4, c5, c6, c7, cf⟩ := p1.cells
  obtain ⟨i0, i1, i2, jf⟩ := o1.cells
  obtain ⟨k0, k1, k2, k3, k4, k5, k6, k7, kf⟩ := q1.cells
  go_wp2_with fail
  refine (HR.out _).mono ?_
  rintro e w2 ⟨rfl, h2⟩
  have A3 := Still.alloc w2 (.cells #[.int .i64 X, .int .i64 Y] 23)
  have p2 := (p1.still h2).still A3
  have q2 := (q1.still h2).still A3
  have x2 : Pb (w2.alloc (.cells #[.int .i64 X, .int .i64 Y] 23)) w2.heap.size X Y := newP_pb w2 X Y
  have HS2 := hid ((HS1.out.trans h2).trans A3)
  clear h2 A3 HS1 p1 o1 q1 HR c0 c1 c2 c3 c4 c5 c6 c7 cf k0 k1 k2 k3 k4 k5 k6 k7 kf i0 i1 i2 jf
  obtain ⟨c0, c1, c2, c3, c4, c5, c6, c7, cf⟩ := p2.cells
  obtain ⟨k0, k1, k2, k3, k4, k5, k6, k7, kf⟩ := q2.cells
  go_wp2_with fail
  refine bodyPost_ret (Sb.rest3 (Sb.put q2 _ _ _ _ _ _ _ _) rfl _ _ _ rfl rfl rfl) rfl ⟨rfl, ?_⟩
  repeat (first | refine setC_fr ?_ _ _ _ (by omega) | with_reducible exact HS2.out)
theorem rfly_last (s : Sh) (C R : Int) (b : ByteArray) (X Y : Int) (hm : maySB s = true) (hR : ∀ u, Calls Tryd.prog 35 #[ar C R b, pt s.ax s.ay, pt s.sx s.sy] u fun e w' => e = .returned (.tuple #[pt X Y, .bool false]) ∧ Still u w') (hl : (s.lf == 1) = true) (w : World) : Calls Tryd.prog 16 #[sv s, ar C R b] w fun e w' => e = .returned (.tuple #[sv zS, .bool false, .int .i64 0]) ∧ Still w w' := by
  have A0 := Still.alloc w (.cells (scs s) 25)
  have A1 := Still.alloc (newS w s) (.cells #[.int .i64 C, .int .i64 R, .string b] 37)
  have A2 := Still.alloc (newA (newS w s) C R b) (.cells (scs zS) 25)
  have p0 := ((newS_sb w s).still A1).still A2
  have o0 := (newA_ab (newS w s) C R b).still A2
  have q0 := newS_sb (newA (newS w s) C R b) zS
  simp only [size_alloc] at o0 q0
  have HS0 := hid ((A0.trans A1).trans A2)
  clear A0 A1 A2
  obtain ⟨c0, c1, c2, c3, c4, c5, c6, c7, cf⟩ := p0.cells
  have H := hid (fun w => rchks_any s w)
  rw [show chkS s = 0 by unfold chkS; rw [hm]; rfl] at H
  have HR := hid hR
  clear hm hR
  go_enter Tryd.func16, Tryd.ntmps16
  go_wp2_with fail
  refine (H.out _).mono ?_
  rintro e w1 ⟨rfl, h1⟩
  have p1 := p0.still h1
  have o1 := o0.still h1
  have q1 := q0.still h1
  have HS1 := hid (HS0.out.trans h1)
  clear h1 HS0 p0 o0 q0 c0 c1 c2 c3 c4 c5 c6 c7 cf H
  obtain ⟨c0, c1, c2, c3, c4, c5, c6, c7, cf⟩ := p1.cells
  obtain ⟨i0, i1, i2, jf⟩ := o1.cells
  obtain ⟨k0, k1, k2, k3, k4, k5, k6, k7, kf⟩ := q1.cells
  go_wp2_with fail
  refine (HR.out _).mono ?_
  rintro e w2 ⟨rfl, h2⟩
  have A3 := Still.alloc w2 (.cells #[.int .i64 X, .int .i64 Y] 23)
  have p2 := (p1.still h2).still A3
  have q2 := (q1.still h2).still A3
  have x2 : Pb (w2.alloc (.cells #[.int .i64 X, .int .i64 Y] 23)) w2.heap.size X Y := newP_pb w2 X Y
  have HS2 := hid ((HS1.out.trans h2).trans A3)
  clear h2 A3 HS1 p1 o1 q1 HR c0 c1 c2 c3 c4 c5 c6 c7 cf k0 k1 k2 k3 k4 k5 k6 k7 kf i0 i1 i2 jf
  obtain ⟨c0, c1, c2, c3, c4, c5, c6, c7, cf⟩ := p2.cells
  obtain ⟨k0, k1, k2, k3, k4, k5, k6, k7, kf⟩ := q2.cells
  go_wp2_with fail
  refine bodyPost_ret (Sb.rest3 (Sb.put q2 _ _ _ _ _ _ _ _) rfl _ _ _ rfl rfl rfl) rfl ⟨rfl, ?_⟩
  repeat (first | refine setC_fr ?_ _ _ _ (by omega) | with_reducible exact HS2.out)
set_option maxHeartbeats 1000000 in
theorem rfly_on (s : Sh) (C R : Int) (b : ByteArray) (X Y : Int) (hm : maySB s = true) (hR : ∀ u, Calls Tryd.prog 35 #[ar C R b, pt s.ax s.ay, pt s.sx s.sy] u fun e w' => e = .returned (.tuple #[pt X Y, .bool false]) ∧ Still u w') (hl : (s.lf == 1) = false) (l1 : 1 ≤ s.lf) (l2 : s.lf ≤ 40) (w : World) : Calls Tryd.prog 16 #[sv s, ar C R b] w fun e w' => e = .returned (.tuple #[sv { s with ax := X, ay := Y, lf := s.lf - 1 }, .bool true, .int .i64 0]) ∧ Still w w' := by
  have A0 := Still.alloc w (.cells (scs s) 25)
  have A1 := Still.alloc (newS w s) (.cells #[.int .i64 C, .int .i64 R, .string b] 37)
  have A2 := Still.alloc (newA (newS w s) C R b) (.cells (scs zS) 25)
  have p0 := ((newS_sb w s).still A1).still A2
  have o0 := (newA_ab (newS w s) C R b).still A2
  have q0 := newS_sb (newA (newS w s) C R b) zS
  simp only [size_alloc] at o0 q0
  have HS0 := hid ((A0.trans A1).trans A2)
  clear A0 A1 A2
  obtain ⟨c0, c1, c2, c3, c4, c5, c6, c7, cf⟩ := p0.cells
  have H := hid (fun w => rchks_any s w)
  rw [show chkS s = 0 by unfold chkS; rw [hm]; rfl] at H
  have HR := hid hR
  clear hm hR
  go_enter Tryd.func16, Tryd.ntmps16
  go_wp2_with fail
  refine (H.out _).mono ?_
  rintro e w1 ⟨rfl, h1⟩
  have p1 := p0.still h1
  have o1 := o0.still h1
  have q1 := q0.still h1
  have HS1 := hid (HS0.out.trans h1)
  clear h1 HS0 p0 o0 q0 c0 c1 c2 c3 c4 c5 c6 c7 cf H
  obtain ⟨c0, c1, c2, c3, c4, c5, c6, c7, cf⟩ := p1.cells
  obtain ⟨i0, i1, i2, jf⟩ := o1.cells
  obtain ⟨k0, k1, k2, k3, k4, k5, k6, k7, kf⟩ := q1.cells
  go_wp2_with fail
  refine (HR.out _).mono ?_
  rintro e w2 ⟨rfl, h2⟩
  have A3 := Still.alloc w2 (.cells #[.int .i64 X, .int .i64 Y] 23)
  have p2 := (p1.still h2).still A3
  have q2 := (q1.still h2).still A3
  have x2 : Pb (w2.alloc (.cells #[.int .i64 X, .int .i64 Y] 23)) w2.heap.size X Y := newP_pb w2 X Y
  have HS2 := hid ((HS1.out.trans h2).trans A3)
  clear h2 A3 HS1 p1 o1 q1 HR c0 c1 c2 c3 c4 c5 c6 c7 cf k0 k1 k2 k3 k4 k5 k6 k7 kf i0 i1 i2 jf
  obtain ⟨W, eW⟩ : ∃ W, w2.alloc (.cells #[.int .i64 X, .int .i64 Y] 23) = W := ⟨_, rfl⟩
  rw [eW] at p2 q2 x2 HS2
  go_upto_region 5 with fail
  clear eW
  have p3 := p2.step X Y (s.lf - 1)
  have q3 := ((q2.other w.heap.size 3 (.int .i64 X) (by omega)).other w.heap.size 4 (.int .i64 Y) (by omega)).other w.heap.size 7 (.int .i64 (s.lf - 1)) (by omega)
  have HS3 := hid (setC_fr (setC_fr (setC_fr HS2.out w.heap.size 3 (.int .i64 X) (Nat.le_refl _)) w.heap.size 4 (.int .i64 Y) (Nat.le_refl _)) w.heap.size 7 (.int .i64 (s.lf - 1)) (Nat.le_refl _))
  obtain ⟨W3, eW3⟩ : ∃ W3, ((W.setCell ⟨w.heap.size, 3, none⟩ (.int .i64 X)).setCell ⟨w.heap.size, 4, none⟩ (.int .i64 Y)).setCell ⟨w.heap.size, 7, none⟩ (.int .i64 (s.lf - 1)) = W3 := ⟨_, rfl⟩
  rw [eW3] at p3 q3 HS3
  obtain ⟨c0, c1, c2, c3, c4, c5, c6, c7, cf⟩ := p2.cells
  obtain ⟨d0, d1, df⟩ := x2.cells
  go_upto_region 9 with fail
  clear eW3 p2 q2 x2 HS2 d0 d1 df c0 c1 c2 c3 c4 c5 c6 c7 cf
  obtain ⟨c0, c1, c2, c3, c4, c5, c6, c7, cf⟩ := p3.cells
  obtain ⟨k0, k1, k2, k3, k4, k5, k6, k7, kf⟩ := q3.cells
  go_wp2_with fail
  refine bodyPost_ret (Sb.rest3 (Sb.put q3 _ _ _ _ _ _ _ _) rfl _ _ _ rfl rfl rfl) rfl ⟨rfl, ?_⟩
  repeat (first | refine setC_fr ?_ _ _ _ (by omega) | with_reducible exact HS3.out)
theorem rfly_any (s : Sh) (C R : Int) (b : ByteArray) (hz : b.size ≤ 281474976710656) (hC : C ≤ 9223372036854775807) (w : World) : Calls Tryd.prog 16 #[sv s, ar C R b] w fun e w' => e = .returned (.tuple #[sv (flyS (solB C R b) s), .bool (goes (solB C R b) s), .int .i64 (chkS s)]) ∧ Still w w' := by
  cases hm : maySB s with
  | false =>
    have e : chkS s = 90 := by unfold chkS; rw [hm]; rfl
    have e1 : goes (solB C R b) s = false := by unfold goes; rw [hm]; rfl
    have e2 : flyS (solB C R b) s = zS := by unfold flyS; rw [e1]; rfl
    rw [e, e1, e2]
    exact rfly_may s C R b hm w
  | true =>
    have e : chkS s = 0 := by unfold chkS; rw [hm]; rfl
    have hR := fun u => rray_any C R s.ax s.ay s.sx s.sy b hz hC _ _ _ _ (rn s) (rk (solB C R b) s) rfl rfl rfl rfl rfl rfl u
    cases hw : decide (rk (solB C R b) s < rn s) with
    | true =>
      have e1 : goes (solB C R b) s = false := by unfold goes; rw [hw]; simp
      have e2 : flyS (solB C R b) s = zS := by unfold flyS; rw [e1]; rfl
      rw [hw] at hR
      rw [e, e1, e2]
      exact rfly_wall s C R b _ _ hm hR w
    | false =>
      rw [hw] at hR
      cases hl : s.lf == 1 with
      | true =>
        have e1 : goes (solB C R b) s = false := by unfold goes; rw [hl]; simp
        have e2 : flyS (solB C R b) s = zS := by unfold flyS; rw [e1]; rfl
        rw [e, e1, e2]
        exact rfly_last s C R b _ _ hm hR hl w
      | false =>
        have e1 : goes (solB C R b) s = true := by unfold goes; rw [hm, hw, hl]; rfl
        have e2 : flyS (solB C R b) s = flown (solB C R b) s := by unfold flyS; rw [e1]; rfl
        rw [e, e1, e2]
        have h := (maySB_iff.1 hm).2.2.2.2.2
        exact rfly_on s C R b _ _ hm hR hl h.1 h.2 w
end Go.Proofs.YtmbllkkoanjghaaDoor
