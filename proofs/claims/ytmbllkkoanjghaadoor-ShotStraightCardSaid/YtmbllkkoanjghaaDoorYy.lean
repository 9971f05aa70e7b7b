/- The program's Fly of shots; the bundle. -/
import Derived.Test.YtmbllkkoanjghaaDoorZf
import Derived.Test.YtmbllkkoanjghaaDoorYx
import Derived.Test.YtmbllkkoanjghaaDoorK6c
namespace Go.Proofs.YtmbllkkoanjghaaDoor
open Go.RowKit
open Pu Gp Ap Vp Np Za
set_option maxRecDepth 100000

theorem ends_any (s : Sh) (w : World) : Calls Tryd.prog 33 #[sv s] w fun e w' => e = .returned (.bool (s.lf == 1)) ∧ Still w w' := by
  have p := newL_pl w s
  have HS0 := hid (Still.alloc w (.cells (scs s) 46))
  obtain ⟨c0, c1, c2, c3, c4, c5, c6, c7, cf⟩ := p.cells
  go_enter Tryd.func33, Tryd.ntmps33
  go_wp2_with fail
  go_ret
  exact ⟨rfl, HS0.out⟩
set_option maxHeartbeats 1000000 in
theorem came_any (s : Sh) (X Y : Int) (l1 : 1 ≤ s.lf) (l2 : s.lf ≤ 40) (w : World) : Calls Tryd.prog 34 #[sv s, pt X Y] w fun e w' => e = .returned (sv { s with ax := X, ay := Y, lf := s.lf - 1 }) ∧ Still w w' := by
  obtain ⟨W, eW⟩ : ∃ W, W = newS (newP (newL w s) X Y) zS := ⟨_, rfl⟩
  have A0 := Still.alloc w (.cells (scs s) 46)
  have A1 := Still.alloc (newL w s) (.cells #[.int .i64 X, .int .i64 Y] 23)
  have A2 := Still.alloc (newP (newL w s) X Y) (.cells (scs zS) 25)
  have p2 := ((newL_pl w s).still A1).still A2
  have x2 := (newP_pb (newL w s) X Y).still A2
  have q2 := newS_sb (newP (newL w s) X Y) zS
  simp only [size_alloc] at x2 q2
  have HS2 := hid ((A0.trans A1).trans A2)
  simp only [newS, newP, newL] at eW p2 x2 q2 HS2
  rw [← eW] at p2 x2 q2 HS2
  clear A0 A1 A2
  have HW := hid eW
  clear eW
  go_enter Tryd.func34, Tryd.ntmps34
  go_upto_region 1 with fail
  have e := HW.out
  simp only [zS] at e
  rw [← e]
  clear e HW
  have p3 := p2.step X Y (s.lf - 1)
  have q3 := ((q2.other w.heap.size 3 (.int .i64 X) (by omega)).other w.heap.size 4 (.int .i64 Y) (by omega)).other w.heap.size 7 (.int .i64 (s.lf - 1)) (by omega)
  have HS3 := hid (setC_fr (setC_fr (setC_fr HS2.out w.heap.size 3 (.int .i64 X) (Nat.le_refl _)) w.heap.size 4 (.int .i64 Y) (Nat.le_refl _)) w.heap.size 7 (.int .i64 (s.lf - 1)) (Nat.le_refl _))
  obtain ⟨W3, eW3⟩ : ∃ W3, ((W.setCell ⟨w.heap.size, 3, none⟩ (.int .i64 X)).setCell ⟨w.heap.size, 4, none⟩ (.int .i64 Y)).setCell ⟨w.heap.size, 7, none⟩ (.int .i64 (s.lf - 1)) = W3 := ⟨_, rfl⟩
  rw [eW3] at p3 q3 HS3
  obtain ⟨c0, c1, c2, c3, c4, c5, c6, c7, cf⟩ := p2.cells
  obtain ⟨d0, d1, df⟩ := x2.cells
  go_upto_region 3 with fail
  clear eW3 p2 q2 x2 HS2 d0 d1 df c0 c1 c2 c3 c4 c5 c6 c7 cf
  obtain ⟨c0, c1, c2, c3, c4, c5, c6, c7, cf⟩ := p3.cells
  obtain ⟨k0, k1, k2, k3, k4, k5, k6, k7, kf⟩ := q3.cells
  go_wp2_with fail
  refine bodyPost_ret (Sb.res (Sb.put q3 _ _ _ _ _ _ _ _) rfl _ rfl) rfl ⟨rfl, ?_⟩
  repeat (first | refine setC_fr ?_ _ _ _ (by omega) | with_reducible exact HS3.out)
/-- block g holds what stops shots -/
def Wa (w : World) (b : Nat) (C R : Int) (s : ByteArray) : Prop := w.heap[b]? = some (.cells #[.int .i64 C, .int .i64 R, .string s] 54 (0, 0))
theorem Wa.still {w w' : World} {b : Nat} {C R : Int} {s : ByteArray} (h : Wa w b C R s) (hs : Still w w') : Wa w' b C R s := hs.kept_still h
theorem Wa.cells {w : World} {b : Nat} {C R : Int} {s : ByteArray} (h : Wa w b C R s) : w.cell? ⟨b, 0, none⟩ = some (.int .i64 C) ∧ w.cell? ⟨b, 1, none⟩ = some (.int .i64 R) ∧ w.cell? ⟨b, 2, none⟩ = some (.string s) ∧ ∀ o, w.frozen? ⟨b, o, none⟩ = false := by
  refine ⟨?_, ?_, ?_, fun o => frozen_of_row w b o _ _ h⟩ <;> (rw [cell_of_row _ _ _ _ _ _ h]; rfl)
abbrev newWa (w : World) (C R : Int) (s : ByteArray) : World := w.alloc (.cells #[.int .i64 C, .int .i64 R, .string s] 54)
theorem newWa_wa (w : World) (C R : Int) (s : ByteArray) : Wa (newWa w C R s) w.heap.size C R s := heap_alloc_new w _
theorem wray_any (C R x y p q X Y : Int) (b : ByteArray) (t : Bool) (hR : ∀ u, Calls Tryd.prog 49 #[ar C R b, pt x y, pt p q] u fun e w' => e = .returned (.tuple #[pt X Y, .bool t]) ∧ Still u w') (w : World) : Calls Tryd.prog 32 #[ar C R b, pt x y, pt p q] w fun e w' => e = .returned (.tuple #[pt X Y, .bool t]) ∧ Still w w' := by
  have A0 := Still.alloc w (.cells #[.int .i64 C, .int .i64 R, .string b] 54)
  have A1 := Still.alloc (newWa w C R b) (.cells #[.int .i64 x, .int .i64 y] 23)
  have A2 := Still.alloc (newP (newWa w C R b) x y) (.cells #[.int .i64 p, .int .i64 q] 23)
  have A3 := Still.alloc (newP (newP (newWa w C R b) x y) p q) (.cells #[.int .i64 0, .int .i64 0] 23)
  have a0 := (((newWa_wa w C R b).still A1).still A2).still A3
  have b0 := ((newP_pb (newWa w C R b) x y).still A2).still A3
  have e0 := (newP_pb (newP (newWa w C R b) x y) p q).still A3
  have d0 := newP_pb (newP (newP (newWa w C R b) x y) p q) 0 0
  simp only [size_alloc] at b0 e0 d0
  have HS0 := hid (((A0.trans A1).trans A2).trans A3)
  clear A0 A1 A2 A3
  have HR := hid hR
  clear hR
  obtain ⟨i0, i1, i2, jf⟩ := a0.cells
  obtain ⟨g0, g1, gf⟩ := b0.cells
  obtain ⟨r0, r1, rf⟩ := e0.cells
  go_enter Tryd.func32, Tryd.ntmps32
  go_wp2_with fail
  refine (HR.out _).mono ?_
  rintro e w1 ⟨rfl, h1⟩
  have d1 := d0.still h1
  have HS1 := hid (HS0.out.trans h1)
  clear h1 a0 b0 e0 d0 HS0 HR i0 i1 i2 jf g0 g1 gf r0 r1 rf
  obtain ⟨k0, k1, kf⟩ := d1.cells
  go_wp2_with fail
  refine bodyPost_ret (Pb.rest (d1.set X Y) rfl _ _ rfl rfl) rfl ⟨rfl, ?_⟩
  exact setP_fr HS1.out _ X Y (.inr (by omega))
set_option maxHeartbeats 1000000 in
theorem fly_may (s : Sh) (C R : Int) (b : ByteArray) (hm : maySB s = false) (w : World) : Calls Tryd.prog 15 #[sv s, ar C R b] w fun e w' => e = .returned (.tuple #[sv zS, .bool false, .int .i64 90]) ∧ Still w w' := by
  have A0 := Still.alloc w (.cells (scs s) 25)
  have A1 := Still.alloc (newS w s) (.cells #[.int .i64 C, .int .i64 R, .string b] 37)
  have A2 := Still.alloc (newA (newS w s) C R b) (.cells (scs zS) 25)
  have A3 := Still.alloc (newS (newA (newS w s) C R b) zS) (.cells (fcs s C R b) 56)
  have p0 := ((newS_sb w s).still A1).still A2
  have o0 := (newA_ab (newS w s) C R b).still A2
  have q0 := (newS_sb (newA (newS w s) C R b) zS).still A3
  have f0 := newF_fb (newS (newA (newS w s) C R b) zS) s C R b
  simp only [size_alloc] at o0 q0 f0
  have HS0 := hid (((A0.trans A1).trans A2).trans A3)
  clear A0 A1 A2 A3
  obtain ⟨c0, c1, c2, c3, c4, c5, c6, c7, cf⟩ := p0.cells
  obtain ⟨i0, i1, i2, jf⟩ := o0.cells
  obtain ⟨m0, m1, m2, m3, m4, m5, m6, m7, m8, m9, m10, mf⟩ := f0.cells
  have H := hid (fun w => mayBe_any s w)
  rw [hm] at H
  clear hm
  go_enter Tryd.func15, Tryd.ntmps15
  go_wp2_with fail
  refine (H.out _).mono ?_
  rintro e w1 ⟨rfl, h1⟩
  have f1 := f0.still h1
  have q1 := q0.still h1
  have HS1 := hid (HS0.out.trans h1)
  clear h1 HS0 p0 o0 q0 f0 c0 c1 c2 c3 c4 c5 c6 c7 cf H i0 i1 i2 jf m0 m1 m2 m3 m4 m5 m6 m7 m8 m9 m10 mf
  obtain ⟨m0, m1, m2, m3, m4, m5, m6, m7, m8, m9, m10, mf⟩ := f1.cells
  obtain ⟨k0, k1, k2, k3, k4, k5, k6, k7, kf⟩ := q1.cells
  go_wp2_with fail
  refine bodyPost_ret (Sb.rest3 (Sb.put q1 _ _ _ _ _ _ _ _) rfl _ _ _ rfl rfl rfl) rfl ⟨rfl, ?_⟩
  repeat (first | refine setC_fr ?_ _ _ _ (by omega) | with_reducible exact HS1.out)
set_option maxHeartbeats 1000000 in
theorem fly_wall (s : Sh) (C R : Int) (b : ByteArray) (X Y : Int) (hm : maySB s = true) (hR : ∀ u, Calls Tryd.prog 32 #[ar C R b, pt s.ax s.ay, pt s.sx s.sy] u fun e w' => e = .returned (.tuple #[pt X Y, .bool true]) ∧ Still u w') (w : World) : Calls Tryd.prog 15 #[sv s, ar C R b] w fun e w' => e = .returned (.tuple #[sv zS, .bool false, .int .i64 0]) ∧ Still w w' := by
  have A0 := Still.alloc w (.cells (scs s) 25)
  have A1 := Still.alloc (newS w s) (.cells #[.int .i64 C, .int .i64 R, .string b] 37)
  have A2 := Still.alloc (newA (newS w s) C R b) (.cells (scs zS) 25)
  have A3 := Still.alloc (newS (newA (newS w s) C R b) zS) (.cells (fcs s C R b) 56)
  have p0 := ((newS_sb w s).still A1).still A2
  have o0 := (newA_ab (newS w s) C R b).still A2
  have q0 := (newS_sb (newA (newS w s) C R b) zS).still A3
  have f0 := newF_fb (newS (newA (newS w s) C R b) zS) s C R b
  simp only [size_alloc] at o0 q0 f0
  have HS0 := hid (((A0.trans A1).trans A2).trans A3)
  clear A0 A1 A2 A3
  obtain ⟨c0, c1, c2, c3, c4, c5, c6, c7, cf⟩ := p0.cells
  obtain ⟨i0, i1, i2, jf⟩ := o0.cells
  obtain ⟨m0, m1, m2, m3, m4, m5, m6, m7, m8, m9, m10, mf⟩ := f0.cells
  have H := hid (fun w => mayBe_any s w)
  rw [hm] at H
  have HR := hid hR
  clear hm hR
  go_enter Tryd.func15, Tryd.ntmps15
  go_wp2_with fail
  refine (H.out _).mono ?_
  rintro e w1 ⟨rfl, h1⟩
  have f1 := f0.still h1
  have q1 := q0.still h1
  have HS1 := hid (HS0.out.trans h1)
  clear h1 HS0 p0 o0 q0 f0 c0 c1 c2 c3 c4 c5 c6 c7 cf H i0 i1 i2 jf m0 m1 m2 m3 m4 m5 m6 m7 m8 m9 m10 mf
  obtain ⟨m0, m1, m2, m3, m4, m5, m6, m7, m8, m9, m10, mf⟩ := f1.cells
  obtain ⟨k0, k1, k2, k3, k4, k5, k6, k7, kf⟩ := q1.cells
  go_wp2_with fail
  refine (HR.out _).mono ?_
  rintro e w2 ⟨rfl, h2⟩
  have A3 := Still.alloc w2 (.cells #[.int .i64 X, .int .i64 Y] 23)
  have f2 := (f1.still h2).still A3
  have q2 := (q1.still h2).still A3
  have x2 : Pb (w2.alloc (.cells #[.int .i64 X, .int .i64 Y] 23)) w2.heap.size X Y := newP_pb w2 X Y
  have HS2 := hid ((HS1.out.trans h2).trans A3)
  clear h2 A3 HS1 f1 q1 HR k0 k1 k2 k3 k4 k5 k6 k7 kf m0 m1 m2 m3 m4 m5 m6 m7 m8 m9 m10 mf
  obtain ⟨m0, m1, m2, m3, m4, m5, m6, m7, m8, m9, m10, mf⟩ := f2.cells
  obtain ⟨k0, k1, k2, k3, k4, k5, k6, k7, kf⟩ := q2.cells
  obtain ⟨d0, d1, df⟩ := x2.cells
  go_wp2_with fail
  refine bodyPost_ret (Sb.rest3 (Sb.put q2 _ _ _ _ _ _ _ _) rfl _ _ _ rfl rfl rfl) rfl ⟨rfl, ?_⟩
  repeat (first | refine setC_fr ?_ _ _ _ (by omega) | with_reducible exact HS2.out)
set_option maxHeartbeats 1000000 in
theorem fly_last (s : Sh) (C R : Int) (b : ByteArray) (X Y : Int) (hm : maySB s = true) (hR : ∀ u, Calls Tryd.prog 32 #[ar C R b, pt s.ax s.ay, pt s.sx s.sy] u fun e w' => e = .returned (.tuple #[pt X Y, .bool false]) ∧ Still u w') (hl : (s.lf == 1) = true) (w : World) : Calls Tryd.prog 15 #[sv s, ar C R b] w fun e w' => e = .returned (.tuple #[sv zS, .bool false, .int .i64 0]) ∧ Still w w' := by
  have A0 := Still.alloc w (.cells (scs s) 25)
  have A1 := Still.alloc (newS w s) (.cells #[.int .i64 C, .int .i64 R, .string b] 37)
  have A2 := Still.alloc (newA (newS w s) C R b) (.cells (scs zS) 25)
  have A3 := Still.alloc (newS (newA (newS w s) C R b) zS) (.cells (fcs s C R b) 56)
  have p0 := ((newS_sb w s).still A1).still A2
  have o0 := (newA_ab (newS w s) C R b).still A2
  have q0 := (newS_sb (newA (newS w s) C R b) zS).still A3
  have f0 := newF_fb (newS (newA (newS w s) C R b) zS) s C R b
  simp only [size_alloc] at o0 q0 f0
  have HS0 := hid (((A0.trans A1).trans A2).trans A3)
  clear A0 A1 A2 A3
  obtain ⟨c0, c1, c2, c3, c4, c5, c6, c7, cf⟩ := p0.cells
  obtain ⟨i0, i1, i2, jf⟩ := o0.cells
  obtain ⟨m0, m1, m2, m3, m4, m5, m6, m7, m8, m9, m10, mf⟩ := f0.cells
  have H := hid (fun w => mayBe_any s w)
  rw [hm] at H
  have HR := hid hR
  have HE := hid (fun w => ends_any s w)
  rw [hl] at HE
  clear hm hR hl
  go_enter Tryd.func15, Tryd.ntmps15
  go_wp2_with fail
  refine (H.out _).mono ?_
  rintro e w1 ⟨rfl, h1⟩
  have f1 := f0.still h1
  have q1 := q0.still h1
  have HS1 := hid (HS0.out.trans h1)
  clear h1 HS0 p0 o0 q0 f0 c0 c1 c2 c3 c4 c5 c6 c7 cf H i0 i1 i2 jf m0 m1 m2 m3 m4 m5 m6 m7 m8 m9 m10 mf
  obtain ⟨m0, m1, m2, m3, m4, m5, m6, m7, m8, m9, m10, mf⟩ := f1.cells
  obtain ⟨k0, k1, k2, k3, k4, k5, k6, k7, kf⟩ := q1.cells
  go_wp2_with fail
  refine (HR.out _).mono ?_
  rintro e w2 ⟨rfl, h2⟩
  have A3 := Still.alloc w2 (.cells #[.int .i64 X, .int .i64 Y] 23)
  have f2 := (f1.still h2).still A3
  have q2 := (q1.still h2).still A3
  have x2 : Pb (w2.alloc (.cells #[.int .i64 X, .int .i64 Y] 23)) w2.heap.size X Y := newP_pb w2 X Y
  have HS2 := hid ((HS1.out.trans h2).trans A3)
  clear h2 A3 HS1 f1 q1 HR k0 k1 k2 k3 k4 k5 k6 k7 kf m0 m1 m2 m3 m4 m5 m6 m7 m8 m9 m10 mf
  obtain ⟨m0, m1, m2, m3, m4, m5, m6, m7, m8, m9, m10, mf⟩ := f2.cells
  obtain ⟨k0, k1, k2, k3, k4, k5, k6, k7, kf⟩ := q2.cells
  obtain ⟨d0, d1, df⟩ := x2.cells
  go_wp2_with fail
  refine (HE.out _).mono ?_
  rintro e w3 ⟨rfl, h3⟩
  have f3 := f2.still h3
  have q3 := q2.still h3
  have x3 := x2.still h3
  have HS3 := hid (HS2.out.trans h3)
  clear h3 HS2 f2 q2 x2 HE k0 k1 k2 k3 k4 k5 k6 k7 kf m0 m1 m2 m3 m4 m5 m6 m7 m8 m9 m10 mf d0 d1 df
  obtain ⟨m0, m1, m2, m3, m4, m5, m6, m7, m8, m9, m10, mf⟩ := f3.cells
  obtain ⟨k0, k1, k2, k3, k4, k5, k6, k7, kf⟩ := q3.cells
  obtain ⟨d0, d1, df⟩ := x3.cells
  go_wp2_with fail
  refine bodyPost_ret (Sb.rest3 (Sb.put q3 _ _ _ _ _ _ _ _) rfl _ _ _ rfl rfl rfl) rfl ⟨rfl, ?_⟩
  repeat (first | refine setC_fr ?_ _ _ _ (by omega) | with_reducible exact HS3.out)
set_option maxHeartbeats 1000000 in
theorem fly_on (s : Sh) (C R : Int) (b : ByteArray) (X Y : Int) (hm : maySB s = true) (hR : ∀ u, Calls Tryd.prog 32 #[ar C R b, pt s.ax s.ay, pt s.sx s.sy] u fun e w' => e = .returned (.tuple #[pt X Y, .bool false]) ∧ Still u w') (hl : (s.lf == 1) = false) (l1 : 1 ≤ s.lf) (l2 : s.lf ≤ 40) (w : World) : Calls Tryd.prog 15 #[sv s, ar C R b] w fun e w' => e = .returned (.tuple #[sv { s with ax := X, ay := Y, lf := s.lf - 1 }, .bool true, .int .i64 0]) ∧ Still w w' := by
  have A0 := Still.alloc w (.cells (scs s) 25)
  have A1 := Still.alloc (newS w s) (.cells #[.int .i64 C, .int .i64 R, .string b] 37)
  have A2 := Still.alloc (newA (newS w s) C R b) (.cells (scs zS) 25)
  have A3 := Still.alloc (newS (newA (newS w s) C R b) zS) (.cells (fcs s C R b) 56)
  have p0 := ((newS_sb w s).still A1).still A2
  have o0 := (newA_ab (newS w s) C R b).still A2
  have q0 := (newS_sb (newA (newS w s) C R b) zS).still A3
  have f0 := newF_fb (newS (newA (newS w s) C R b) zS) s C R b
  simp only [size_alloc] at o0 q0 f0
  have HS0 := hid (((A0.trans A1).trans A2).trans A3)
  clear A0 A1 A2 A3
  obtain ⟨c0, c1, c2, c3, c4, c5, c6, c7, cf⟩ := p0.cells
  obtain ⟨i0, i1, i2, jf⟩ := o0.cells
  obtain ⟨m0, m1, m2, m3, m4, m5, m6, m7, m8, m9, m10, mf⟩ := f0.cells
  have H := hid (fun w => mayBe_any s w)
  rw [hm] at H
  have HR := hid hR
  have HE := hid (fun w => ends_any s w)
  rw [hl] at HE
  have HC := hid (fun w => came_any s X Y l1 l2 w)
  clear hm hR hl
  go_enter Tryd.func15, Tryd.ntmps15
  go_wp2_with fail
  refine (H.out _).mono ?_
  rintro e w1 ⟨rfl, h1⟩
  have f1 := f0.still h1
  have q1 := q0.still h1
  have HS1 := hid (HS0.out.trans h1)
  clear h1 HS0 p0 o0 q0 f0 c0 c1 c2 c3 c4 c5 c6 c7 cf H i0 i1 i2 jf m0 m1 m2 m3 m4 m5 m6 m7 m8 m9 m10 mf
  obtain ⟨m0, m1, m2, m3, m4, m5, m6, m7, m8, m9, m10, mf⟩ := f1.cells
  obtain ⟨k0, k1, k2, k3, k4, k5, k6, k7, kf⟩ := q1.cells
  go_wp2_with fail
  refine (HR.out _).mono ?_
  rintro e w2 ⟨rfl, h2⟩
  have A3 := Still.alloc w2 (.cells #[.int .i64 X, .int .i64 Y] 23)
  have f2 := (f1.still h2).still A3
  have q2 := (q1.still h2).still A3
  have x2 : Pb (w2.alloc (.cells #[.int .i64 X, .int .i64 Y] 23)) w2.heap.size X Y := newP_pb w2 X Y
  have HS2 := hid ((HS1.out.trans h2).trans A3)
  clear h2 A3 HS1 f1 q1 HR k0 k1 k2 k3 k4 k5 k6 k7 kf m0 m1 m2 m3 m4 m5 m6 m7 m8 m9 m10 mf
  obtain ⟨m0, m1, m2, m3, m4, m5, m6, m7, m8, m9, m10, mf⟩ := f2.cells
  obtain ⟨k0, k1, k2, k3, k4, k5, k6, k7, kf⟩ := q2.cells
  obtain ⟨d0, d1, df⟩ := x2.cells
  go_wp2_with fail
  refine (HE.out _).mono ?_
  rintro e w3 ⟨rfl, h3⟩
  have f3 := f2.still h3
  have q3 := q2.still h3
  have x3 := x2.still h3
  have HS3 := hid (HS2.out.trans h3)
  clear h3 HS2 f2 q2 x2 HE k0 k1 k2 k3 k4 k5 k6 k7 kf m0 m1 m2 m3 m4 m5 m6 m7 m8 m9 m10 mf d0 d1 df
  obtain ⟨m0, m1, m2, m3, m4, m5, m6, m7, m8, m9, m10, mf⟩ := f3.cells
  obtain ⟨k0, k1, k2, k3, k4, k5, k6, k7, kf⟩ := q3.cells
  obtain ⟨d0, d1, df⟩ := x3.cells
  go_wp2_with fail
  refine (HC.out _).mono ?_
  rintro e w4 ⟨rfl, h4⟩
  have q4 := q3.still h4
  have HS4 := hid (HS3.out.trans h4)
  clear h4 HS3 f3 q3 x3 HC k0 k1 k2 k3 k4 k5 k6 k7 kf m0 m1 m2 m3 m4 m5 m6 m7 m8 m9 m10 mf d0 d1 df
  obtain ⟨k0, k1, k2, k3, k4, k5, k6, k7, kf⟩ := q4.cells
  go_wp2_with fail
  refine bodyPost_ret (Sb.rest3 (Sb.put q4 _ _ _ _ _ _ _ _) rfl _ _ _ rfl rfl rfl) rfl ⟨rfl, ?_⟩
  repeat (first | refine setC_fr ?_ _ _ _ (by omega) | with_reducible exact HS4.out)
theorem fly_any (s : Sh) (C R : Int) (b : ByteArray) (hz : b.size ≤ 281474976710656) (w : World) : Calls Tryd.prog 15 #[sv s, ar C R b] w fun e w' => e = .returned (.tuple #[sv (flyS (solB C R b) s), .bool (goes (solB C R b) s), .int .i64 (chkS s)]) ∧ Still w w' := by
  cases hm : maySB s with
  | false =>
    have e : chkS s = 90 := by unfold chkS; rw [hm]; rfl
    have e1 : goes (solB C R b) s = false := by unfold goes; rw [hm]; rfl
    have e2 : flyS (solB C R b) s = zS := by unfold flyS; rw [e1]; rfl
    rw [e, e1, e2]
    exact fly_may s C R b hm w
  | true =>
    have e : chkS s = 0 := by unfold chkS; rw [hm]; rfl
    have hR := fun u => ray_any C R s.ax s.ay s.sx s.sy b hz _ _ _ _ (rn s) (rk (solB C R b) s) rfl rfl rfl rfl rfl rfl u
    cases hw : decide (rk (solB C R b) s < rn s) with
    | true =>
      have e1 : goes (solB C R b) s = false := by unfold goes; rw [hw]; simp
      have e2 : flyS (solB C R b) s = zS := by unfold flyS; rw [e1]; rfl
      rw [hw] at hR
      rw [e, e1, e2]
      exact fly_wall s C R b _ _ hm (wray_any _ _ _ _ _ _ _ _ _ _ hR) w
    | false =>
      rw [hw] at hR
      cases hl : s.lf == 1 with
      | true =>
        have e1 : goes (solB C R b) s = false := by unfold goes; rw [hl]; simp
        have e2 : flyS (solB C R b) s = zS := by unfold flyS; rw [e1]; rfl
        rw [e, e1, e2]
        exact fly_last s C R b _ _ hm (wray_any _ _ _ _ _ _ _ _ _ _ hR) hl w
      | false =>
        have e1 : goes (solB C R b) s = true := by unfold goes; rw [hm, hw, hl]; rfl
        have e2 : flyS (solB C R b) s = flown (solB C R b) s := by unfold flyS; rw [e1]; rfl
        rw [e, e1, e2]
        have h := (maySB_iff.1 hm).2.2.2.2.2
        exact fly_on s C R b _ _ hm (wray_any _ _ _ _ _ _ _ _ _ _ hR) hl h.1 h.2 w
theorem cts9_any (w : World) (ht : Tab w) : Cts9 w where
  chk := fun s u _ => chks_any s u
  dam := fun p u _ => (dmgs_any p u).mono fun _ _ h => ⟨h.1, h.2 ▸ Fr.refl _ _⟩
  fir := fun m ow pw no u hu => fire_any m ow pw no u (ht.still hu)
  fly := fun s C R b u hz _ _ => fly_any s C R b hz u
end Go.Proofs.YtmbllkkoanjghaaDoor
