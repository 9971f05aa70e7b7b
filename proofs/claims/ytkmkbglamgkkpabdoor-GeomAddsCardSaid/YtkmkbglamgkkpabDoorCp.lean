/- A way that is not longer than that; the box around a point. -/
import Derived.Test.YtkmkbglamgkkpabDoorCk
namespace Go.Proofs.YtkmkbglamgkkpabDoor
open Go.RowKit
open Pu Gp

def capf (v f m : Int) : Int := if f ≤ m then v else Gp.part v m (f + 1)
theorem clamp_in (n : Int) : 0 ≤ clampf n 0 2147483647 ∧ clampf n 0 2147483647 ≤ 2147483647 := by
  have h1 : bnd 0 = 0 := by decide
  have h2 : bnd 2147483647 = 2147483647 := by decide
  have h3 := bnd_lo n
  have h4 := bnd_hi n
  unfold clampf
  rw [h1, h2]
  repeat' split
  all_goals omega
theorem wrap_part {x m k : Int} (h0 : -2147483647 ≤ (x * m).tdiv k) (h1 : (x * m).tdiv k ≤ 2147483647) : IntKind.i64.wrap ((x * m).tdiv k) = (x * m).tdiv k := by
  rw [IntKind.wrap_i64]; omega
theorem cap_y (x y m : Int) (h : far (bnd x) (bnd y) ≤ clampf m 0 2147483647) (w : World) : Calls Tryd.prog 16 #[pt x y, .int .i64 m] w fun e w' => e = .returned (pt (bnd x) (bnd y)) ∧ Still w w' := by
  obtain ⟨m0, m1⟩ := clamp_in m
  have x0 := bnd_lo x
  have x1 := bnd_hi x
  have y0 := bnd_lo y
  have y1 := bnd_hi y
  have f0 := (far_ok x0 x1 y0 y1).1
  have f1 := far_hi x0 x1 y0 y1
  have p := (newP_pb w x y).still (Still.alloc (newP w x y) (.cells #[.int .i64 0, .int .i64 0] 23))
  have r := newP_pb (newP w x y) 0 0
  simp only [size_alloc] at r
  have HS0 := hid ((Still.alloc w (.cells #[.int .i64 x, .int .i64 y] 23)).trans (Still.alloc (newP w x y) (.cells #[.int .i64 0, .int .i64 0] 23)))
  have HB := hid (Nat.le_refl w.heap.size)
  have HN := hid (show w.heap.size + 1 ≠ w.heap.size by omega)
  go_enter Tryd.func16, Tryd.ntmps16
  go_wp2_with fail
  refine (gbound_any x y _).mono ?_
  rintro e w1 ⟨rfl, hs1⟩
  have p1 := p.still hs1
  have r1 := r.still hs1
  have HF1 := hid (HS0.out.trans hs1)
  obtain ⟨c0, c1, cf⟩ := p1.cells
  clear p r HS0 hs1
  go_wp2_with (go_at_call 24; refine (size_any _ _).mono ?_; rintro e w' ⟨he, hw⟩; rw [he, hw]; clear he hw w')
  refine (reach_any _ _ (bnd_lo x) (bnd_hi x) (bnd_lo y) (bnd_hi y) _).mono ?_
  rintro e w2 ⟨rfl, hs2⟩
  have p2 := (p1.set (bnd x) (bnd y)).still hs2
  have r2 : Pb w2 (w.heap.size + 1) 0 0 := Pb.still (w := setP w1 w.heap.size (bnd x) (bnd y)) (by
    unfold Pb
    rw [heap_setCell_other _ _ _ _ HN.out, heap_setCell_other _ _ _ _ HN.out]
    exact r1) hs2
  have HF2 := hid (Still.trans (setP_fr HF1.out w.heap.size (bnd x) (bnd y) (.inr HB.out)) hs2)
  have HB1 := hid (show w.heap.size ≤ w.heap.size + 1 by omega)
  obtain ⟨g0, eg⟩ : ∃ g0, w.heap.size = g0 := ⟨_, rfl⟩
  obtain ⟨g1, eg1⟩ : ∃ g1, w.heap.size + 1 = g1 := ⟨_, rfl⟩
  rw [eg1] at r2 HB1 ⊢
  rw [eg] at p2 ⊢
  clear c0 c1 cf p1 r1 HF1 HB HN eg eg1 hs2
  obtain ⟨f, ef⟩ : ∃ f, f = far (bnd x) (bnd y) := ⟨_, rfl⟩
  rw [← ef] at h f0 f1 ⊢
  obtain ⟨c0, c1, cf⟩ := p2.cells
  obtain ⟨d0, d1, df⟩ := r2.cells
  clear p2
  go_wp2_with fail
  (try simp only [Exit.inBlock, Exit.then])
  exact bodyPost_ret ((r2.set _ _).res rfl _ rfl) rfl ⟨rfl, setP_fr HF2.out _ _ _ (.inr HB1.out)⟩
theorem cap_n (x y m : Int) (h : ¬ far (bnd x) (bnd y) ≤ clampf m 0 2147483647) (w : World) : Calls Tryd.prog 16 #[pt x y, .int .i64 m] w fun e w' => e = .returned (pt (Gp.part (bnd x) (clampf m 0 2147483647) (far (bnd x) (bnd y) + 1)) (Gp.part (bnd y) (clampf m 0 2147483647) (far (bnd x) (bnd y) + 1))) ∧ Still w w' := by
  obtain ⟨m0, m1⟩ := clamp_in m
  have x0 := bnd_lo x
  have x1 := bnd_hi x
  have y0 := bnd_lo y
  have y1 := bnd_hi y
  have f0 := (far_ok x0 x1 y0 y1).1
  have f1 := far_hi x0 x1 y0 y1
  obtain ⟨a0, a1⟩ := mul_bd (a := bnd x) (b := clampf m 0 2147483647) x0 x1 (by omega) m1
  obtain ⟨b0, b1⟩ := mul_bd (a := bnd y) (b := clampf m 0 2147483647) y0 y1 (by omega) m1
  obtain ⟨a2, a3⟩ := part_le (x := bnd x) (m := clampf m 0 2147483647) (k := far (bnd x) (bnd y) + 1) m0 (by omega) (by omega) x0 x1
  obtain ⟨b2, b3⟩ := part_le (x := bnd y) (m := clampf m 0 2147483647) (k := far (bnd x) (bnd y) + 1) m0 (by omega) (by omega) y0 y1
  have p := (newP_pb w x y).still (Still.alloc (newP w x y) (.cells #[.int .i64 0, .int .i64 0] 23))
  have r := newP_pb (newP w x y) 0 0
  simp only [size_alloc] at r
  have HS0 := hid ((Still.alloc w (.cells #[.int .i64 x, .int .i64 y] 23)).trans (Still.alloc (newP w x y) (.cells #[.int .i64 0, .int .i64 0] 23)))
  have HB := hid (Nat.le_refl w.heap.size)
  have HN := hid (show w.heap.size + 1 ≠ w.heap.size by omega)
  go_enter Tryd.func16, Tryd.ntmps16
  go_wp2_with fail
  refine (gbound_any x y _).mono ?_
  rintro e w1 ⟨rfl, hs1⟩
  have p1 := p.still hs1
  have r1 := r.still hs1
  have HF1 := hid (HS0.out.trans hs1)
  obtain ⟨c0, c1, cf⟩ := p1.cells
  clear p r HS0 hs1
  go_wp2_with (go_at_call 24; refine (size_any _ _).mono ?_; rintro e w' ⟨he, hw⟩; rw [he, hw]; clear he hw w')
  refine (reach_any _ _ (bnd_lo x) (bnd_hi x) (bnd_lo y) (bnd_hi y) _).mono ?_
  rintro e w2 ⟨rfl, hs2⟩
  have p2 := (p1.set (bnd x) (bnd y)).still hs2
  have r2 : Pb w2 (w.heap.size + 1) 0 0 := Pb.still (w := setP w1 w.heap.size (bnd x) (bnd y)) (by
    unfold Pb
    rw [heap_setCell_other _ _ _ _ HN.out, heap_setCell_other _ _ _ _ HN.out]
    exact r1) hs2
  have HF2 := hid (Still.trans (setP_fr HF1.out w.heap.size (bnd x) (bnd y) (.inr HB.out)) hs2)
  have HB1 := hid (show w.heap.size ≤ w.heap.size + 1 by omega)
  obtain ⟨g0, eg⟩ : ∃ g0, w.heap.size = g0 := ⟨_, rfl⟩
  obtain ⟨g1, eg1⟩ : ∃ g1, w.heap.size + 1 = g1 := ⟨_, rfl⟩
  rw [eg1] at r2 HB1 ⊢
  rw [eg] at p2 ⊢
  clear c0 c1 cf p1 r1 HF1 HB HN eg eg1 hs2
  obtain ⟨f, ef⟩ : ∃ f, f = far (bnd x) (bnd y) := ⟨_, rfl⟩
  rw [← ef] at h f0 f1 a2 a3 b2 b3 ⊢
  obtain ⟨M, eM⟩ : ∃ M, M = clampf m 0 2147483647 := ⟨_, rfl⟩
  obtain ⟨X, eX⟩ : ∃ X, X = bnd x := ⟨_, rfl⟩
  obtain ⟨Y, eY⟩ : ∃ Y, Y = bnd y := ⟨_, rfl⟩
  rw [← eM] at h m0 m1 a0 a1 a2 a3 b0 b1 b2 b3 ⊢
  rw [← eX] at x0 x1 a0 a1 a2 a3 p2 ⊢
  rw [← eY] at y0 y1 b0 b1 b2 b3 p2 ⊢
  have HM := hid eM
  have HX := hid eX
  have HY := hid eY
  have HE := hid ef
  clear eM eX eY ef
  have c0 := Cl.cell p2.cells.1
  have c1 := Cl.cell p2.cells.2.1
  obtain ⟨e0, e1, ef⟩ := p2.cells
  have hne := Aft.here w2
  have W1 := wrap_part a2 a3
  have W2 := wrap_part b2 b3
  clear p2 a2 a3 b2 b3
  go_wp2_with fail
  refine region_rest 14 (by kernel_rfl) (by kernel_rfl) ?_
  simp only [List.take_succ_cons, List.take_zero, List.drop_succ_cons, List.drop_zero]
  repeat (go_big_quiet_step (fail))
  refine wpQuiet_nil ?_
  intro w3 hs
  have q := r2.still hs
  obtain ⟨d0, d1, df⟩ := q.cells
  clear hne c0 c1 e0 e1 ef
  go_wp2_with fail
  (try simp only [Exit.inBlock, Exit.then])
  exact bodyPost_ret ((q.set _ _).res rfl _ rfl) rfl ⟨by rw [HX.out, HY.out, HM.out, HE.out]; rfl, setP_fr (HF2.out.trans hs) _ _ _ (.inr HB1.out)⟩
theorem cap_any (x y m : Int) (w : World) : Calls Tryd.prog 16 #[pt x y, .int .i64 m] w fun e w' => e = .returned (pt (capf (bnd x) (far (bnd x) (bnd y)) (clampf m 0 2147483647)) (capf (bnd y) (far (bnd x) (bnd y)) (clampf m 0 2147483647))) ∧ Still w w' := by
  unfold capf
  by_cases h : far (bnd x) (bnd y) ≤ clampf m 0 2147483647
  · rw [if_pos h, if_pos h]; exact cap_y x y m h w
  · rw [if_neg h, if_neg h]; exact cap_n x y m h w
end Go.Proofs.YtkmkbglamgkkpabDoor
