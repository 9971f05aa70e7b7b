/- What the laws ask of the program's functions on movers, as one bundle; the examples. -/
import Derived.Test.YtaalbkmdmocdeaaDoorNq
import Derived.Test.YtaalbkmdmocdeaaDoorNt
import Derived.Test.YtaalbkmdmocdeaaDoorVt
namespace Go.Proofs.YtaalbkmdmocdeaaDoor
open Go.RowKit
open Pu Gp Ap Vp Np
set_option maxRecDepth 100000

theorem Mb.apart {w : World} {g k : Nat} {m : Mv} (h : Mb w g m) (n : Mv) (hk : g ≠ k) : Mb (setM w k n) g m := Mb.other (Mb.other (Mb.other (Mb.other (Mb.other (Mb.other (Mb.other (Mb.other (Mb.other (Mb.other (Mb.other (Mb.other (Mb.other h _ _ _ hk) _ _ _ hk) _ _ _ hk) _ _ _ hk) _ _ _ hk) _ _ _ hk) _ _ _ hk) _ _ _ hk) _ _ _ hk) _ _ _ hk) _ _ _ hk) _ _ _ hk) _ _ _ hk
/-- The program's functions answer as the plain words say, in whatever world follows w. -/
structure Cts8 (w : World) : Prop where
  sta : ∀ x y f u, Still w u → Calls Tryd.prog 10 #[pt x y, .int .i64 f] u fun e w' => e = .returned (mv (startM x y f)) ∧ Still u w'
  chk : ∀ m u, Still w u → Calls Tryd.prog 12 #[mv m] u fun e w' => e = .returned (.int .i64 (chkM m)) ∧ Still u w'
  act : ∀ m v a b c u, Still w u → Calls Tryd.prog 14 #[mv m, od v a b c] u fun e w' => e = .returned (.tuple #[mv (actM m v a b c), .bool (actD m v a b c), .int .i64 (errA m v a b c)]) ∧ Still u w'
  gli : ∀ m C R (s : ByteArray) u, s.size ≤ 281474976710656 → C ≤ 9223372036854775807 → Still w u → Calls Tryd.prog 16 #[mv m, ar C R s] u fun e w' => e = .returned (.tuple #[mv (gliM (solB C R s) m), .int .i64 (chkM m)]) ∧ Still u w'
  hur : ∀ m h u, Still w u → Calls Tryd.prog 18 #[mv m, .int .i64 h] u fun e w' => e = .returned (.tuple #[mv (hurM m h), .bool (hurD m h), .int .i64 (errH m h)]) ∧ Still u w'
  res : ∀ m x y u, Still w u → Calls Tryd.prog 20 #[mv m, pt x y] u fun e w' => e = .returned (.tuple #[mv (resM m x y), .bool (resD m), .int .i64 (chkM m)]) ∧ Still u w'
theorem Cts8.still {w w' : World} (h : Cts8 w) (hs : Still w w') : Cts8 w' :=
  ⟨fun x y f u k => h.sta x y f u (hs.trans k), fun m u k => h.chk m u (hs.trans k), fun m v a b c u k => h.act m v a b c u (hs.trans k), fun m C R s u z y k => h.gli m C R s u z y (hs.trans k), fun m g u k => h.hur m g u (hs.trans k), fun m x y u k => h.res m x y u (hs.trans k)⟩
theorem aw_start : startM 1 2 17 = ⟨1, 2, 0, 0, 0, 0, 1, 100, 50, false, 0, 0, 0⟩ := by kernel_rfl
theorem aw_act : actM ⟨1, 2, 0, 0, 0, 0, 1, 100, 50, false, 0, 0, 0⟩ 4 3 0 0 = ⟨1, 2, 0, 0, 0, 0, 1, 100, 20, false, 12, 0, 0⟩ ∧ actD ⟨1, 2, 0, 0, 0, 0, 1, 100, 50, false, 0, 0, 0⟩ 4 3 0 0 = true ∧ errA ⟨1, 2, 0, 0, 0, 0, 1, 100, 50, false, 0, 0, 0⟩ 4 3 0 0 = 0 := ⟨by kernel_rfl, by kernel_rfl, by kernel_rfl⟩
theorem aw_gli : gliM (solB 0 0 ByteArray.empty) ⟨1, 2, 0, 0, 0, 0, 1, 100, 50, false, 0, 0, 0⟩ = ⟨1, 2, 0, 0, 0, 0, 1, 100, 50, false, 0, 0, 0⟩ ∧ chkM ⟨1, 2, 0, 0, 0, 0, 1, 100, 50, false, 0, 0, 0⟩ = 0 := ⟨by kernel_rfl, by kernel_rfl⟩
theorem aw_hur : hurM ⟨1, 2, 0, 0, 0, 0, 1, 100, 50, false, 0, 0, 0⟩ 45 = ⟨1, 2, 0, 0, 0, 0, 1, 55, 50, false, 0, 0, 0⟩ ∧ hurD ⟨1, 2, 0, 0, 0, 0, 1, 100, 50, false, 0, 0, 0⟩ 45 = false ∧ errH ⟨1, 2, 0, 0, 0, 0, 1, 100, 50, false, 0, 0, 0⟩ 45 = 0 := ⟨by kernel_rfl, by kernel_rfl, by kernel_rfl⟩
theorem aw_res : resM ⟨0, 0, 0, 0, 0, 0, 0, 0, 0, false, 0, 1, 0⟩ 3 0 = ⟨3, 0, 0, 0, 0, 0, 0, 100, 50, false, 0, 0, 0⟩ ∧ resD ⟨0, 0, 0, 0, 0, 0, 0, 0, 0, false, 0, 1, 0⟩ = true ∧ chkM ⟨0, 0, 0, 0, 0, 0, 0, 0, 0, false, 0, 1, 0⟩ = 0 := ⟨by kernel_rfl, by kernel_rfl, by kernel_rfl⟩
theorem aw_chk : chkM zM = 80 := by kernel_rfl
set_option maxHeartbeats 4000000 in
theorem awake8_any (w : World) (C : Cts8 w) : Calls Tryd.prog 9 #[] w fun e w' => e = .returned (.bool true) ∧ Still w w' := by
  have G1 := guard_mv
  have G2 := guard_pt
  have E1 : ∀ w, (binOp .eql 25 (.agg #[.int .i64 1, .int .i64 2, .int .i64 0, .int .i64 0, .int .i64 0, .int .i64 0, .int .i64 1, .int .i64 100, .int .i64 50, .bool false, .int .i64 0, .int .i64 0, .int .i64 0]) (.agg #[.int .i64 1, .int .i64 2, .int .i64 0, .int .i64 0, .int .i64 0, .int .i64 0, .int .i64 1, .int .i64 100, .int .i64 50, .bool false, .int .i64 0, .int .i64 0, .int .i64 0])).run Tryd.prog w = .ok (.bool true) w := eql_mv_t ⟨1, 2, 0, 0, 0, 0, 1, 100, 50, false, 0, 0, 0⟩
  have E2 := eql_pt_t (x := 3) (y := 0) (z := 3) (u := 0) rfl rfl
  go_enter Tryd.func9, Tryd.ntmps9
  go_wp2_with fail
  refine (C.sta 1 2 17 _ (Fr.refl _ _)).mono ?_
  rintro e w1 ⟨rfl, h1⟩
  rw [aw_start]
  have a1 := newM_mb w1 ⟨1, 2, 0, 0, 0, 0, 1, 100, 50, false, 0, 0, 0⟩
  have HS1 := hid (h1.trans (Still.alloc w1 (.cells (mcs ⟨1, 2, 0, 0, 0, 0, 1, 100, 50, false, 0, 0, 0⟩) 25)))
  clear h1
  obtain ⟨c0, c1, c2, c3, c4, c5, c6, c7, c8, c9, c10, c11, c12, cf⟩ := a1.cells
  go_wp2_with fail
  refine (C.act ⟨1, 2, 0, 0, 0, 0, 1, 100, 50, false, 0, 0, 0⟩ 4 3 0 0 _ HS1.out).mono ?_
  rintro e w2 ⟨rfl, h2⟩
  rw [aw_act.1, aw_act.2.1, aw_act.2.2]
  have A2 := Still.alloc w2 (.cells (mcs ⟨1, 2, 0, 0, 0, 0, 1, 100, 20, false, 12, 0, 0⟩) 25)
  have a2 := (a1.still h2).still A2
  have b2 := newM_mb w2 ⟨1, 2, 0, 0, 0, 0, 1, 100, 20, false, 12, 0, 0⟩
  have HS2 := hid ((HS1.out.trans h2).trans A2)
  clear h2 A2 HS1 a1 c0 c1 c2 c3 c4 c5 c6 c7 c8 c9 c10 c11 c12 cf
  obtain ⟨c0, c1, c2, c3, c4, c5, c6, c7, c8, c9, c10, c11, c12, cf⟩ := a2.cells
  go_wp2_with fail
  refine (C.gli ⟨1, 2, 0, 0, 0, 0, 1, 100, 50, false, 0, 0, 0⟩ 0 0 ByteArray.empty _ (by decide) (by decide) HS2.out).mono ?_
  rintro e w3 ⟨rfl, h3⟩
  rw [aw_gli.1, aw_gli.2]
  have A3 := Still.alloc w3 (.cells (mcs ⟨1, 2, 0, 0, 0, 0, 1, 100, 50, false, 0, 0, 0⟩) 25)
  have a3 := (a2.still h3).still A3
  have b3 := (b2.still h3).still A3
  have g3 := newM_mb w3 ⟨1, 2, 0, 0, 0, 0, 1, 100, 50, false, 0, 0, 0⟩
  have HS3 := hid ((HS2.out.trans h3).trans A3)
  clear h3 A3 HS2 a2 b2 c0 c1 c2 c3 c4 c5 c6 c7 c8 c9 c10 c11 c12 cf
  obtain ⟨c0, c1, c2, c3, c4, c5, c6, c7, c8, c9, c10, c11, c12, cf⟩ := a3.cells
  go_wp2_with fail
  refine (C.hur ⟨1, 2, 0, 0, 0, 0, 1, 100, 50, false, 0, 0, 0⟩ 45 _ HS3.out).mono ?_
  rintro e w4 ⟨rfl, h4⟩
  rw [aw_hur.1, aw_hur.2.1, aw_hur.2.2]
  have A4 := Still.alloc w4 (.cells (mcs ⟨1, 2, 0, 0, 0, 0, 1, 55, 50, false, 0, 0, 0⟩) 25)
  have a4 := (a3.still h4).still A4
  have b4 := (b3.still h4).still A4
  have g4 := (g3.still h4).still A4
  have d4 := newM_mb w4 ⟨1, 2, 0, 0, 0, 0, 1, 55, 50, false, 0, 0, 0⟩
  have HS4 := hid ((HS3.out.trans h4).trans A4)
  clear h4 A4 HS3 a3 b3 g3 c0 c1 c2 c3 c4 c5 c6 c7 c8 c9 c10 c11 c12 cf
  go_wp2_with fail
  refine (C.res ⟨0, 0, 0, 0, 0, 0, 0, 0, 0, false, 0, 1, 0⟩ 3 0 _ HS4.out).mono ?_
  rintro e w5 ⟨rfl, h5⟩
  rw [aw_res.1, aw_res.2.1, aw_res.2.2]
  have A5 := Still.alloc w5 (.cells (mcs ⟨3, 0, 0, 0, 0, 0, 0, 100, 50, false, 0, 0, 0⟩) 25)
  have a5 := (a4.still h5).still A5
  have b5 := (b4.still h5).still A5
  have g5 := (g4.still h5).still A5
  have e5 := (d4.still h5).still A5
  have f5 := newM_mb w5 ⟨3, 0, 0, 0, 0, 0, 0, 100, 50, false, 0, 0, 0⟩
  have HS5 := hid ((HS4.out.trans h5).trans A5)
  clear h5 A5 HS4 a4 b4 g4 d4
  obtain ⟨c0, c1, c2, c3, c4, c5, c6, c7, c8, c9, c10, c11, c12, cf⟩ := a5.cells
  obtain ⟨d0, d1, d2, d3, d4, d5, d6, d7, d8, d9, d10, d11, d12, df⟩ := b5.cells
  obtain ⟨i0, i1, i2, i3, i4, i5, i6, i7, i8, i9, i10, i11, i12, jf⟩ := g5.cells
  obtain ⟨k0, k1, k2, k3, k4, k5, k6, k7, k8, k9, k10, k11, k12, kf⟩ := e5.cells
  obtain ⟨r0, r1, r2, r3, r4, r5, r6, r7, r8, r9, r10, r11, r12, rf⟩ := f5.cells
  go_wp2_with fail
  refine (C.chk zM _ HS5.out).mono ?_
  rintro e w6 ⟨rfl, h6⟩
  rw [aw_chk]
  have HS6 := hid (HS5.out.trans h6)
  clear h6 HS5
  go_wp2_with fail
  go_ret
  exact ⟨rfl, HS6.out⟩
end Go.Proofs.YtaalbkmdmocdeaaDoor
