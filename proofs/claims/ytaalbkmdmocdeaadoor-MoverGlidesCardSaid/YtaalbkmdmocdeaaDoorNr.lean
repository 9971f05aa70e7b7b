/- The laws on orders, motion, harm, rest and starts. -/
import Derived.Test.YtaalbkmdmocdeaaDoorNo
import Derived.Test.YtaalbkmdmocdeaaDoorNx
import Derived.Test.YtaalbkmdmocdeaaDoorNz
namespace Go.Proofs.YtaalbkmdmocdeaaDoor
open Go.RowKit
open Pu Gp Ap Vp Np
set_option maxRecDepth 100000

set_option maxHeartbeats 4000000 in
theorem acts_law (m : Mv) (v a b c : Int) (w : World) (C : Cts8 w) (ht : OTab w) (hu : RTab w) : Calls Tryd.prog 4 #[mv m, od v a b c] w fun e w' => e = .returned (.bool true) ∧ Still w w' := by
  have G1 := guard_mv
  have A0 := Still.alloc w (.cells (mcs m) 25)
  have A1 := Still.alloc (newM w m) (.cells #[.int .i64 v, .int .i64 a, .int .i64 b, .int .i64 c] 32)
  have p0 := (newM_mb w m).still A1
  have o0 := newO_orb (newM w m) v a b c
  simp only [size_alloc] at o0
  have HS0 := hid (A0.trans A1)
  clear A0 A1
  go_enter Tryd.func4, Tryd.ntmps4
  go_wp2_with fail
  refine (awake8_any _ (C.still HS0.out)).mono ?_
  rintro e w1 ⟨rfl, h1⟩
  have p1 := p0.still h1
  have o1 := o0.still h1
  have HS1 := hid (HS0.out.trans h1)
  clear h1 HS0 p0 o0
  obtain ⟨c0, c1, c2, c3, c4, c5, c6, c7, c8, c9, c10, c11, c12, cf⟩ := p1.cells
  obtain ⟨d0, d1, d2, d3, df⟩ := o1.cells
  have H1 := hid (fun u (k : Still w u) => C.act m v a b c u k)
  have H2 := hid (fun u (k : Still w u) => ract_any m v a b c u (ht.still k) (hu.still k))
  obtain ⟨n, en⟩ : ∃ n, actM m v a b c = n := ⟨_, rfl⟩
  obtain ⟨x, ex⟩ : ∃ x, actD m v a b c = x := ⟨_, rfl⟩
  obtain ⟨z, ez⟩ : ∃ z, errA m v a b c = z := ⟨_, rfl⟩
  rw [en, ex, ez] at H1 H2
  have E1 := eql_mv_t n
  clear en ex ez
  go_wp2_with fail
  refine (H1.out _ HS1.out).mono ?_
  rintro e w2 ⟨rfl, h2⟩
  have A2 := Still.alloc w2 (.cells (mcs n) 25)
  have p2 := (p1.still h2).still A2
  have o2 := (o1.still h2).still A2
  have q2 := newM_mb w2 n
  have HS2 := hid ((HS1.out.trans h2).trans A2)
  clear h2 A2 HS1 p1 o1 c0 c1 c2 c3 c4 c5 c6 c7 c8 c9 c10 c11 c12 cf d0 d1 d2 d3 df
  obtain ⟨c0, c1, c2, c3, c4, c5, c6, c7, c8, c9, c10, c11, c12, cf⟩ := p2.cells
  obtain ⟨d0, d1, d2, d3, df⟩ := o2.cells
  go_wp2_with fail
  refine (H2.out _ HS2.out).mono ?_
  rintro e w3 ⟨rfl, h3⟩
  have A3 := Still.alloc w3 (.cells (mcs n) 25)
  have q3 := (q2.still h3).still A3
  have r3 := newM_mb w3 n
  have HS3 := hid ((HS2.out.trans h3).trans A3)
  clear h3 A3 HS2 p2 o2 q2 c0 c1 c2 c3 c4 c5 c6 c7 c8 c9 c10 c11 c12 cf d0 d1 d2 d3 df
  obtain ⟨c0, c1, c2, c3, c4, c5, c6, c7, c8, c9, c10, c11, c12, cf⟩ := q3.cells
  obtain ⟨d0, d1, d2, d3, d4, d5, d6, d7, d8, d9, d10, d11, d12, df⟩ := r3.cells
  go_wp2_with fail
  go_ret
  exact ⟨rfl, HS3.out⟩
set_option maxHeartbeats 4000000 in
theorem glides_law (m : Mv) (C R : Int) (s : ByteArray) (hz : s.size ≤ 281474976710656) (hC : C ≤ 9223372036854775807) (w : World) (C8 : Cts8 w) : Calls Tryd.prog 5 #[mv m, ar C R s] w fun e w' => e = .returned (.bool true) ∧ Still w w' := by
  have G1 := guard_mv
  have A0 := Still.alloc w (.cells (mcs m) 25)
  have A1 := Still.alloc (newM w m) (.cells #[.int .i64 C, .int .i64 R, .string s] 37)
  have p0 := (newM_mb w m).still A1
  have o0 := newA_ab (newM w m) C R s
  simp only [size_alloc] at o0
  have HS0 := hid (A0.trans A1)
  clear A0 A1
  go_enter Tryd.func5, Tryd.ntmps5
  go_wp2_with fail
  refine (awake8_any _ (C8.still HS0.out)).mono ?_
  rintro e w1 ⟨rfl, h1⟩
  have p1 := p0.still h1
  have o1 := o0.still h1
  have HS1 := hid (HS0.out.trans h1)
  clear h1 HS0 p0 o0
  obtain ⟨c0, c1, c2, c3, c4, c5, c6, c7, c8, c9, c10, c11, c12, cf⟩ := p1.cells
  obtain ⟨d0, d1, d2, df⟩ := o1.cells
  have H1 := hid (fun u (k : Still w u) => C8.gli m C R s u hz hC k)
  have H2 := hid (fun u (_ : Still w u) => rglide_any m C R s hz hC u)
  obtain ⟨n, en⟩ : ∃ v0, gliM (solB C R s) m = v0 := ⟨_, rfl⟩
  obtain ⟨z, ez⟩ : ∃ v0, chkM m = v0 := ⟨_, rfl⟩
  rw [en, ez] at H1 H2
  have E1 := eql_mv_t n
  clear en ez
  go_wp2_with fail
  refine (H1.out _ HS1.out).mono ?_
  rintro e w2 ⟨rfl, h2⟩
  have A2 := Still.alloc w2 (.cells (mcs n) 25)
  have p2 := (p1.still h2).still A2
  have o2 := (o1.still h2).still A2
  have q2 := newM_mb w2 n
  have HS2 := hid ((HS1.out.trans h2).trans A2)
  clear h2 A2 HS1 p1 o1 c0 c1 c2 c3 c4 c5 c6 c7 c8 c9 c10 c11 c12 cf d0 d1 d2 df
  obtain ⟨c0, c1, c2, c3, c4, c5, c6, c7, c8, c9, c10, c11, c12, cf⟩ := p2.cells
  obtain ⟨d0, d1, d2, df⟩ := o2.cells
  go_wp2_with fail
  refine (H2.out _ HS2.out).mono ?_
  rintro e w3 ⟨rfl, h3⟩
  have A3 := Still.alloc w3 (.cells (mcs n) 25)
  have q3 := (q2.still h3).still A3
  have r3 := newM_mb w3 n
  have HS3 := hid ((HS2.out.trans h3).trans A3)
  clear h3 A3 HS2 p2 o2 q2 c0 c1 c2 c3 c4 c5 c6 c7 c8 c9 c10 c11 c12 cf d0 d1 d2 df
  obtain ⟨c0, c1, c2, c3, c4, c5, c6, c7, c8, c9, c10, c11, c12, cf⟩ := q3.cells
  obtain ⟨d0, d1, d2, d3, d4, d5, d6, d7, d8, d9, d10, d11, d12, df⟩ := r3.cells
  go_wp2_with fail
  go_ret
  exact ⟨rfl, HS3.out⟩
set_option maxHeartbeats 4000000 in
theorem hurts_law (m : Mv) (h : Int) (w : World) (C8 : Cts8 w) : Calls Tryd.prog 6 #[mv m, .int .i64 h] w fun e w' => e = .returned (.bool true) ∧ Still w w' := by
  have G1 := guard_mv
  have p0 := newM_mb w m
  have HS0 := hid (Still.alloc w (.cells (mcs m) 25))
  go_enter Tryd.func6, Tryd.ntmps6
  go_wp2_with fail
  refine (awake8_any _ (C8.still HS0.out)).mono ?_
  rintro e w1 ⟨rfl, h1⟩
  have p1 := p0.still h1
  have HS1 := hid (HS0.out.trans h1)
  clear h1 HS0 p0
  obtain ⟨c0, c1, c2, c3, c4, c5, c6, c7, c8, c9, c10, c11, c12, cf⟩ := p1.cells
  have H1 := hid (fun u (k : Still w u) => C8.hur m h u k)
  have H2 := hid (fun u (_ : Still w u) => rhurt_any m h u)
  obtain ⟨n, en⟩ : ∃ v0, hurM m h = v0 := ⟨_, rfl⟩
  obtain ⟨x, ex⟩ : ∃ v0, hurD m h = v0 := ⟨_, rfl⟩
  obtain ⟨z, ez⟩ : ∃ v0, errH m h = v0 := ⟨_, rfl⟩
  rw [en, ex, ez] at H1 H2
  have E1 := eql_mv_t n
  clear en ex ez
  go_wp2_with fail
  refine (H1.out _ HS1.out).mono ?_
  rintro e w2 ⟨rfl, h2⟩
  have A2 := Still.alloc w2 (.cells (mcs n) 25)
  have p2 := (p1.still h2).still A2
  have q2 := newM_mb w2 n
  have HS2 := hid ((HS1.out.trans h2).trans A2)
  clear h2 A2 HS1 p1 c0 c1 c2 c3 c4 c5 c6 c7 c8 c9 c10 c11 c12 cf
  obtain ⟨c0, c1, c2, c3, c4, c5, c6, c7, c8, c9, c10, c11, c12, cf⟩ := p2.cells
  go_wp2_with fail
  refine (H2.out _ HS2.out).mono ?_
  rintro e w3 ⟨rfl, h3⟩
  have A3 := Still.alloc w3 (.cells (mcs n) 25)
  have q3 := (q2.still h3).still A3
  have r3 := newM_mb w3 n
  have HS3 := hid ((HS2.out.trans h3).trans A3)
  clear h3 A3 HS2 p2 q2 c0 c1 c2 c3 c4 c5 c6 c7 c8 c9 c10 c11 c12 cf
  obtain ⟨c0, c1, c2, c3, c4, c5, c6, c7, c8, c9, c10, c11, c12, cf⟩ := q3.cells
  obtain ⟨d0, d1, d2, d3, d4, d5, d6, d7, d8, d9, d10, d11, d12, df⟩ := r3.cells
  go_wp2_with fail
  go_ret
  exact ⟨rfl, HS3.out⟩
set_option maxHeartbeats 4000000 in
theorem rests_law (m : Mv) (x y : Int) (w : World) (C8 : Cts8 w) : Calls Tryd.prog 7 #[mv m, pt x y] w fun e w' => e = .returned (.bool true) ∧ Still w w' := by
  have G1 := guard_mv
  have A0 := Still.alloc w (.cells (mcs m) 25)
  have A1 := Still.alloc (newM w m) (.cells #[.int .i64 x, .int .i64 y] 23)
  have p0 := (newM_mb w m).still A1
  have o0 := newP_pb (newM w m) x y
  simp only [size_alloc] at o0
  have HS0 := hid (A0.trans A1)
  clear A0 A1
  go_enter Tryd.func7, Tryd.ntmps7
  go_wp2_with fail
  refine (awake8_any _ (C8.still HS0.out)).mono ?_
  rintro e w1 ⟨rfl, h1⟩
  have p1 := p0.still h1
  have o1 := o0.still h1
  have HS1 := hid (HS0.out.trans h1)
  clear h1 HS0 p0 o0
  obtain ⟨c0, c1, c2, c3, c4, c5, c6, c7, c8, c9, c10, c11, c12, cf⟩ := p1.cells
  obtain ⟨d0, d1, df⟩ := o1.cells
  have H1 := hid (fun u (k : Still w u) => C8.res m x y u k)
  have H2 := hid (fun u (_ : Still w u) => rrest_any m x y u)
  obtain ⟨n, en⟩ : ∃ v0, resM m x y = v0 := ⟨_, rfl⟩
  obtain ⟨b, eb⟩ : ∃ v0, resD m = v0 := ⟨_, rfl⟩
  obtain ⟨z, ez⟩ : ∃ v0, chkM m = v0 := ⟨_, rfl⟩
  rw [en, eb, ez] at H1 H2
  have E1 := eql_mv_t n
  clear en eb ez
  go_wp2_with fail
  refine (H1.out _ HS1.out).mono ?_
  rintro e w2 ⟨rfl, h2⟩
  have A2 := Still.alloc w2 (.cells (mcs n) 25)
  have p2 := (p1.still h2).still A2
  have o2 := (o1.still h2).still A2
  have q2 := newM_mb w2 n
  have HS2 := hid ((HS1.out.trans h2).trans A2)
  clear h2 A2 HS1 p1 o1 c0 c1 c2 c3 c4 c5 c6 c7 c8 c9 c10 c11 c12 cf d0 d1 df
  obtain ⟨c0, c1, c2, c3, c4, c5, c6, c7, c8, c9, c10, c11, c12, cf⟩ := p2.cells
  obtain ⟨d0, d1, df⟩ := o2.cells
  go_wp2_with fail
  refine (H2.out _ HS2.out).mono ?_
  rintro e w3 ⟨rfl, h3⟩
  have A3 := Still.alloc w3 (.cells (mcs n) 25)
  have q3 := (q2.still h3).still A3
  have r3 := newM_mb w3 n
  have HS3 := hid ((HS2.out.trans h3).trans A3)
  clear h3 A3 HS2 p2 o2 q2 c0 c1 c2 c3 c4 c5 c6 c7 c8 c9 c10 c11 c12 cf d0 d1 df
  obtain ⟨c0, c1, c2, c3, c4, c5, c6, c7, c8, c9, c10, c11, c12, cf⟩ := q3.cells
  obtain ⟨d0, d1, d2, d3, d4, d5, d6, d7, d8, d9, d10, d11, d12, df⟩ := r3.cells
  go_wp2_with fail
  go_ret
  exact ⟨rfl, HS3.out⟩
set_option maxHeartbeats 4000000 in
theorem starts_law (x y f : Int) (m : Mv) (w : World) (C8 : Cts8 w) : Calls Tryd.prog 3 #[pt x y, .int .i64 f, mv m] w fun e w' => e = .returned (.bool true) ∧ Still w w' := by
  have G1 := guard_mv
  have A0 := Still.alloc w (.cells #[.int .i64 x, .int .i64 y] 23)
  have A1 := Still.alloc (newP w x y) (.cells (mcs m) 25)
  have p0 := (newP_pb w x y).still A1
  have o0 := newM_mb (newP w x y) m
  simp only [size_alloc] at o0
  have HS0 := hid (A0.trans A1)
  clear A0 A1
  go_enter Tryd.func3, Tryd.ntmps3
  go_wp2_with fail
  refine (awake8_any _ (C8.still HS0.out)).mono ?_
  rintro e w1 ⟨rfl, h1⟩
  have p1 := p0.still h1
  have o1 := o0.still h1
  have HS1 := hid (HS0.out.trans h1)
  clear h1 HS0 p0 o0
  obtain ⟨d0, d1, df⟩ := p1.cells
  obtain ⟨c0, c1, c2, c3, c4, c5, c6, c7, c8, c9, c10, c11, c12, cf⟩ := o1.cells
  have x0 := Cl.cell d0
  have x1 := Cl.cell d1
  have k0 := Cl.cell c0
  have k1 := Cl.cell c1
  have k2 := Cl.cell c2
  have k3 := Cl.cell c3
  have k4 := Cl.cell c4
  have k5 := Cl.cell c5
  have k6 := Cl.cell c6
  have k7 := Cl.cell c7
  have k8 := Cl.cell c8
  have k9 := Cl.cell c9
  have k10 := Cl.cell c10
  have k11 := Cl.cell c11
  have k12 := Cl.cell c12
  clear d0 d1 df c0 c1 c2 c3 c4 c5 c6 c7 c8 c9 c10 c11 c12 cf
  have hne := Aft.here w1
  have H1 := hid (fun z : Aft w1 => C8.sta x y f z.u (HS1.out.trans z.s))
  have H2 := hid (fun z : Aft w1 => rstart_any x y f z.u)
  have H3 := hid (fun z : Aft w1 => C8.chk m z.u (HS1.out.trans z.s))
  have H4 := hid (fun z : Aft w1 => rcheck8_any m z.u)
  obtain ⟨n, en⟩ : ∃ n, startM x y f = n := ⟨_, rfl⟩
  obtain ⟨q, eq⟩ : ∃ q, chkM m = q := ⟨_, rfl⟩
  rw [en] at H1 H2
  rw [eq] at H3 H4
  have E1 := eql_mv_t n
  clear en eq
  go_wp2_with fail
  refine region_all (by kernel_rfl) (by kernel_rfl) ?_
  repeat (go_big_quiet_step ((first | (go_at_call 10; exact Calls.cl (H1.out _)) | (go_at_call 11; exact Calls.cl (H2.out _)) | (go_at_call 12; exact Calls.cl (H3.out _)) | (go_at_call 13; exact Calls.cl (H4.out _)))))
  refine wpQuiet_nil ?_
  intro w2 h2
  go_wp2_with fail
  go_ret
  exact ⟨rfl, HS1.out.trans h2⟩
end Go.Proofs.YtaalbkmdmocdeaaDoor
