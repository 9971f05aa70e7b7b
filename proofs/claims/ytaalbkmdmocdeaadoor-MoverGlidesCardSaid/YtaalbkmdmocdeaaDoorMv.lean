/- The program's clamp, step, size, part, spare. -/
import Derived.Test.YtaalbkmdmocdeaaDoorMp
import Derived.Test.YtaalbkmdmocdeaaDoorTw
namespace Go.Proofs.YtaalbkmdmocdeaaDoor
open Go.RowKit
open Pu Gp Ap

theorem aclamp_any (n l m : Int) (h : l ≤ m) (w : World) : Calls Tryd.prog 89 #[.int .i64 n, .int .i64 l, .int .i64 m] w fun e w' => e = .returned (.int .i64 (clp n l m)) ∧ w' = w := by
  have e : clp n l m = min (max n l) m := by
    unfold clp
    repeat' split
    all_goals omega
  rw [e]; clear e
  go_enter Tryd.func89, Tryd.ntmps89
  go_wp2
  go_ret
  exact ⟨rfl, rfl⟩
theorem astp (n : Int) (w : World) : Calls Tryd.prog 89 #[.int .i64 n, .int .i64 (-2048), .int .i64 2048] w fun e w' => e = .returned (.int .i64 (stp n)) ∧ w' = w := by
  have := aclamp_any n (-2048) 2048 (by omega) w
  rw [clp_stp] at this
  exact this
theorem aclr (n : Int) (w : World) : Calls Tryd.prog 89 #[.int .i64 n, .int .i64 0, .int .i64 4096] w fun e w' => e = .returned (.int .i64 (clampf n 0 4096)) ∧ w' = w := by
  have := aclamp_any n 0 4096 (by omega) w
  rw [clp_r] at this
  exact this
theorem step_any (x y : Int) (w : World) : Calls Tryd.prog 88 #[pt x y] w fun e w' => e = .returned (pt (stp x) (stp y)) ∧ Still w w' := by
  obtain ⟨W, eW⟩ : ∃ W, W = (newP (newP w x y) 0 0) := ⟨_, rfl⟩
  have p0 : Pb W (w.heap.size) x y := by rw [eW]; have h := newP_pb w x y; exact (h.still (Still.alloc _ _))
  have c00 := Cl.cell p0.cells.1
  have c01 := Cl.cell p0.cells.2.1
  clear p0
  have r : Pb W (w.heap.size + 1) 0 0 := by rw [eW]; have h := newP_pb (newP w x y) 0 0; simp only [size_alloc] at h; exact h
  have HF := hid (show Still w W by rw [eW]; exact ((Still.alloc w _).trans (Still.alloc _ _)))
  have HW := hid eW
  have hne := Aft.here W
  clear eW
  have HB := hid (show w.heap.size ≤ w.heap.size + 1 by omega)
  go_enter Tryd.func88, Tryd.ntmps88
  go_wp2_with fail
  have e := HW.out
  simp only [newP] at e
  rw [← e]
  clear e HW
  refine region_rest 6 (by kernel_rfl) (by kernel_rfl) ?_
  simp only [List.take_succ_cons, List.take_zero, List.drop_succ_cons, List.drop_zero]
  repeat (go_big_quiet_step ((go_at_call 89; exact Calls.cl_same (astp _ _))))
  refine wpQuiet_nil ?_
  intro w1 hs
  clear hne c00 c01
  have q := r.still hs
  obtain ⟨d0, d1, df⟩ := q.cells
  go_wp2_with fail
  (try simp only [Exit.inBlock, Exit.then])
  exact bodyPost_ret ((q.set _ _).res rfl _ rfl) rfl ⟨rfl, setP_fr (HF.out.trans hs) _ _ _ (.inr HB.out)⟩
theorem run_max4 (ts : Array TypeId) (t : TypeId) (p q : Int) (w : World) : (Builtin.max_ ts t #[.int .i64 p, .int .i64 (-p), .int .i64 q, .int .i64 (-q)]).run Tryd.prog w = .ok (.int .i64 ((max p.natAbs q.natAbs : Nat) : Int)) w := by
  have e : (Builtin.max_ ts t #[.int .i64 p, .int .i64 (-p), .int .i64 q, .int .i64 (-q)]).run Tryd.prog w = .ok (.int .i64 (if -q > (if q > (if -p > p then -p else p) then q else (if -p > p then -p else p)) then -q else (if q > (if -p > p then -p else p) then q else (if -p > p then -p else p)))) w := by
    simp [Builtin.max_, Builtin.max2]
  rw [e]
  congr 2
  repeat' split
  all_goals omega
theorem asize_any (p q : Int) (p0 : -2048 ≤ p) (p1 : p ≤ 2048) (q0 : -2048 ≤ q) (q1 : q ≤ 2048) (w : World) : Calls Tryd.prog 105 #[pt p q] w fun e w' => e = .returned (.int .i64 ((max p.natAbs q.natAbs : Nat) : Int)) ∧ Still w w' := by
  have b := newP_pb w p q
  obtain ⟨c0, c1, cf⟩ := b.cells
  simp only [newP] at c0 c1 cf
  have hm := run_max4 #[3, 3, 3, 3] 3 p q
  obtain ⟨V, eV⟩ : ∃ V, ((max p.natAbs q.natAbs : Nat) : Int) = V := ⟨_, rfl⟩
  rw [eV] at hm ⊢
  clear eV
  go_enter Tryd.func105, Tryd.ntmps105
  go_wp2_with fail
  go_ret
  exact ⟨rfl, Still.alloc w _⟩
theorem wrap_q {v : Int} (h0 : -16777216 ≤ v) (h1 : v ≤ 16777216) : IntKind.i64.wrap v = v := by rw [IntKind.wrap_i64]; omega
theorem tdiv_q {v : Int} {n : Nat} (h0 : -16777216 ≤ v) (h1 : v ≤ 16777216) : -16777216 ≤ v.tdiv (n : Int) ∧ v.tdiv (n : Int) ≤ 16777216 := by
  rcases Int.le_total 0 v with h | h
  · rw [Int.tdiv_eq_ediv_of_nonneg h]
    have a : 0 ≤ v / (n : Int) := Int.ediv_nonneg h (by omega)
    have b : v / (n : Int) ≤ v := Int.ediv_le_self _ h
    omega
  · have e : v.tdiv (n : Int) = -((-v) / (n : Int)) := by
      rw [← Int.tdiv_eq_ediv_of_nonneg (show 0 ≤ -v by omega), Int.neg_tdiv]; omega
    have a : 0 ≤ (-v) / (n : Int) := Int.ediv_nonneg (by omega) (by omega)
    have b : (-v) / (n : Int) ≤ -v := Int.ediv_le_self _ (by omega)
    omega
theorem mul_q {p : Int} {k : Nat} (h0 : -2048 ≤ p) (h1 : p ≤ 2048) (hk : k ≤ 8192) : -16777216 ≤ p * (k : Int) ∧ p * (k : Int) ≤ 16777216 := by
  have : (p * (k : Int)).natAbs ≤ 2048 * 8192 := by rw [Int.natAbs_mul]; exact Nat.mul_le_mul (by omega) (by omega)
  omega
set_option maxHeartbeats 1000000 in
theorem apart_any (x y p q : Int) (j n : Nat) (p0 : -2048 ≤ p) (p1 : p ≤ 2048) (q0 : -2048 ≤ q) (q1 : q ≤ 2048) (hj : j ≤ 8192) (hn : 1 ≤ n) (hn2 : n ≤ 2048) (w : World) :
    Calls Tryd.prog 106 #[pt x y, pt p q, .int .i64 (j : Int), .int .i64 (n : Int)] w fun e w' => e = .returned (pt (addf x ((p * (j : Int)).tdiv (n : Int))) (addf y ((q * (j : Int)).tdiv (n : Int)))) ∧ Still w w' := by
  obtain ⟨W, eW⟩ : ∃ W, W = (newP (newP (newP w x y) p q) 0 0) := ⟨_, rfl⟩
  have b0 : Pb W w.heap.size x y := by rw [eW]; exact ((newP_pb w x y).still (Still.alloc _ _)).still (Still.alloc _ _)
  have b1 : Pb W (w.heap.size + 1) p q := by rw [eW]; have h := (newP_pb (newP w x y) p q).still (Still.alloc _ (.cells #[.int .i64 0, .int .i64 0] 23)); simp only [size_alloc] at h; exact h
  have r : Pb W (w.heap.size + 1 + 1) 0 0 := by rw [eW]; have h := newP_pb (newP (newP w x y) p q) 0 0; simp only [size_alloc] at h; exact h
  have HF := hid (show Still w W by rw [eW]; exact ((Still.alloc w _).trans (Still.alloc _ _)).trans (Still.alloc _ _))
  have c0 := Cl.cell b0.cells.1
  have c1 := Cl.cell b0.cells.2.1
  have c2 := Cl.cell b1.cells.1
  have c3 := Cl.cell b1.cells.2.1
  have HW := hid eW
  have hne := Aft.here W
  clear eW b0 b1
  have HB := hid (show w.heap.size ≤ w.heap.size + 1 + 1 by omega)
  obtain ⟨m0, m1⟩ := mul_q p0 p1 hj
  obtain ⟨m2, m3⟩ := mul_q q0 q1 hj
  obtain ⟨d0, d1⟩ := tdiv_q (n := n) m0 m1
  obtain ⟨d2, d3⟩ := tdiv_q (n := n) m2 m3
  have W1 := wrap_q d0 d1
  have W2 := wrap_q d2 d3
  have W3 := wrap_q m0 m1
  have W4 := wrap_q m2 m3
  have nz : ¬ n = 0 := by omega
  clear m0 m1 m2 m3 d0 d1 d2 d3
  go_enter Tryd.func106, Tryd.ntmps106
  go_wp2_with fail
  have e := HW.out
  simp only [newP] at e
  rw [← e]
  clear e HW
  refine region_rest 15 (by kernel_rfl) (by kernel_rfl) ?_
  simp only [List.take_succ_cons, List.take_zero, List.drop_succ_cons, List.drop_zero]
  repeat (go_big_quiet_step ((go_at_call 49; exact Calls.cl (gadd_any _ _ _ _ _))))
  refine wpQuiet_nil ?_
  intro w1 hs
  clear hne c0 c1 c2 c3
  have q := r.still hs
  obtain ⟨d0, d1, df⟩ := q.cells
  go_wp2_with fail
  (try simp only [Exit.inBlock, Exit.then])
  exact bodyPost_ret ((q.set _ _).res rfl _ rfl) rfl ⟨rfl, setP_fr (HF.out.trans hs) _ _ _ (.inr HB.out)⟩
set_option maxHeartbeats 1000000 in
theorem aspare_any (a b c d p q : Int) (w : World) : Calls Tryd.prog 107 #[bx a b c d, pt p q] w fun e w' => e = .returned (.int .i64 (spv a b c d p q)) ∧ Still w w' := by
  have A0 := Still.alloc w (.cells #[.int .i64 a, .int .i64 b, .int .i64 c, .int .i64 d] 50)
  have A1 := Still.alloc (newB w a b c d) (.cells #[.int .i64 p, .int .i64 q] 23)
  have b0 := (newB_bb w a b c d).still A1
  have b1 := newP_pb (newB w a b c d) p q
  simp only [size_alloc] at b1
  have HS0 := hid (A0.trans A1)
  clear A0 A1
  obtain ⟨c0, c1, c2, c3, cf⟩ := b0.cells
  obtain ⟨g0, g1, gf⟩ := b1.cells
  have m1 : 0 ≤ c % 4096 := by omega
  have m2 : c % 4096 < 4096 := by omega
  have m3 : 0 ≤ d % 4096 := by omega
  have m4 : d % 4096 < 4096 := by omega
  unfold spv
  by_cases h1 : 0 < p
  · rw [if_pos h1]
    go_enter Tryd.func107, Tryd.ntmps107
    go_wp2_with (go_at_call 79; refine (incell_any _ _).mono ?_; rintro e w' ⟨he, hw⟩; rw [he, hw]; clear he hw w')
    go_ret
    exact ⟨rfl, HS0.out⟩
  rw [if_neg h1]
  by_cases h2 : p < 0
  · rw [if_pos h2]
    go_enter Tryd.func107, Tryd.ntmps107
    go_wp2_with (go_at_call 79; refine (incell_any _ _).mono ?_; rintro e w' ⟨he, hw⟩; rw [he, hw]; clear he hw w')
    go_ret
    exact ⟨rfl, HS0.out⟩
  rw [if_neg h2]
  by_cases h3 : 0 < q
  · rw [if_pos h3]
    go_enter Tryd.func107, Tryd.ntmps107
    go_wp2_with (go_at_call 79; refine (incell_any _ _).mono ?_; rintro e w' ⟨he, hw⟩; rw [he, hw]; clear he hw w')
    go_ret
    exact ⟨rfl, HS0.out⟩
  rw [if_neg h3]
  go_enter Tryd.func107, Tryd.ntmps107
  go_wp2_with (go_at_call 79; refine (incell_any _ _).mono ?_; rintro e w' ⟨he, hw⟩; rw [he, hw]; clear he hw w')
  go_ret
  exact ⟨rfl, HS0.out⟩
end Go.Proofs.YtaalbkmdmocdeaaDoor
