/- The document's line of a note. -/
import Derived.Test.YtdljmpjfiggdiaaDoorWvc
namespace Go.Proofs.YtdljmpjfiggdiaaDoor
open Go.RowKit
set_option maxRecDepth 100000

set_option maxHeartbeats 16000000 in
theorem rline_no (k a b : Int) (h : okN ⟨k, a, b⟩ = false) (w : World) : Calls Tryd.prog 23 #[.agg #[.int .i64 k, .int .i64 a, .int .i64 b]] w fun e w' => e = .returned (.tuple #[.string ByteArray.empty, .bool false]) ∧ Still w w' := by
  have A0 := Still.alloc w (.cells #[.int .i64 k, .int .i64 a, .int .i64 b] 50)
  have p0 : Nvb (w.alloc (.cells #[.int .i64 k, .int .i64 a, .int .i64 b] 50)) w.heap.size ⟨k, a, b⟩ := heap_alloc_new w _
  have HS0 := hid A0
  have HP0 := hid p0
  obtain ⟨W0, eW0⟩ : ∃ X, w.alloc (.cells #[.int .i64 k, .int .i64 a, .int .i64 b] 50) = X := ⟨_, rfl⟩
  rw [eW0] at HS0 HP0
  obtain ⟨c0, c1, c2, cf⟩ := HP0.out.cells
  clear A0 p0
  rcases (show k = 1 ∨ k = 2 ∨ k = 3 ∨ k = 4 ∨ k = 5 ∨ k = 6 ∨ k = 7 ∨ k = 8 ∨ ((k == 1) = false ∧ (k == 2) = false ∧ (k == 3) = false ∧ (k == 4) = false ∧ (k == 5) = false ∧ (k == 6) = false ∧ (k == 7) = false ∧ (k == 8) = false) by simp only [beq_eq_false_iff_ne]; omega) with rfl | rfl | rfl | rfl | rfl | rfl | rfl | rfl | ⟨b1, b2, b3, b4, b5, b6, b7, b8⟩ <;> cases hA : seatB a <;> cases hB : seatB b <;> cases hK : kindB b <;> (first
    | (exfalso; revert h; simp [okN, hA, hB, hK]; done)
    | (clear h
       go_enter Tryd.func23, Tryd.ntmps23
       go_wp2_with (first | (go_at_call 44; refine (rseat_any _ _).mono ?_; rintro e' w' ⟨he', hw'⟩; rw [he', hw']; clear he' hw' e' w') | (go_at_call 45; refine (rkind_any _ _).mono ?_; rintro e' w' ⟨he', hw'⟩; rw [he', hw']; clear he' hw' e' w'))
       go_ret2
       exact ⟨rfl, HS0.out⟩))
set_option maxHeartbeats 4000000 in
theorem rline_1 (a b : Int) (hA : seatB a = true) (hb : I64 b) (w : World) (ht : PTabV w) : Calls Tryd.prog 23 #[.agg #[.int .i64 1, .int .i64 a, .int .i64 b]] w fun e w' => e = .returned (.tuple #[.string ((ltS a.toNat ++ ⟨#[32, 102, 105, 114, 101, 100, 32]⟩) ++ itS b), .bool true]) ∧ Still w w' := by
  have ht0 := ht
  have A0 := Still.alloc w (.cells #[.int .i64 1, .int .i64 a, .int .i64 b] 50)
  have p0 : Nvb (w.alloc (.cells #[.int .i64 1, .int .i64 a, .int .i64 b] 50)) w.heap.size ⟨1, a, b⟩ := heap_alloc_new w _
  have HS0 := hid A0
  have HP0 := hid p0
  have HT := hid ht
  obtain ⟨W0, eW0⟩ : ∃ X, w.alloc (.cells #[.int .i64 1, .int .i64 a, .int .i64 b] 50) = X := ⟨_, rfl⟩
  rw [eW0] at HS0 HP0
  obtain ⟨c0, c1, c2, cf⟩ := HP0.out.cells
  clear A0 p0 ht ht0
  have H1 := hid (fun u => rletter_any a hA u)
  obtain ⟨x1, ex1⟩ : ∃ x, ltS a.toNat = x := ⟨_, rfl⟩
  have X1 := ltS_sz a.toNat
  rw [ex1] at H1 X1 ⊢
  have H2 := hid (fun u (hu : Still w u) => itoaV_any b hb u (HT.out.still hu))
  obtain ⟨x2, ex2⟩ : ∃ x, itS b = x := ⟨_, rfl⟩
  have X2 := itS_sz hb
  rw [ex2] at H2 X2 ⊢
  obtain ⟨y1, f1, z1, s1⟩ := cat_ex (a := x1) (b := ⟨#[32, 102, 105, 114, 101, 100, 32]⟩) (m := 1) (n := 7) X1 (by decide) (by decide)
  obtain ⟨y2, f2, z2, s2⟩ := cat_ex (a := y1) (b := x2) (m := 8) (n := 21) z1 X2 (by decide)
  rw [f1, f2]
  clear f1 f2 z1 z2 ex1 ex2 X1 X2
  cases hB' : seatB b <;> cases hK' : kindB b <;> (first
    | (exfalso; simp_all; done)
    | (go_enter Tryd.func23, Tryd.ntmps23
       go_upto_region 4 with (first | (go_at_call 44; refine (rseat_any _ _).mono ?_; rintro e' w' ⟨he', hw'⟩; rw [he', hw']; clear he' hw' e' w') | (go_at_call 45; refine (rkind_any _ _).mono ?_; rintro e' w' ⟨he', hw'⟩; rw [he', hw']; clear he' hw' e' w'))
       (try clear eW0)
       have k0 := Cl.cell c0
       have k1 := Cl.cell c1
       have k2 := Cl.cell c2
       have hne := Aft.here W0
       have G1 := hid (fun z : Aft W0 => H1.out z.u)
       have G2 := hid (fun z : Aft W0 => H2.out z.u (HS0.out.trans z.s))
       clear c0 c1 c2
       refine region_all (by kernel_rfl) (by kernel_rfl) ?_
       repeat (go_big_quiet_step ((first | (go_at_call 29; with_reducible exact Calls.cl (G1.out _)) | (go_at_call 25; with_reducible exact Calls.cl (G2.out _)))))
       refine wpQuiet_nil ?_
       intro W1 h1
       have HS1 := hid (HS0.out.trans h1)
       clear h1 hne k0 k1 k2 G1 G2
       go_wp2_with fail
       go_ret2
       exact ⟨rfl, HS1.out⟩))
set_option maxHeartbeats 4000000 in
theorem rline_2 (a b : Int) (hA : seatB a = true) (hB : seatB b = true) (w : World) (ht : PTabV w) : Calls Tryd.prog 23 #[.agg #[.int .i64 2, .int .i64 a, .int .i64 b]] w fun e w' => e = .returned (.tuple #[.string ((ltS a.toNat ++ ⟨#[32, 104, 105, 116, 32, 98, 121, 32]⟩) ++ ltS b.toNat), .bool true]) ∧ Still w w' := by
  have ht0 := ht
  have A0 := Still.alloc w (.cells #[.int .i64 2, .int .i64 a, .int .i64 b] 50)
  have p0 : Nvb (w.alloc (.cells #[.int .i64 2, .int .i64 a, .int .i64 b] 50)) w.heap.size ⟨2, a, b⟩ := heap_alloc_new w _
  have HS0 := hid A0
  have HP0 := hid p0
  have HT := hid ht
  obtain ⟨W0, eW0⟩ : ∃ X, w.alloc (.cells #[.int .i64 2, .int .i64 a, .int .i64 b] 50) = X := ⟨_, rfl⟩
  rw [eW0] at HS0 HP0
  obtain ⟨c0, c1, c2, cf⟩ := HP0.out.cells
  clear A0 p0 ht ht0
  have H1 := hid (fun u => rletter_any a hA u)
  obtain ⟨x1, ex1⟩ : ∃ x, ltS a.toNat = x := ⟨_, rfl⟩
  have X1 := ltS_sz a.toNat
  rw [ex1] at H1 X1 ⊢
  have H2 := hid (fun u (_ : Still w u) => rletter_any b hB u)
  obtain ⟨x2, ex2⟩ : ∃ x, ltS b.toNat = x := ⟨_, rfl⟩
  have X2 := ltS_sz b.toNat
  rw [ex2] at H2 X2 ⊢
  obtain ⟨y1, f1, z1, s1⟩ := cat_ex (a := x1) (b := ⟨#[32, 104, 105, 116, 32, 98, 121, 32]⟩) (m := 1) (n := 8) X1 (by decide) (by decide)
  obtain ⟨y2, f2, z2, s2⟩ := cat_ex (a := y1) (b := x2) (m := 9) (n := 1) z1 X2 (by decide)
  rw [f1, f2]
  clear f1 f2 z1 z2 ex1 ex2 X1 X2
  cases hB' : seatB b <;> cases hK' : kindB b <;> (first
    | (exfalso; simp_all; done)
    | (go_enter Tryd.func23, Tryd.ntmps23
       go_upto_region 6 with (first | (go_at_call 44; refine (rseat_any _ _).mono ?_; rintro e' w' ⟨he', hw'⟩; rw [he', hw']; clear he' hw' e' w') | (go_at_call 45; refine (rkind_any _ _).mono ?_; rintro e' w' ⟨he', hw'⟩; rw [he', hw']; clear he' hw' e' w'))
       (try clear eW0)
       have k0 := Cl.cell c0
       have k1 := Cl.cell c1
       have k2 := Cl.cell c2
       have hne := Aft.here W0
       have G1 := hid (fun z : Aft W0 => H1.out z.u)
       have G2 := hid (fun z : Aft W0 => H2.out z.u (HS0.out.trans z.s))
       clear c0 c1 c2
       refine region_all (by kernel_rfl) (by kernel_rfl) ?_
       repeat (go_big_quiet_step ((first | (go_at_call 29; with_reducible exact Calls.cl (G1.out _)) | (go_at_call 29; with_reducible exact Calls.cl (G2.out _)))))
       refine wpQuiet_nil ?_
       intro W1 h1
       have HS1 := hid (HS0.out.trans h1)
       clear h1 hne k0 k1 k2 G1 G2
       go_wp2_with fail
       go_ret2
       exact ⟨rfl, HS1.out⟩))
set_option maxHeartbeats 4000000 in
theorem rline_3 (a b : Int) (hA : seatB a = true) (hB : seatB b = true) (w : World) (ht : PTabV w) : Calls Tryd.prog 23 #[.agg #[.int .i64 3, .int .i64 a, .int .i64 b]] w fun e w' => e = .returned (.tuple #[.string ((ltS a.toNat ++ ⟨#[32, 111, 117, 116, 32, 98, 121, 32]⟩) ++ ltS b.toNat), .bool true]) ∧ Still w w' := by
  have ht0 := ht
  have A0 := Still.alloc w (.cells #[.int .i64 3, .int .i64 a, .int .i64 b] 50)
  have p0 : Nvb (w.alloc (.cells #[.int .i64 3, .int .i64 a, .int .i64 b] 50)) w.heap.size ⟨3, a, b⟩ := heap_alloc_new w _
  have HS0 := hid A0
  have HP0 := hid p0
  have HT := hid ht
  obtain ⟨W0, eW0⟩ : ∃ X, w.alloc (.cells #[.int .i64 3, .int .i64 a, .int .i64 b] 50) = X := ⟨_, rfl⟩
  rw [eW0] at HS0 HP0
  obtain ⟨c0, c1, c2, cf⟩ := HP0.out.cells
  clear A0 p0 ht ht0
  have H1 := hid (fun u => rletter_any a hA u)
  obtain ⟨x1, ex1⟩ : ∃ x, ltS a.toNat = x := ⟨_, rfl⟩
  have X1 := ltS_sz a.toNat
  rw [ex1] at H1 X1 ⊢
  have H2 := hid (fun u (_ : Still w u) => rletter_any b hB u)
  obtain ⟨x2, ex2⟩ : ∃ x, ltS b.toNat = x := ⟨_, rfl⟩
  have X2 := ltS_sz b.toNat
  rw [ex2] at H2 X2 ⊢
  obtain ⟨y1, f1, z1, s1⟩ := cat_ex (a := x1) (b := ⟨#[32, 111, 117, 116, 32, 98, 121, 32]⟩) (m := 1) (n := 8) X1 (by decide) (by decide)
  obtain ⟨y2, f2, z2, s2⟩ := cat_ex (a := y1) (b := x2) (m := 9) (n := 1) z1 X2 (by decide)
  rw [f1, f2]
  clear f1 f2 z1 z2 ex1 ex2 X1 X2
  cases hB' : seatB b <;> cases hK' : kindB b <;> (first
    | (exfalso; simp_all; done)
    | (go_enter Tryd.func23, Tryd.ntmps23
       go_upto_region 8 with (first | (go_at_call 44; refine (rseat_any _ _).mono ?_; rintro e' w' ⟨he', hw'⟩; rw [he', hw']; clear he' hw' e' w') | (go_at_call 45; refine (rkind_any _ _).mono ?_; rintro e' w' ⟨he', hw'⟩; rw [he', hw']; clear he' hw' e' w'))
       (try clear eW0)
       have k0 := Cl.cell c0
       have k1 := Cl.cell c1
       have k2 := Cl.cell c2
       have hne := Aft.here W0
       have G1 := hid (fun z : Aft W0 => H1.out z.u)
       have G2 := hid (fun z : Aft W0 => H2.out z.u (HS0.out.trans z.s))
       clear c0 c1 c2
       refine region_all (by kernel_rfl) (by kernel_rfl) ?_
       repeat (go_big_quiet_step ((first | (go_at_call 29; with_reducible exact Calls.cl (G1.out _)) | (go_at_call 29; with_reducible exact Calls.cl (G2.out _)))))
       refine wpQuiet_nil ?_
       intro W1 h1
       have HS1 := hid (HS0.out.trans h1)
       clear h1 hne k0 k1 k2 G1 G2
       go_wp2_with fail
       go_ret2
       exact ⟨rfl, HS1.out⟩))
set_option maxHeartbeats 4000000 in
theorem rline_4 (a b : Int) (hA : seatB a = true) (w : World) (ht : PTabV w) : Calls Tryd.prog 23 #[.agg #[.int .i64 4, .int .i64 a, .int .i64 b]] w fun e w' => e = .returned (.tuple #[.string (ltS a.toNat ++ ⟨#[32, 98, 97, 99, 107]⟩), .bool true]) ∧ Still w w' := by
  have ht0 := ht
  have A0 := Still.alloc w (.cells #[.int .i64 4, .int .i64 a, .int .i64 b] 50)
  have p0 : Nvb (w.alloc (.cells #[.int .i64 4, .int .i64 a, .int .i64 b] 50)) w.heap.size ⟨4, a, b⟩ := heap_alloc_new w _
  have HS0 := hid A0
  have HP0 := hid p0
  have HT := hid ht
  obtain ⟨W0, eW0⟩ : ∃ X, w.alloc (.cells #[.int .i64 4, .int .i64 a, .int .i64 b] 50) = X := ⟨_, rfl⟩
  rw [eW0] at HS0 HP0
  obtain ⟨c0, c1, c2, cf⟩ := HP0.out.cells
  clear A0 p0 ht ht0
  have H1 := hid (fun u => rletter_any a hA u)
  obtain ⟨x1, ex1⟩ : ∃ x, ltS a.toNat = x := ⟨_, rfl⟩
  have X1 := ltS_sz a.toNat
  rw [ex1] at H1 X1 ⊢
  obtain ⟨y1, f1, z1, s1⟩ := cat_ex (a := x1) (b := ⟨#[32, 98, 97, 99, 107]⟩) (m := 1) (n := 5) X1 (by decide) (by decide)
  rw [f1]
  clear f1 z1 ex1 X1
  cases hB' : seatB b <;> cases hK' : kindB b <;> (first
    | (exfalso; simp_all; done)
    | (go_enter Tryd.func23, Tryd.ntmps23
       go_upto_region 10 with (first | (go_at_call 44; refine (rseat_any _ _).mono ?_; rintro e' w' ⟨he', hw'⟩; rw [he', hw']; clear he' hw' e' w') | (go_at_call 45; refine (rkind_any _ _).mono ?_; rintro e' w' ⟨he', hw'⟩; rw [he', hw']; clear he' hw' e' w'))
       go_wp2_with fail
       refine (H1.out _).mono ?_
       rintro e W1 ⟨rfl, h1⟩
       have HS1 := hid (HS0.out.trans h1)
       clear h1
       go_wp2_with fail
       go_ret2
       exact ⟨rfl, HS1.out⟩))
set_option maxHeartbeats 4000000 in
theorem rline_5 (a b : Int) (hA : seatB a = true) (hK : kindB b = true) (w : World) (ht : PTabV w) : Calls Tryd.prog 23 #[.agg #[.int .i64 5, .int .i64 a, .int .i64 b]] w fun e w' => e = .returned (.tuple #[.string ((ltS a.toNat ++ ⟨#[32, 116, 111, 111, 107, 32]⟩) ++ thgS b), .bool true]) ∧ Still w w' := by
  have ht0 := ht
  have A0 := Still.alloc w (.cells #[.int .i64 5, .int .i64 a, .int .i64 b] 50)
  have p0 : Nvb (w.alloc (.cells #[.int .i64 5, .int .i64 a, .int .i64 b] 50)) w.heap.size ⟨5, a, b⟩ := heap_alloc_new w _
  have HS0 := hid A0
  have HP0 := hid p0
  have HT := hid ht
  obtain ⟨W0, eW0⟩ : ∃ X, w.alloc (.cells #[.int .i64 5, .int .i64 a, .int .i64 b] 50) = X := ⟨_, rfl⟩
  rw [eW0] at HS0 HP0
  obtain ⟨c0, c1, c2, cf⟩ := HP0.out.cells
  clear A0 p0 ht ht0
  have H1 := hid (fun u => rletter_any a hA u)
  obtain ⟨x1, ex1⟩ : ∃ x, ltS a.toNat = x := ⟨_, rfl⟩
  have X1 := ltS_sz a.toNat
  rw [ex1] at H1 X1 ⊢
  have H2 := hid (fun u (_ : Still w u) => rthing_any b u)
  obtain ⟨x2, ex2⟩ : ∃ x, thgS b = x := ⟨_, rfl⟩
  have X2 := thgS_sz b
  rw [ex2] at H2 X2 ⊢
  obtain ⟨y1, f1, z1, s1⟩ := cat_ex (a := x1) (b := ⟨#[32, 116, 111, 111, 107, 32]⟩) (m := 1) (n := 6) X1 (by decide) (by decide)
  obtain ⟨y2, f2, z2, s2⟩ := cat_ex (a := y1) (b := x2) (m := 7) (n := 6) z1 X2 (by decide)
  rw [f1, f2]
  clear f1 f2 z1 z2 ex1 ex2 X1 X2
  cases hB' : seatB b <;> cases hK' : kindB b <;> (first
    | (exfalso; simp_all; done)
    | (go_enter Tryd.func23, Tryd.ntmps23
       go_upto_region 12 with (first | (go_at_call 44; refine (rseat_any _ _).mono ?_; rintro e' w' ⟨he', hw'⟩; rw [he', hw']; clear he' hw' e' w') | (go_at_call 45; refine (rkind_any _ _).mono ?_; rintro e' w' ⟨he', hw'⟩; rw [he', hw']; clear he' hw' e' w'))
       (try clear eW0)
       have k0 := Cl.cell c0
       have k1 := Cl.cell c1
       have k2 := Cl.cell c2
       have hne := Aft.here W0
       have G1 := hid (fun z : Aft W0 => H1.out z.u)
       have G2 := hid (fun z : Aft W0 => H2.out z.u (HS0.out.trans z.s))
       clear c0 c1 c2
       refine region_all (by kernel_rfl) (by kernel_rfl) ?_
       repeat (go_big_quiet_step ((first | (go_at_call 29; with_reducible exact Calls.cl (G1.out _)) | (go_at_call 46; with_reducible exact Calls.cl (G2.out _)))))
       refine wpQuiet_nil ?_
       intro W1 h1
       have HS1 := hid (HS0.out.trans h1)
       clear h1 hne k0 k1 k2 G1 G2
       go_wp2_with fail
       go_ret2
       exact ⟨rfl, HS1.out⟩))
set_option maxHeartbeats 4000000 in
theorem rline_7 (a b : Int) (hA : seatB a = true) (hB : seatB b = true) (w : World) (ht : PTabV w) : Calls Tryd.prog 23 #[.agg #[.int .i64 7, .int .i64 a, .int .i64 b]] w fun e w' => e = .returned (.tuple #[.string ((ltS a.toNat ++ ⟨#[32, 98, 111, 117, 110, 99, 101, 115, 32]⟩) ++ ltS b.toNat), .bool true]) ∧ Still w w' := by
  have ht0 := ht
  have A0 := Still.alloc w (.cells #[.int .i64 7, .int .i64 a, .int .i64 b] 50)
  have p0 : Nvb (w.alloc (.cells #[.int .i64 7, .int .i64 a, .int .i64 b] 50)) w.heap.size ⟨7, a, b⟩ := heap_alloc_new w _
  have HS0 := hid A0
  have HP0 := hid p0
  have HT := hid ht
  obtain ⟨W0, eW0⟩ : ∃ X, w.alloc (.cells #[.int .i64 7, .int .i64 a, .int .i64 b] 50) = X := ⟨_, rfl⟩
  rw [eW0] at HS0 HP0
  obtain ⟨c0, c1, c2, cf⟩ := HP0.out.cells
  clear A0 p0 ht ht0
  have H1 := hid (fun u => rletter_any a hA u)
  obtain ⟨x1, ex1⟩ : ∃ x, ltS a.toNat = x := ⟨_, rfl⟩
  have X1 := ltS_sz a.toNat
  rw [ex1] at H1 X1 ⊢
  have H2 := hid (fun u (_ : Still w u) => rletter_any b hB u)
  obtain ⟨x2, ex2⟩ : ∃ x, ltS b.toNat = x := ⟨_, rfl⟩
  have X2 := ltS_sz b.toNat
  rw [ex2] at H2 X2 ⊢
  obtain ⟨y1, f1, z1, s1⟩ := cat_ex (a := x1) (b := ⟨#[32, 98, 111, 117, 110, 99, 101, 115, 32]⟩) (m := 1) (n := 9) X1 (by decide) (by decide)
  obtain ⟨y2, f2, z2, s2⟩ := cat_ex (a := y1) (b := x2) (m := 10) (n := 1) z1 X2 (by decide)
  rw [f1, f2]
  clear f1 f2 z1 z2 ex1 ex2 X1 X2
  cases hB' : seatB b <;> cases hK' : kindB b <;> (first
    | (exfalso; simp_all; done)
    | (go_enter Tryd.func23, Tryd.ntmps23
       go_upto_region 16 with (first | (go_at_call 44; refine (rseat_any _ _).mono ?_; rintro e' w' ⟨he', hw'⟩; rw [he', hw']; clear he' hw' e' w') | (go_at_call 45; refine (rkind_any _ _).mono ?_; rintro e' w' ⟨he', hw'⟩; rw [he', hw']; clear he' hw' e' w'))
       (try clear eW0)
       have k0 := Cl.cell c0
       have k1 := Cl.cell c1
       have k2 := Cl.cell c2
       have hne := Aft.here W0
       have G1 := hid (fun z : Aft W0 => H1.out z.u)
       have G2 := hid (fun z : Aft W0 => H2.out z.u (HS0.out.trans z.s))
       clear c0 c1 c2
       refine region_all (by kernel_rfl) (by kernel_rfl) ?_
       repeat (go_big_quiet_step ((first | (go_at_call 29; with_reducible exact Calls.cl (G1.out _)) | (go_at_call 29; with_reducible exact Calls.cl (G2.out _)))))
       refine wpQuiet_nil ?_
       intro W1 h1
       have HS1 := hid (HS0.out.trans h1)
       clear h1 hne k0 k1 k2 G1 G2
       go_wp2_with fail
       go_ret2
       exact ⟨rfl, HS1.out⟩))
set_option maxHeartbeats 4000000 in
theorem rline_8 (a b : Int) (hA : seatB a = true) (hb : I64 b) (w : World) (ht : PTabV w) : Calls Tryd.prog 23 #[.agg #[.int .i64 8, .int .i64 a, .int .i64 b]] w fun e w' => e = .returned (.tuple #[.string ((ltS a.toNat ++ ⟨#[32, 115, 97, 121, 115, 32]⟩) ++ itS b), .bool true]) ∧ Still w w' := by
  have ht0 := ht
  have A0 := Still.alloc w (.cells #[.int .i64 8, .int .i64 a, .int .i64 b] 50)
  have p0 : Nvb (w.alloc (.cells #[.int .i64 8, .int .i64 a, .int .i64 b] 50)) w.heap.size ⟨8, a, b⟩ := heap_alloc_new w _
  have HS0 := hid A0
  have HP0 := hid p0
  have HT := hid ht
  obtain ⟨W0, eW0⟩ : ∃ X, w.alloc (.cells #[.int .i64 8, .int .i64 a, .int .i64 b] 50) = X := ⟨_, rfl⟩
  rw [eW0] at HS0 HP0
  obtain ⟨c0, c1, c2, cf⟩ := HP0.out.cells
  clear A0 p0 ht ht0
  have H1 := hid (fun u => rletter_any a hA u)
  obtain ⟨x1, ex1⟩ : ∃ x, ltS a.toNat = x := ⟨_, rfl⟩
  have X1 := ltS_sz a.toNat
  rw [ex1] at H1 X1 ⊢
  have H2 := hid (fun u (hu : Still w u) => itoaV_any b hb u (HT.out.still hu))
  obtain ⟨x2, ex2⟩ : ∃ x, itS b = x := ⟨_, rfl⟩
  have X2 := itS_sz hb
  rw [ex2] at H2 X2 ⊢
  obtain ⟨y1, f1, z1, s1⟩ := cat_ex (a := x1) (b := ⟨#[32, 115, 97, 121, 115, 32]⟩) (m := 1) (n := 6) X1 (by decide) (by decide)
  obtain ⟨y2, f2, z2, s2⟩ := cat_ex (a := y1) (b := x2) (m := 7) (n := 21) z1 X2 (by decide)
  rw [f1, f2]
  clear f1 f2 z1 z2 ex1 ex2 X1 X2
  cases hB' : seatB b <;> cases hK' : kindB b <;> (first
    | (exfalso; simp_all; done)
    | (go_enter Tryd.func23, Tryd.ntmps23
       go_upto_region 18 with (first | (go_at_call 44; refine (rseat_any _ _).mono ?_; rintro e' w' ⟨he', hw'⟩; rw [he', hw']; clear he' hw' e' w') | (go_at_call 45; refine (rkind_any _ _).mono ?_; rintro e' w' ⟨he', hw'⟩; rw [he', hw']; clear he' hw' e' w'))
       (try clear eW0)
       have k0 := Cl.cell c0
       have k1 := Cl.cell c1
       have k2 := Cl.cell c2
       have hne := Aft.here W0
       have G1 := hid (fun z : Aft W0 => H1.out z.u)
       have G2 := hid (fun z : Aft W0 => H2.out z.u (HS0.out.trans z.s))
       clear c0 c1 c2
       refine region_all (by kernel_rfl) (by kernel_rfl) ?_
       repeat (go_big_quiet_step ((first | (go_at_call 29; with_reducible exact Calls.cl (G1.out _)) | (go_at_call 25; with_reducible exact Calls.cl (G2.out _)))))
       refine wpQuiet_nil ?_
       intro W1 h1
       have HS1 := hid (HS0.out.trans h1)
       clear h1 hne k0 k1 k2 G1 G2
       go_wp2_with fail
       go_ret2
       exact ⟨rfl, HS1.out⟩))
set_option maxHeartbeats 4000000 in
theorem rline_6 (a b : Int) (hK : kindB b = true) (ha : I64 a) (w : World) (ht : PTabV w) : Calls Tryd.prog 23 #[.agg #[.int .i64 6, .int .i64 a, .int .i64 b]] w fun e w' => e = .returned (.tuple #[.string (((⟨#[115, 112, 111, 116, 32]⟩ ++ itS a) ++ ⟨#[32]⟩) ++ thgS b), .bool true]) ∧ Still w w' := by
  have ht0 := ht
  have A0 := Still.alloc w (.cells #[.int .i64 6, .int .i64 a, .int .i64 b] 50)
  have p0 : Nvb (w.alloc (.cells #[.int .i64 6, .int .i64 a, .int .i64 b] 50)) w.heap.size ⟨6, a, b⟩ := heap_alloc_new w _
  have HS0 := hid A0
  have HP0 := hid p0
  have HT := hid ht
  obtain ⟨W0, eW0⟩ : ∃ X, w.alloc (.cells #[.int .i64 6, .int .i64 a, .int .i64 b] 50) = X := ⟨_, rfl⟩
  rw [eW0] at HS0 HP0
  obtain ⟨c0, c1, c2, cf⟩ := HP0.out.cells
  clear A0 p0 ht ht0
  have H1 := hid (fun u (hu : Still w u) => itoaV_any a ha u (HT.out.still hu))
  obtain ⟨x1, ex1⟩ : ∃ x, itS a = x := ⟨_, rfl⟩
  have X1 := itS_sz ha
  rw [ex1] at H1 X1 ⊢
  have H2 := hid (fun u => rthing_any b u)
  obtain ⟨x2, ex2⟩ : ∃ x, thgS b = x := ⟨_, rfl⟩
  have X2 := thgS_sz b
  rw [ex2] at H2 X2 ⊢
  obtain ⟨y1, f1, z1, s1⟩ := cat_ex (a := ⟨#[115, 112, 111, 116, 32]⟩) (b := x1) (m := 5) (n := 21) (by decide) X1 (by decide)
  obtain ⟨y2, f2, z2, s2⟩ := cat_ex (a := y1) (b := ⟨#[32]⟩) (m := 26) (n := 1) z1 (by decide) (by decide)
  obtain ⟨y3, f3, z3, s3⟩ := cat_ex (a := y2) (b := x2) (m := 27) (n := 6) z2 X2 (by decide)
  rw [f1, f2, f3]
  clear f1 f2 f3 z1 z2 z3 ex1 ex2 X1 X2
  cases hA' : seatB a <;> cases hB' : seatB b <;> (
    go_enter Tryd.func23, Tryd.ntmps23
    go_upto_region 14 with (first | (go_at_call 44; refine (rseat_any _ _).mono ?_; rintro e' w' ⟨he', hw'⟩; rw [he', hw']; clear he' hw' e' w') | (go_at_call 45; refine (rkind_any _ _).mono ?_; rintro e' w' ⟨he', hw'⟩; rw [he', hw']; clear he' hw' e' w'))
    (try clear eW0)
    have k0 := Cl.cell c0
    have k1 := Cl.cell c1
    have k2 := Cl.cell c2
    have hne := Aft.here W0
    have G1 := hid (fun z : Aft W0 => H1.out z.u (HS0.out.trans z.s))
    have G2 := hid (fun z : Aft W0 => H2.out z.u)
    clear c0 c1 c2
    refine region_all (by kernel_rfl) (by kernel_rfl) ?_
    repeat (go_big_quiet_step ((first | (go_at_call 25; with_reducible exact Calls.cl (G1.out _)) | (go_at_call 46; with_reducible exact Calls.cl (G2.out _)))))
    refine wpQuiet_nil ?_
    intro W1 h1
    have HS1 := hid (HS0.out.trans h1)
    clear h1 hne k0 k1 k2 G1 G2
    go_wp2_with fail
    go_ret2
    exact ⟨rfl, HS1.out⟩)
theorem rline_any (x : Nv) (ha : I64 x.a) (hb : I64 x.b) (w : World) (ht : PTabV w) : Calls Tryd.prog 23 #[.agg (nvcs x)] w fun e w' => e = .returned (.tuple #[.string (if okN x then lnS x else ByteArray.empty), .bool (okN x)]) ∧ Still w w' := by
  obtain ⟨k, a, b⟩ := x
  cases h : okN ⟨k, a, b⟩ with
  | false => exact rline_no k a b h w
  | true =>
    have h' := h
    unfold okN at h'
    simp only [Bool.or_eq_true, Bool.and_eq_true, beq_iff_eq] at h'
    rcases h' with (((((((⟨rfl, h1⟩ | ⟨rfl, h1, h2⟩) | ⟨rfl, h1, h2⟩) | ⟨rfl, h1⟩) | ⟨rfl, h1, h2⟩) | ⟨rfl, h2⟩) | ⟨rfl, h1, h2⟩) | ⟨rfl, h1⟩)
    · exact rline_1 a b h1 hb w ht
    · exact rline_2 a b h1 h2 w ht
    · exact rline_3 a b h1 h2 w ht
    · exact rline_4 a b h1 w ht
    · exact rline_5 a b h1 h2 w ht
    · exact rline_6 a b h2 ha w ht
    · exact rline_7 a b h1 h2 w ht
    · exact rline_8 a b h1 hb w ht
end Go.Proofs.YtdljmpjfiggdiaaDoor
