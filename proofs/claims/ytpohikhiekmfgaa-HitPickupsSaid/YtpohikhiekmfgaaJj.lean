/- The examples. -/
import Derived.Test.YtpohikhiekmfgaaJh
namespace Go.Proofs.Ytpohikhiekmfgaa
open Go.RowKit
open Pu Gp Ap Vp Np Za Ka Ja
set_option maxRecDepth 100000

theorem b11_start : startM 0 0 0 = ⟨0, 0, 0, 0, 0, 0, 0, 100, 50, false, 0, 0, 0⟩ ∧ startM 2560 0 0 = ⟨2560, 0, 0, 0, 0, 0, 0, 100, 50, false, 0, 0, 0⟩ := ⟨by kernel_rfl, by kernel_rfl⟩
theorem b11_bod : bod [⟨0, 0, 0, 0, 0, 0, 0, 100, 50, false, 0, 0, 0⟩, ⟨2560, 0, 0, 0, 0, 0, 0, 100, 50, false, 0, 0, 0⟩] = [(0, 1)] ∧ err11 (togB [⟨0, 0, 0, 0, 0, 0, 0, 100, 50, false, 0, 0, 0⟩, ⟨2560, 0, 0, 0, 0, 0, 0, 100, 50, false, 0, 0, 0⟩]) = 0 := ⟨by kernel_rfl, by kernel_rfl⟩
theorem b11_sho : sho [⟨0, 0, 0, 0, 0, 0, 0, 100, 50, false, 0, 0, 0⟩, ⟨2560, 0, 0, 0, 0, 0, 0, 100, 50, false, 0, 0, 0⟩] [⟨1, 0, 1, 1280, 0, 0, 0, 1⟩] = [(0, 1)] ∧ err11 (shoE [⟨0, 0, 0, 0, 0, 0, 0, 100, 50, false, 0, 0, 0⟩, ⟨2560, 0, 0, 0, 0, 0, 0, 100, 50, false, 0, 0, 0⟩] [⟨1, 0, 1, 1280, 0, 0, 0, 1⟩]) = 0 := ⟨by kernel_rfl, by kernel_rfl⟩
theorem b11_pic : pic [⟨0, 0, 0, 0, 0, 0, 0, 100, 50, false, 0, 0, 0⟩, ⟨2560, 0, 0, 0, 0, 0, 0, 100, 50, false, 0, 0, 0⟩] [⟨1, 0, 1⟩] [(2048, 0)] = [(0, 0)] ∧ err11 (picE [⟨0, 0, 0, 0, 0, 0, 0, 100, 50, false, 0, 0, 0⟩, ⟨2560, 0, 0, 0, 0, 0, 0, 100, 50, false, 0, 0, 0⟩] [⟨1, 0, 1⟩] [(2048, 0)]) = 0 := ⟨by kernel_rfl, by kernel_rfl⟩
theorem b11_apt : aptA ⟨0, 0, 1, 0, 0, 0, 0, 100, 50, false, 0, 0, 0⟩ ⟨2560, 0, 0, 0, 0, 0, 0, 100, 50, false, 0, 0, 0⟩ = ⟨0, 0, 0, 0, 0, 0, 0, 100, 50, false, 0, 0, 0⟩ ∧ aptA ⟨2560, 0, 0, 0, 0, 0, 0, 100, 50, false, 0, 0, 0⟩ ⟨0, 0, 1, 0, 0, 0, 0, 100, 50, false, 0, 0, 0⟩ = ⟨2560, 0, 1, 0, 0, 0, 0, 100, 50, false, 0, 0, 0⟩ ∧ err11 (aptE ⟨0, 0, 1, 0, 0, 0, 0, 100, 50, false, 0, 0, 0⟩ ⟨2560, 0, 0, 0, 0, 0, 0, 100, 50, false, 0, 0, 0⟩) = 0 := ⟨by kernel_rfl, by kernel_rfl, by kernel_rfl⟩
/-- rows of one -/
theorem rd_one {α : Type} (K : Kd α) (e : TypeId) (w : World) (x : α) : RdG K (w.alloc (.cells (K.f x).toArray e)) (some ⟨w.heap.size, 0, none⟩) 1 [x] := by
  have h : OwG K e (w.alloc (.cells (K.f x).toArray e)) w.heap.size (.slice (some ⟨w.heap.size, 0, none⟩) 1 1) ([x] ++ []) := by
    have := World.ownsRow_lit (base := w.heap.size) (e := e) (size := K.k) w (K.f x).toArray 1 (Nat.le_refl _) (by unfold maxLen; omega) (by simp [K.len])
    unfold OwG
    rw [List.append_nil, show K.row [x] = K.f x by simp [Kd.row]]
    exact this
  exact h.rd (show 1 ≤ 281474976710656 by decide)
theorem rdK_one (w : World) (x : Pk) : RdK (w.alloc (.cells (kcs x) 57)) (some ⟨w.heap.size, 0, none⟩) 1 [x] := by
  refine ⟨rfl, by decide, .inr ⟨w.heap.size, 0, rfl, fun i hi => ?_⟩⟩
  obtain rfl : i = 0 := by omega
  have := (newK_kb w x).cells
  exact ⟨this.1, this.2.1, this.2.2.1⟩
set_option maxHeartbeats 8000000 in
theorem awake11_any (w : World) (C : Cts11 w) : Calls Try.prog 8 #[] w fun e w' => e = .returned (.bool true) ∧ Still w w' := by
  have G1 := guard_tv
  have E1 : ∀ w, (binOp .eql 47 (.agg #[.int .i64 0, .int .i64 1]) (.agg #[.int .i64 0, .int .i64 1])).run Try.prog w = .ok (.bool true) w := fun w => eql_tv (0, 1) (0, 1) w
  have E2 : ∀ w, (binOp .eql 47 (.agg #[.int .i64 0, .int .i64 0]) (.agg #[.int .i64 0, .int .i64 0])).run Try.prog w = .ok (.bool true) w := fun w => eql_tv (0, 0) (0, 0) w
  go_enter Try.func8, Try.ntmps8
  go_wp2_with fail
  refine (rstart_any 0 0 0 _).mono ?_
  rintro e w1 ⟨rfl, h1⟩
  rw [b11_start.1]
  have A1 := Still.alloc w1 (.cells (mcs ⟨0, 0, 0, 0, 0, 0, 0, 100, 50, false, 0, 0, 0⟩) 35)
  have m1 := newM_mb w1 ⟨0, 0, 0, 0, 0, 0, 0, 100, 50, false, 0, 0, 0⟩
  have HS1 := hid (h1.trans A1)
  have HG := hid h1.size
  clear h1 A1
  go_wp2_with fail
  refine (rstart_any 2560 0 0 _).mono ?_
  rintro e w2 ⟨rfl, h2⟩
  rw [b11_start.2]
  have A2 := Still.alloc w2 (.cells (mcs ⟨2560, 0, 0, 0, 0, 0, 0, 100, 50, false, 0, 0, 0⟩) 35)
  have m2 := (m1.still h2).still A2
  have n2 := newM_mb w2 ⟨2560, 0, 0, 0, 0, 0, 0, 100, 50, false, 0, 0, 0⟩
  have HS2 := hid ((HS1.out.trans h2).trans A2)
  have HL := hid (show w1.heap.size < w2.heap.size by have := block_lt (m1.still h2); omega)
  clear h2 A2 HS1 m1
  obtain ⟨c0, c1, c2, c3, c4, c5, c6, c7, c8, c9, c10, c11, c12, cf⟩ := m2.cells
  obtain ⟨d0, d1, d2, d3, d4, d5, d6, d7, d8, d9, d10, d11, d12, df⟩ := n2.cells
  have A3 := Still.alloc (newM w2 ⟨2560, 0, 0, 0, 0, 0, 0, 100, 50, false, 0, 0, 0⟩) (.cells #[.int .i64 0, .int .i64 0, .int .i64 0, .int .i64 0, .int .i64 0, .int .i64 0, .int .i64 0, .int .i64 100, .int .i64 50, .bool false, .int .i64 0, .int .i64 0, .int .i64 0, .int .i64 2560, .int .i64 0, .int .i64 0, .int .i64 0, .int .i64 0, .int .i64 0, .int .i64 0, .int .i64 100, .int .i64 50, .bool false, .int .i64 0, .int .i64 0, .int .i64 0] 35)
  have HR3 : Hid (RdG KM ((newM w2 ⟨2560, 0, 0, 0, 0, 0, 0, 100, 50, false, 0, 0, 0⟩).alloc (.cells #[.int .i64 0, .int .i64 0, .int .i64 0, .int .i64 0, .int .i64 0, .int .i64 0, .int .i64 0, .int .i64 100, .int .i64 50, .bool false, .int .i64 0, .int .i64 0, .int .i64 0, .int .i64 2560, .int .i64 0, .int .i64 0, .int .i64 0, .int .i64 0, .int .i64 0, .int .i64 0, .int .i64 100, .int .i64 50, .bool false, .int .i64 0, .int .i64 0, .int .i64 0] 35)) (some ⟨w2.heap.size + 1, 0, none⟩) 2 [⟨0, 0, 0, 0, 0, 0, 0, 100, 50, false, 0, 0, 0⟩, ⟨2560, 0, 0, 0, 0, 0, 0, 100, 50, false, 0, 0, 0⟩]) := hid (by
    have := rd_two (newM w2 ⟨2560, 0, 0, 0, 0, 0, 0, 100, 50, false, 0, 0, 0⟩) ⟨0, 0, 0, 0, 0, 0, 0, 100, 50, false, 0, 0, 0⟩ ⟨2560, 0, 0, 0, 0, 0, 0, 100, 50, false, 0, 0, 0⟩
    rw [size_alloc] at this
    exact this)
  have m3 := m2.still A3
  have n3 := n2.still A3
  have HS3 := hid (HS2.out.trans A3)
  clear A3 HS2
  go_wp2_with fail
  refine (C.bod [⟨0, 0, 0, 0, 0, 0, 0, 100, 50, false, 0, 0, 0⟩, ⟨2560, 0, 0, 0, 0, 0, 0, 100, 50, false, 0, 0, 0⟩] _ 2 2 _ HR3.out (Nat.le_refl _) HS3.out).mono ?_
  rintro e w4 ⟨v4, rfl, o4, h4⟩
  rw [b11_bod.1] at o4
  rw [b11_bod.2]
  obtain ⟨g4, q4, rfl, _, _⟩ := o4.head (by decide)
  have HO4 := hid o4
  have HR4 := hid (HR3.out.still h4)
  have HS4 := hid (HS3.out.trans h4)
  have m4 := m3.still h4
  have n4 := n3.still h4
  have hz4 : w1.heap.size < w4.heap.size := block_lt m4
  clear o4 h4 HS3 HR3 m3 n3 m2 n2 c0 c1 c2 c3 c4 c5 c6 c7 c8 c9 c10 c11 c12 cf d0 d1 d2 d3 d4 d5 d6 d7 d8 d9 d10 d11 d12 df
  have A5 := Still.alloc w4 (.cells #[.int .i64 1, .int .i64 0, .int .i64 1, .int .i64 1280, .int .i64 0, .int .i64 0, .int .i64 0, .int .i64 1] 49)
  have HQ5 : Hid (RdG KS (w4.alloc (.cells #[.int .i64 1, .int .i64 0, .int .i64 1, .int .i64 1280, .int .i64 0, .int .i64 0, .int .i64 0, .int .i64 1] 49)) (some ⟨w4.heap.size, 0, none⟩) 1 [⟨1, 0, 1, 1280, 0, 0, 0, 1⟩]) := hid (rd_one KS 49 w4 ⟨1, 0, 1, 1280, 0, 0, 0, 1⟩)
  have HR5 := hid (HR4.out.still A5)
  have HS5 := hid (HS4.out.trans A5)
  have HO5 := hid (HO4.out.still A5)
  have m5 := m4.still A5
  have n5 := n4.still A5
  clear A5 HR4 HS4 HO4 m4 n4
  go_wp2_with fail
  refine (C.sho [⟨0, 0, 0, 0, 0, 0, 0, 100, 50, false, 0, 0, 0⟩, ⟨2560, 0, 0, 0, 0, 0, 0, 100, 50, false, 0, 0, 0⟩] [⟨1, 0, 1, 1280, 0, 0, 0, 1⟩] _ 2 2 _ 1 1 _ HR5.out HQ5.out (Nat.le_refl _) (Nat.le_refl _) HS5.out).mono ?_
  rintro e w6 ⟨v6, rfl, o6, h6⟩
  rw [b11_sho.1] at o6
  rw [b11_sho.2]
  obtain ⟨g6, q6, rfl, _, _⟩ := o6.head (by decide)
  have A6 := Still.alloc w6 (.cells #[.int .i64 1, .int .i64 0, .int .i64 1] 57)
  have A7 := Still.alloc (w6.alloc (.cells #[.int .i64 1, .int .i64 0, .int .i64 1] 57)) (.cells #[.int .i64 2048, .int .i64 0] 33)
  have A67 := (h6.trans A6).trans A7
  have HQ7 : Hid (RdK ((w6.alloc (.cells #[.int .i64 1, .int .i64 0, .int .i64 1] 57)).alloc (.cells #[.int .i64 2048, .int .i64 0] 33)) (some ⟨w6.heap.size, 0, none⟩) 1 [⟨1, 0, 1⟩]) := hid ((rdK_one w6 ⟨1, 0, 1⟩).still A7)
  have HP7 : Hid (RdG KT ((w6.alloc (.cells #[.int .i64 1, .int .i64 0, .int .i64 1] 57)).alloc (.cells #[.int .i64 2048, .int .i64 0] 33)) (some ⟨w6.heap.size + 1, 0, none⟩) 1 [(2048, 0)]) := hid (by
    have := rd_one KT 33 (w6.alloc (.cells #[.int .i64 1, .int .i64 0, .int .i64 1] 57)) (2048, 0)
    rw [size_alloc] at this
    exact this)
  have HR7 := hid (HR5.out.still A67)
  have HS7 := hid (HS5.out.trans A67)
  have HO7 := hid (HO5.out.still A67)
  have HP6 := hid ((o6.still A6).still A7)
  have m7 := m5.still A67
  have n7 := n5.still A67
  have hz6 : w1.heap.size < w6.heap.size := block_lt (m5.still h6)
  clear o6 h6 A6 A7 A67 HR5 HS5 HO5 HQ5 m5 n5
  go_wp2_with fail
  refine (C.pic [⟨0, 0, 0, 0, 0, 0, 0, 100, 50, false, 0, 0, 0⟩, ⟨2560, 0, 0, 0, 0, 0, 0, 100, 50, false, 0, 0, 0⟩] [⟨1, 0, 1⟩] [(2048, 0)] _ 2 2 _ 1 1 _ 1 1 _ HR7.out HQ7.out HP7.out (Nat.le_refl _) (Nat.le_refl _) (Nat.le_refl _) HS7.out).mono ?_
  rintro e w8 ⟨v8, rfl, o8, h8⟩
  rw [b11_pic.1] at o8
  rw [b11_pic.2]
  obtain ⟨g8, q8, rfl, y8, _⟩ := o8.head (by decide)
  have HO8 := hid (HO7.out.still h8)
  have HP8 := hid (HP6.out.still h8)
  have HQ8 := hid o8
  have HS8 := hid (HS7.out.trans h8)
  have mm8 := m7.still h8
  have nn8 := n7.still h8
  have hlt := HL.out
  have hge := HG.out
  clear o8 h8 HR7 HS7 HO7 HP6 HQ7 HP7 m7 n7
  have m9 := mm8.sp 1 0
  have n9 := (nn8.other w1.heap.size 2 (.int .i64 1) (by omega)).other w1.heap.size 3 (.int .i64 0) (by omega)
  have HS9 := hid (setC_fr (setC_fr HS8.out w1.heap.size 2 (.int .i64 1) hge) w1.heap.size 3 (.int .i64 0) hge)
  have hFr : Fr (fun k => k = w1.heap.size) w8 ((w8.setCell ⟨w1.heap.size, 2, none⟩ (.int .i64 1)).setCell ⟨w1.heap.size, 3, none⟩ (.int .i64 0)) := Fr.setCell (F := fun k => k = w1.heap.size) (Fr.setCell (F := fun k => k = w1.heap.size) (Fr.refl _ w8) _ _ (.inl rfl)) _ _ (.inl rfl)
  have HX : Hid (∀ (v : Value) (M : List (Int × Int)) (B : Nat), w1.heap.size < B → OwG KT 47 w8 B v M → OwG KT 47 ((w8.setCell ⟨w1.heap.size, 2, none⟩ (.int .i64 1)).setCell ⟨w1.heap.size, 3, none⟩ (.int .i64 0)) B v M) := hid (fun v M B hB ho => ho.keep hFr (fun k hk e => by have := (ho.block e).1; omega))
  have o9 := HX.out _ _ _ (by simp only [size_alloc]; omega) HO8.out
  have p9 := HX.out _ _ _ (by simp only [size_alloc]; omega) HP8.out
  have q9 := HX.out _ _ _ (by simp only [size_alloc]; omega) HQ8.out
  obtain ⟨c0, c1, c2, c3, c4, c5, c6, c7, c8, c9, c10, c11, c12, cf⟩ := mm8.cells
  obtain ⟨W9, eW9⟩ : ∃ W, (w8.setCell ⟨w1.heap.size, 2, none⟩ (.int .i64 1)).setCell ⟨w1.heap.size, 3, none⟩ (.int .i64 0) = W := ⟨_, rfl⟩
  rw [eW9] at o9 p9 q9 m9 n9 HS9
  have HO9 := hid o9
  have HP9 := hid p9
  have HQ9 := hid q9
  clear o9 p9 q9 HX hFr HO8 HP8 HQ8 HS8 nn8
  go_upto_region 8 with fail
  clear eW9 mm8 c0 c1 c2 c3 c4 c5 c6 c7 c8 c9 c10 c11 c12 cf
  have m10 : Mb W9 w1.heap.size ⟨0, 0, 1, 0, 0, 0, 0, 100, 50, false, 0, 0, 0⟩ := m9
  clear m9
  obtain ⟨c0, c1, c2, c3, c4, c5, c6, c7, c8, c9, c10, c11, c12, cf⟩ := m10.cells
  obtain ⟨d0, d1, d2, d3, d4, d5, d6, d7, d8, d9, d10, d11, d12, df⟩ := n9.cells
  go_wp2_with fail
  refine (C.apt ⟨0, 0, 1, 0, 0, 0, 0, 100, 50, false, 0, 0, 0⟩ ⟨2560, 0, 0, 0, 0, 0, 0, 100, 50, false, 0, 0, 0⟩ _ HS9.out).mono ?_
  rintro e w10 ⟨rfl, h10⟩
  have HB := hid b11_apt
  rw [b11_apt.2.2]
  obtain ⟨X, eX⟩ : ∃ X, aptA ⟨0, 0, 1, 0, 0, 0, 0, 100, 50, false, 0, 0, 0⟩ ⟨2560, 0, 0, 0, 0, 0, 0, 100, 50, false, 0, 0, 0⟩ = X := ⟨_, rfl⟩
  obtain ⟨Y, eY⟩ : ∃ X, aptA ⟨2560, 0, 0, 0, 0, 0, 0, 100, 50, false, 0, 0, 0⟩ ⟨0, 0, 1, 0, 0, 0, 0, 100, 50, false, 0, 0, 0⟩ = X := ⟨_, rfl⟩
  rw [eX] at HB ⊢
  rw [eY] at HB ⊢
  clear eX eY
  obtain ⟨W1, W2, W3, eW1, eW2, eW3, r1, s2, r3, s3, h3⟩ := pair_ex w10 X Y
  have HS11 := hid ((HS9.out.trans h10).trans h3)
  have HO11 := hid ((HO9.out.still h10).still h3)
  have HP11 := hid ((HP9.out.still h10).still h3)
  have HQ11 := hid ((HQ9.out.still h10).still h3)
  clear h10 h3 HS9 HO9 HP9 HQ9 m10 n9 c0 c1 c2 c3 c4 c5 c6 c7 c8 c9 c10 c11 c12 cf d0 d1 d2 d3 d4 d5 d6 d7 d8 d9 d10 d11 d12 df
  obtain ⟨k0, k1, k2, k3, k4, k5, k6, k7, k8, k9, k10, k11, k12, kf⟩ := r1.cells
  obtain ⟨l0, l1, l2, l3, l4, l5, l6, l7, l8, l9, l10, l11, l12, lf⟩ := s2.cells
  go_upto_region 9 with fail
  clear eW1 eW2 eW3 r1 s2 k0 k1 k2 k3 k4 k5 k6 k7 k8 k9 k10 k11 k12 kf l0 l1 l2 l3 l4 l5 l6 l7 l8 l9 l10 l11 l12 lf
  obtain ⟨c0, c1, c2, c3, c4, c5, c6, c7, c8, c9, c10, c11, c12, cf⟩ := r3.cells
  obtain ⟨d0, d1, d2, d3, d4, d5, d6, d7, d8, d9, d10, d11, d12, df⟩ := s3.cells
  rw [show X.sx = 0 by rw [HB.out.1]] at c2
  rw [show X.hl = 100 by rw [HB.out.1]] at c7
  rw [show Y.sx = 1 by rw [HB.out.2.1]] at d2
  have k0 : W3.cell? ⟨g4, 0, none⟩ = some (.int .i64 0) := (owT HO11.out (i := 0) (by decide)).1
  have k1 : W3.cell? ⟨g4, 1, none⟩ = some (.int .i64 1) := (owT HO11.out (i := 0) (by decide)).2.1
  have k2 : W3.cell? ⟨g6, 0, none⟩ = some (.int .i64 0) := (owT HP11.out (i := 0) (by decide)).1
  have k3 : W3.cell? ⟨g6, 1, none⟩ = some (.int .i64 1) := (owT HP11.out (i := 0) (by decide)).2.1
  have k4 : W3.cell? ⟨g8, 0, none⟩ = some (.int .i64 0) := (owT HQ11.out (i := 0) (by decide)).1
  have k5 : W3.cell? ⟨g8, 1, none⟩ = some (.int .i64 0) := (owT HQ11.out (i := 0) (by decide)).2.1
  go_wp2_with fail
  go_ret
  exact ⟨rfl, HS11.out⟩
end Go.Proofs.Ytpohikhiekmfgaa
