/- How far a body comes on one axis: the document's answer. -/
import Derived.Test.YtaalbkmdmocdeaaDoorTo
namespace Go.Proofs.YtaalbkmdmocdeaaDoor
open Go.RowKit
open Pu Gp Ap

theorem around_ok (x y r : Int) (h0 : 0 ≤ r) (h1 : r ≤ 4096) : okb (subf x r) (subf y r) (addf x r) (addf y r) = true := by
  refine okb_of ?_
  have er := bnd_id (n := r) (by omega) (by omega)
  unfold okB subf addf
  exact ⟨bnd_lo _, bnd_hi _, bnd_lo _, bnd_hi _, bnd_lo _, bnd_hi _, bnd_lo _, bnd_hi _, bnd_mono (by omega), bnd_mono (by omega)⟩
theorem raround_r (x y r : Int) (h0 : 0 ≤ r) (h1 : r ≤ 4096) (w : World) : Calls Tryd.prog 91 #[pt x y, .int .i64 r] w fun e w' => e = .returned (bx (subf x r) (subf y r) (addf x r) (addf y r)) ∧ Still w w' := by
  have h := raround_any x y r w
  have e : clampf r 0 2147483647 = r := by
    unfold clampf
    rw [bnd_id (n := r) (by omega) (by omega), show bnd 0 = 0 by decide, show bnd 2147483647 = 2147483647 by decide]
    repeat' split
    all_goals omega
  rw [e] at h
  exact h
theorem setB_ab {w : World} {b g : Nat} {C R : Int} {s : ByteArray} (h : Ab w b C R s) (hb : b ≠ g) (x y z u : Int) : Ab (setB w g x y z u) b C R s := by
  unfold Ab
  rw [heap_setCell_other _ _ _ _ hb, heap_setCell_other _ _ _ _ hb, heap_setCell_other _ _ _ _ hb, heap_setCell_other _ _ _ _ hb]
  exact h
theorem setB_pb {w : World} {b g : Nat} {p q : Int} (h : Pb w b p q) (hb : b ≠ g) (x y z u : Int) : Pb (setB w g x y z u) b p q := by
  unfold Pb
  rw [heap_setCell_other _ _ _ _ hb, heap_setCell_other _ _ _ _ hb, heap_setCell_other _ _ _ _ hb, heap_setCell_other _ _ _ _ hb]
  exact h
theorem setB_bb {w : World} {b g : Nat} {p q p' q' : Int} (h : Bb w b p q p' q') (hb : b ≠ g) (x y z u : Int) : Bb (setB w g x y z u) b p q p' q' := by
  unfold Bb
  rw [heap_setCell_other _ _ _ _ hb, heap_setCell_other _ _ _ _ hb, heap_setCell_other _ _ _ _ hb, heap_setCell_other _ _ _ _ hb]
  exact h
theorem eql_bx_is {x y z u x' y' z' u' : Int} {t : Bool} (h : ((x == x' && y == y') && (z == z' && u == u')) = t) (w : World) : (binOp .eql 50 (bx x y z u) (bx x' y' z' u')).run Tryd.prog w = .ok (.bool t) w := by
  rw [eql_bx, h]
/-- does a body touch -/
theorem rtouched (C R x y r : Int) (s : ByteArray) (hz : s.size ≤ 281474976710656) (hC : C ≤ 9223372036854775807) (h0 : 0 ≤ r) (h1 : r ≤ 4096) {t : Bool} (h : bdy (solB C R s) r x y = t) (w : World) :
    Calls Tryd.prog 93 #[ar C R s, bx (subf x r) (subf y r) (addf x r) (addf y r)] w fun e w' => e = .returned (.bool t) ∧ Still w w' := by
  have k := rtouches_any C R (subf x r) (subf y r) (addf x r) (addf y r) s hz hC w
  unfold touB at k
  rw [around_ok x y r h0 h1, Bool.true_and] at k
  unfold bdy at h
  rw [h] at k
  exact k
/-- the cells of a body's box, and the box of those of the step ahead -/
def cl1 (x r : Int) : Int := dn (subf x r)
def cl2 (x r : Int) : Int := dn (addf x r)
theorem bdy_cells {sol : Int → Int → Bool} {r x y x' y' : Int} (h1 : cl1 x r = cl1 x' r) (h2 : cl1 y r = cl1 y' r) (h3 : cl2 x r = cl2 x' r) (h4 : cl2 y r = cl2 y' r) : bdy sol r x y = bdy sol r x' y' := by
  unfold bdy tch
  unfold cl1 cl2 at *
  rw [h1, h2, h3, h4]
/-- where a body is at the j-th step -/
def atS (x s : Int) (j : Nat) : Int := addf x (s * (j : Int))
def lastC (f : Nat → Int) (k : Nat) : Int := if k ≤ 1 then 0 else f (k - 1)
set_option maxHeartbeats 4000000 in
set_option maxRecDepth 100000 in
theorem ralong_any (C R x y a b r : Int) (s : ByteArray) (n : Nat) (hz : s.size ≤ 281474976710656) (hC : C ≤ 9223372036854775807) (r0 : 0 ≤ r) (r1 : r ≤ 4096) (a0 : -1 ≤ a) (a1 : a ≤ 1) (b0 : -1 ≤ b) (b1 : b ≤ 1) (hn : n ≤ 2048) (w : World) :
    Calls Tryd.prog 75 #[ar C R s, pt x y, pt a b, .int .i64 (n : Int), .int .i64 r] w fun e w' => e = .returned (.int .i64 (go (fun j => bdy (solB C R s) r (atS x a j) (atS y b j)) n : Nat)) ∧ Still w w' := by
  obtain ⟨t, et⟩ : ∃ t : Nat → Bool, t = fun j => bdy (solB C R s) r (atS x a j) (atS y b j) := ⟨_, rfl⟩
  have HT := hid (show ∀ j, t j = bdy (solB C R s) r (atS x a j) (atS y b j) from fun j => by rw [et])
  rw [← et]
  clear et
  have p := ((newA_ab w C R s).still (Still.alloc (newA w C R s) (.cells #[.int .i64 x, .int .i64 y] 23))).still (Still.alloc (newP (newA w C R s) x y) (.cells #[.int .i64 a, .int .i64 b] 23)) |>.still (Still.alloc (newP (newP (newA w C R s) x y) a b) (.cells #[.int .i64 0, .int .i64 0, .int .i64 0, .int .i64 0] 50))
  have q := ((newP_pb (newA w C R s) x y).still (Still.alloc (newP (newA w C R s) x y) (.cells #[.int .i64 a, .int .i64 b] 23))).still (Still.alloc (newP (newP (newA w C R s) x y) a b) (.cells #[.int .i64 0, .int .i64 0, .int .i64 0, .int .i64 0] 50))
  have v := (newP_pb (newP (newA w C R s) x y) a b).still (Still.alloc (newP (newP (newA w C R s) x y) a b) (.cells #[.int .i64 0, .int .i64 0, .int .i64 0, .int .i64 0] 50))
  have l := newB_bb (newP (newP (newA w C R s) x y) a b) 0 0 0 0
  simp only [size_alloc] at q v l
  have HS0 := hid ((((Still.alloc w (.cells #[.int .i64 C, .int .i64 R, .string s] 37)).trans (Still.alloc (newA w C R s) (.cells #[.int .i64 x, .int .i64 y] 23))).trans (Still.alloc (newP (newA w C R s) x y) (.cells #[.int .i64 a, .int .i64 b] 23))).trans (Still.alloc (newP (newP (newA w C R s) x y) a b) (.cells #[.int .i64 0, .int .i64 0, .int .i64 0, .int .i64 0] 50)))
  obtain ⟨W, eW⟩ : ∃ W, W = newB (newP (newP (newA w C R s) x y) a b) 0 0 0 0 := ⟨_, rfl⟩
  simp only [newP, newB, newA] at p q v l HS0 eW
  rw [← eW] at p q v l HS0
  have HW := hid eW
  clear eW
  go_enter Tryd.func75, Tryd.ntmps75
  go_wp2_with fail
  rw [← HW.out]
  clear HW
  go_loopw [12] (fun vk wr => ∃ k : Nat, 1 ≤ k ∧ k ≤ n + 1 ∧ vk = .int .i64 (k : Int) ∧ (∀ j, 1 ≤ j → j < k → t j = false) ∧ Ab wr w.heap.size C R s ∧ Pb wr (w.heap.size + 1) x y ∧ Pb wr (w.heap.size + 1 + 1) a b ∧
      Bb wr (w.heap.size + 1 + 1 + 1) (lastC (fun j => cl1 (atS x a j) r) k) (lastC (fun j => cl1 (atS y b j) r) k) (lastC (fun j => cl2 (atS x a j) r) k) (lastC (fun j => cl2 (atS y b j) r) k) ∧ Still w wr) (fun vk _ => n + 1 - (intOf vk).toNat)
  case atStart => exact ⟨1, by omega, by omega, rfl, fun j h1 h2 => by omega, p, q, v, l, HS0.out⟩
  case round =>
    obtain ⟨k, k1, k2, rfl, hfree, p2, q2, v2, l2, hs⟩ := hrel
    have HF := hid hfree
    have HS := hid hs
    clear hfree hs p q v l HS0
    by_cases hlt : k ≤ n
    · obtain ⟨c0, c1, cf⟩ := q2.cells
      obtain ⟨d0, d1, df⟩ := v2.cells
      have ka : -2048 ≤ a * (k : Int) ∧ a * (k : Int) ≤ 2048 := by
        have : a = -1 ∨ a = 0 ∨ a = 1 := by omega
        rcases this with rfl | rfl | rfl <;> omega
      have kb : -2048 ≤ b * (k : Int) ∧ b * (k : Int) ≤ 2048 := by
        have : b = -1 ∨ b = 0 ∨ b = 1 := by omega
        rcases this with rfl | rfl | rfl <;> omega
      obtain ⟨ka0, ka1⟩ := ka
      obtain ⟨kb0, kb1⟩ := kb
      go_wp2_with fail
      refine (rgadd_any x y _ _ _).mono ?_
      rintro e w1 ⟨rfl, h1⟩
      go_wp2_with fail
      refine (raround_r _ _ r r0 r1 _).mono ?_
      rintro e w2 ⟨rfl, h2⟩
      have h12 := h1.trans h2
      clear h1 h2
      go_wp2_with fail
      obtain ⟨X1, eX1⟩ : ∃ X1, subf (addf x (a * (k : Int))) r = X1 := ⟨_, rfl⟩
      obtain ⟨Y1, eY1⟩ : ∃ Y1, subf (addf y (b * (k : Int))) r = Y1 := ⟨_, rfl⟩
      obtain ⟨X2, eX2⟩ : ∃ X2, addf (addf x (a * (k : Int))) r = X2 := ⟨_, rfl⟩
      obtain ⟨Y2, eY2⟩ : ∃ Y2, addf (addf y (b * (k : Int))) r = Y2 := ⟨_, rfl⟩
      have bx1 : -2147483647 ≤ X1 ∧ X1 ≤ 2147483647 := by rw [← eX1]; exact ⟨bnd_lo _, bnd_hi _⟩
      have by1 : -2147483647 ≤ Y1 ∧ Y1 ≤ 2147483647 := by rw [← eY1]; exact ⟨bnd_lo _, bnd_hi _⟩
      have bx2 : -2147483647 ≤ X2 ∧ X2 ≤ 2147483647 := by rw [← eX2]; exact ⟨bnd_lo _, bnd_hi _⟩
      have by2 : -2147483647 ≤ Y2 ∧ Y2 ≤ 2147483647 := by rw [← eY2]; exact ⟨bnd_lo _, bnd_hi _⟩
      have HX := hid (show (cl1 (atS x a k) r = dn X1 ∧ cl1 (atS y b k) r = dn Y1) ∧ (cl2 (atS x a k) r = dn X2 ∧ cl2 (atS y b k) r = dn Y2) by
        rw [← eX1, ← eY1, ← eX2, ← eY2]; exact ⟨⟨rfl, rfl⟩, ⟨rfl, rfl⟩⟩)
      have HQ : Hid (∀ v : Bool, t k = v → ∀ u : World, Calls Tryd.prog 93 #[ar C R s, bx X1 Y1 X2 Y2] u fun e w' => e = .returned (.bool v) ∧ Still u w') := hid (fun v hv u => by
        rw [← eX1, ← eY1, ← eX2, ← eY2]
        exact rtouched C R (atS x a k) (atS y b k) r s hz hC r0 r1 ((HT.out k).symm.trans hv) u)
      rw [eX1, eY1, eX2, eY2]
      clear eX1 eY1 eX2 eY2
      have A3 := Still.alloc w2 (.cells #[.int .i64 X1, .int .i64 Y1, .int .i64 X2, .int .i64 Y2] 50)
      have p3 := (p2.still h12).still A3
      have q3 := (q2.still h12).still A3
      have v3 := (v2.still h12).still A3
      have l3 := (l2.still h12).still A3
      have b3 := newB_bb w2 X1 Y1 X2 Y2
      have HS3 := hid ((HS.out.trans h12).trans A3)
      simp only [newB] at b3
      obtain ⟨W3, eW3⟩ : ∃ W3, w2.alloc (.cells #[.int .i64 X1, .int .i64 Y1, .int .i64 X2, .int .i64 Y2] 50) = W3 := ⟨_, rfl⟩
      have NB : w.heap.size + 1 + 1 + 1 < w2.heap.size := by
        have := block_lt (l2.still h12)
        exact this
      rw [eW3] at p3 q3 v3 l3 b3 HS3 ⊢
      clear eW3 A3 p2 q2 v2 l2 h12 HS c0 c1 cf d0 d1 df ka0 ka1 kb0 kb1
      refine region_var (on := _) 19 14 (.cells #[.int .i64 0, .int .i64 0, .int .i64 0, .int .i64 0] 50)
        [.pointer (some ⟨w2.heap.size, 0, none⟩), .pointer (some ⟨w2.heap.size, 0, none⟩), .int .i64 X1, .int .i64 (dn X1), .pointer (some ⟨w2.heap.size, 0, none⟩), .pointer (some ⟨w2.heap.size, 1, none⟩), .int .i64 Y1, .int .i64 (dn Y1), pt (dn X1) (dn Y1), .pointer (some ⟨w2.heap.size, 2, none⟩), .pointer (some ⟨w2.heap.size, 2, none⟩), .int .i64 X2, .int .i64 (dn X2), .pointer (some ⟨w2.heap.size, 2, none⟩), .pointer (some ⟨w2.heap.size, 3, none⟩), .int .i64 Y2, .int .i64 (dn Y2), pt (dn X2) (dn Y2), bx (dn X1) (dn Y1) (dn X2) (dn Y2)]
        ⟨#[ar C R s, pt x y, pt a b, .int .i64 (n : Int), .int .i64 r, .pointer (some ⟨w.heap.size, 0, none⟩), .pointer (some ⟨w.heap.size + 1, 0, none⟩), .pointer (some ⟨w.heap.size + 1 + 1, 0, none⟩), undef, undef, u10, .pointer (some ⟨w.heap.size + 1 + 1 + 1, 0, none⟩), .int .i64 (k : Int), .pointer (some ⟨w2.heap.size, 0, none⟩), u14, u15, .agg #[.int .i64 0, .int .i64 0, .int .i64 0, .int .i64 0], .int .i64 (k : Int), .int .i64 (n : Int), .bool true, u20, u21, pt x y, .pointer (some ⟨w.heap.size + 1 + 1, 0, none⟩), .int .i64 a, .int .i64 (k : Int), .int .i64 (a * (k : Int)), .pointer (some ⟨w.heap.size + 1 + 1, 1, none⟩), .int .i64 b, .int .i64 (k : Int), .int .i64 (b * (k : Int)), pt (a * (k : Int)) (b * (k : Int)), pt (addf x (a * (k : Int))) (addf y (b * (k : Int))), .int .i64 r, bx X1 Y1 X2 Y2, .pointer (some ⟨w2.heap.size, 0, none⟩), .pointer (some ⟨w2.heap.size, 0, none⟩), .int .i64 X1, .int .i64 (dn X1), .pointer (some ⟨w2.heap.size, 0, none⟩), .pointer (some ⟨w2.heap.size, 1, none⟩), .int .i64 Y1, .int .i64 (dn Y1), pt (dn X1) (dn Y1), .pointer (some ⟨w2.heap.size, 2, none⟩), .pointer (some ⟨w2.heap.size, 2, none⟩), .int .i64 X2, .int .i64 (dn X2), .pointer (some ⟨w2.heap.size, 2, none⟩), .pointer (some ⟨w2.heap.size, 3, none⟩), .int .i64 Y2, .int .i64 (dn Y2), pt (dn X2) (dn Y2), bx (dn X1) (dn Y1) (dn X2) (dn Y2), u54, u55, u56, u57, u58, u59, u60, u61, u62, u63, u64, u65, u66, u67, undef], []⟩
        (by kernel_rfl) (by kernel_rfl) rfl rfl rfl (by kernel_rfl) (by kernel_rfl) (show 14 < 69 by omega) ?_ ?_ ?_
      · simp only [List.take_succ_cons, List.take_zero, wpEach, and_true]
        refine ⟨?_, ?_, ?_, ?_, ?_, ?_, ?_, ?_, ?_, ?_, ?_, ?_, ?_, ?_, ?_, ?_, ?_, ?_, ?_⟩
        all_goals
          intro u hu
          obtain ⟨g0, g1, g2, g3, gf⟩ := (b3.still hu).cells
          go_simp
        all_goals exact (rdown_any _ (by omega) (by omega) u).mono fun _ _ ⟨he, hw⟩ => ⟨he, hw ▸ Fr.refl _ _⟩
      · intro u _ y
        go_simp
      simp only [List.drop_succ_cons, List.drop_zero]
      intro w4 g hs4 hge hz4
      have N0 : w.heap.size ≠ g := by have := block_lt p3; omega
      have N1 : w.heap.size + 1 ≠ g := by have := block_lt q3; omega
      have N2 : w.heap.size + 1 + 1 ≠ g := by have := block_lt v3; omega
      have N3 : w.heap.size + 1 + 1 + 1 ≠ g := by have := block_lt l3; omega
      have N4 : w2.heap.size ≠ g := by have := block_lt b3; omega
      have NG : w.heap.size ≤ g := by have := block_lt p3; omega
      have c4 : Bb w4 g 0 0 0 0 := hz4
      have p5 := setB_ab (p3.still hs4) N0 (dn X1) (dn Y1) (dn X2) (dn Y2)
      have q5 := setB_pb (q3.still hs4) N1 (dn X1) (dn Y1) (dn X2) (dn Y2)
      have v5 := setB_pb (v3.still hs4) N2 (dn X1) (dn Y1) (dn X2) (dn Y2)
      have l5 := setB_bb (l3.still hs4) N3 (dn X1) (dn Y1) (dn X2) (dn Y2)
      have b5 := setB_bb (b3.still hs4) N4 (dn X1) (dn Y1) (dn X2) (dn Y2)
      have c5 := c4.set (dn X1) (dn Y1) (dn X2) (dn Y2)
      have HS5 := hid (setB_fr (HS3.out.trans hs4) g (dn X1) (dn Y1) (dn X2) (dn Y2) (.inr NG))
      obtain ⟨e0, e1, e2, e3, ef⟩ := c4.cells
      clear p3 q3 v3 l3 b3 HS3 hs4 hge hz4 c4 N0 N1 N2 N4 NG
      obtain ⟨L1, eL1⟩ : ∃ L1, lastC (fun j => cl1 (atS x a j) r) k = L1 := ⟨_, rfl⟩
      obtain ⟨L2, eL2⟩ : ∃ L2, lastC (fun j => cl1 (atS y b j) r) k = L2 := ⟨_, rfl⟩
      obtain ⟨L3, eL3⟩ : ∃ L3, lastC (fun j => cl2 (atS x a j) r) k = L3 := ⟨_, rfl⟩
      obtain ⟨L4, eL4⟩ : ∃ L4, lastC (fun j => cl2 (atS y b j) r) k = L4 := ⟨_, rfl⟩
      rw [eL1, eL2, eL3, eL4] at l5
      have HL := hid (And.intro (And.intro eL1 eL2) (And.intro eL3 eL4))
      clear eL1 eL2 eL3 eL4
      have G := guard_bx
      simp only [Act.put, List.setIfInBounds_toArray, List.set_cons_succ, List.set_cons_zero]
      have hD : (decide ((1 : Int) < (k : Int)) = true ∧ ((dn X1 == L1 && dn Y1 == L2) && (dn X2 == L3 && dn Y2 == L4)) = true) ∨ (decide ((1 : Int) < (k : Int)) = true ∧ ((dn X1 == L1 && dn Y1 == L2) && (dn X2 == L3 && dn Y2 == L4)) = false) ∨ decide ((1 : Int) < (k : Int)) = false := by
        cases decide ((1 : Int) < (k : Int)) <;> cases ((dn X1 == L1 && dn Y1 == L2) && (dn X2 == L3 && dn Y2 == L4)) <;> simp
      rcases hD with ⟨hk1, hb⟩ | hD
      · have E := eql_bx_is hb
        have hk1' : 1 < k := by have := of_decide_eq_true hk1; omega
        have HB : Hid ((dn X1 = L1 ∧ dn Y1 = L2) ∧ (dn X2 = L3 ∧ dn Y2 = L4)) := hid (by simpa using hb)
        have HN := hid (show t k = false by
          have h0 := HF.out (k - 1) (by omega) (by omega)
          rw [HT.out] at h0 ⊢
          rw [← h0]
          have hl := HL.out
          unfold lastC at hl
          simp only [show ¬ k ≤ 1 by omega, if_false] at hl
          exact bdy_cells (HX.out.1.1.trans (HB.out.1.1.trans hl.1.1.symm)) (HX.out.1.2.trans (HB.out.1.2.trans hl.1.2.symm)) (HX.out.2.1.trans (HB.out.2.1.trans hl.2.1.symm)) (HX.out.2.2.trans (HB.out.2.2.trans hl.2.2.symm)))
        obtain ⟨f0, f1, f2, f3, ff⟩ := l5.cells
        obtain ⟨i0, i1, i2, i3, jf⟩ := c5.cells
        clear hb
        go_wp2_with fail
        go_roundw
        case rel => exact ⟨k + 1, by omega, by omega, by go_num, fun j h1 h2 => by
            by_cases e : j = k
            · subst e; exact HN.out
            · exact HF.out j h1 (by omega), p5, q5, v5, by
              unfold lastC
              simp only [show ¬ k + 1 ≤ 1 by omega, if_false, Nat.add_sub_cancel]
              rw [HX.out.1.1.trans HB.out.1.1, HX.out.1.2.trans HB.out.1.2, HX.out.2.1.trans HB.out.2.1, HX.out.2.2.trans HB.out.2.2]
              exact l5, HS5.out⟩
        case measure => simp [intOf]; omega
      · have p6 := setB_ab p5 (show w.heap.size ≠ w.heap.size + 1 + 1 + 1 by omega) (dn X1) (dn Y1) (dn X2) (dn Y2)
        have q6 := setB_pb q5 (show w.heap.size + 1 ≠ w.heap.size + 1 + 1 + 1 by omega) (dn X1) (dn Y1) (dn X2) (dn Y2)
        have v6 := setB_pb v5 (show w.heap.size + 1 + 1 ≠ w.heap.size + 1 + 1 + 1 by omega) (dn X1) (dn Y1) (dn X2) (dn Y2)
        have b6 := setB_bb b5 (show w2.heap.size ≠ w.heap.size + 1 + 1 + 1 by omega) (dn X1) (dn Y1) (dn X2) (dn Y2)
        have l6 := l5.set (dn X1) (dn Y1) (dn X2) (dn Y2)
        have HS6 := hid (setB_fr HS5.out (w.heap.size + 1 + 1 + 1) (dn X1) (dn Y1) (dn X2) (dn Y2) (.inr (by omega)))
        obtain ⟨f0, f1, f2, f3, ff⟩ := l5.cells
        obtain ⟨i0, i1, i2, i3, jf⟩ := c5.cells
        obtain ⟨o0, o1, o2, of⟩ := p6.cells
        obtain ⟨n0, n1, n2, n3, nf⟩ := b6.cells
        clear p5 q5 v5 l5 b5 c5 HS5 HL
        rcases hD with ⟨hk1, hb⟩ | hk1
        all_goals
          try have E := eql_bx_is hb
          try clear hb
          go_wp2_with fail
          cases hv : t k with
          | true =>
            refine (HQ.out true hv _).mono ?_
            rintro e w7 ⟨rfl, h7⟩
            have HG := hid (show ((k : Int) - 1) = (go t n : Nat) by
              have := go_one (t := t) (n := n) (k := k - 1) (by omega) (fun j h1 h2 => HF.out j h1 (by omega)) (fun _ => by rw [show k - 1 + 1 = k by omega]; exact hv)
              rw [this]; omega)
            have HS7 := hid (Still.trans HS6.out h7)
            clear hv h7 p6 q6 v6 b6 l6 HS6 f0 f1 f2 f3 ff i0 i1 i2 i3 jf o0 o1 o2 of n0 n1 n2 n3 nf e0 e1 e2 e3 ef
            go_wp2_with fail
            go_ret
            exact ⟨ret_int HG.out, HS7.out⟩
          | false =>
            refine (HQ.out false hv _).mono ?_
            rintro e w7 ⟨rfl, h7⟩
            have HV := hid hv
            have p7 := p6.still h7
            have q7 := q6.still h7
            have v7 := v6.still h7
            have l7 := l6.still h7
            have HS7 := hid (Still.trans HS6.out h7)
            clear hv h7 p6 q6 v6 b6 l6 HS6 f0 f1 f2 f3 ff i0 i1 i2 i3 jf o0 o1 o2 of n0 n1 n2 n3 nf e0 e1 e2 e3 ef
            go_wp2_with fail
            go_roundw
            case rel => exact ⟨k + 1, by omega, by omega, by go_num, fun j h1 h2 => by
                by_cases e : j = k
                · subst e; exact HV.out
                · exact HF.out j h1 (by omega), p7, q7, v7, by
                  unfold lastC
                  simp only [show ¬ k + 1 ≤ 1 by omega, if_false, Nat.add_sub_cancel, HX.out.1.1, HX.out.1.2, HX.out.2.1, HX.out.2.2]
                  exact l7, HS7.out⟩
            case measure => simp [intOf]; omega
    · have HG := hid (show ((n : Nat) : Int) = (go t n : Nat) by
        rw [go_one (t := t) (n := n) (k := n) (by omega) (fun j h1 h2 => HF.out j h1 (by omega)) (fun h => by omega)])
      clear p2 q2 v2 l2
      go_wp2_with fail
      go_ret
      exact ⟨ret_int HG.out, HS.out⟩
end Go.Proofs.YtaalbkmdmocdeaaDoor
