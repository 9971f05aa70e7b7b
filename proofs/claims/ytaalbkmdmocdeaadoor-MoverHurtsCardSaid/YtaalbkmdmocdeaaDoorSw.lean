/- The program's slideOn. -/
import Derived.Test.YtaalbkmdmocdeaaDoorMv
namespace Go.Proofs.YtaalbkmdmocdeaaDoor
open Go.RowKit
open Pu Gp Ap

theorem around_r (x y r : Int) (h0 : 0 ≤ r) (h1 : r ≤ 4096) (w : World) : Calls Tryd.prog 23 #[pt x y, .int .i64 r] w fun e w' => e = .returned (bx (subf x r) (subf y r) (addf x r) (addf y r)) ∧ Still w w' := by
  have h := around_any x y r w
  have e : clampf r 0 2147483647 = r := by
    unfold clampf
    rw [bnd_id (n := r) (by omega) (by omega), show bnd 0 = 0 by decide, show bnd 2147483647 = 2147483647 by decide]
    repeat' split
    all_goals omega
  rw [e] at h
  exact h
set_option maxHeartbeats 4000000 in
set_option maxRecDepth 100000 in
theorem slideOn_any (C R x y p q r : Int) (s : ByteArray) (hz : s.size ≤ 281474976710656) (hx : inB2 x) (hy : inB2 y) (r0 : 0 ≤ r) (r1 : r ≤ 4096) (p0 : -2048 ≤ p) (p1 : p ≤ 2048) (q0 : -2048 ≤ q) (q1 : q ≤ 2048) (hpq : p = 0 ∨ q = 0) (n k : Nat)
    (en : max p.natAbs q.natAbs = n) (ek : go (slT (solB C R s) r x y p q) n = k) (w : World) :
    Calls Tryd.prog 90 #[ar C R s, pt x y, pt p q, .int .i64 r] w fun e w' => e = .returned (.tuple #[pt (atS x (sgn p) k) (atS y (sgn q) k), .bool (decide (k = n))]) ∧ Still w w' := by
  have A0 := Still.alloc w (.cells #[.int .i64 C, .int .i64 R, .string s] 37)
  have A1 := Still.alloc (newA w C R s) (.cells #[.int .i64 x, .int .i64 y] 23)
  have A2 := Still.alloc (newP (newA w C R s) x y) (.cells #[.int .i64 p, .int .i64 q] 23)
  have A3 := Still.alloc (newP (newP (newA w C R s) x y) p q) (.cells #[.int .i64 0, .int .i64 0] 23)
  have a0 := (((newA_ab w C R s).still A1).still A2).still A3
  have b0 := ((newP_pb (newA w C R s) x y).still A2).still A3
  have c0 := (newP_pb (newP (newA w C R s) x y) p q).still A3
  have d0 := newP_pb (newP (newP (newA w C R s) x y) p q) 0 0
  simp only [size_alloc] at b0 c0 d0
  have HS0 := hid (((A0.trans A1).trans A2).trans A3)
  clear A0 A1 A2 A3
  have HB := hid (show w.heap.size ≤ w.heap.size + 1 ∧ w.heap.size ≤ w.heap.size + 1 + 1 ∧ w.heap.size ≤ w.heap.size + 1 + 1 + 1 by omega)
  have n1 : n ≤ 2048 := by omega
  have HE := hid (And.intro en ek)
  have HN : Hid (∀ u : World, Calls Tryd.prog 105 #[pt p q] u fun e w' => e = .returned (.int .i64 (n : Int)) ∧ Still u w') := hid (fun u => by
    have h := asize_any p q p0 p1 q0 q1 u
    rw [en] at h
    exact h)
  clear en ek
  go_enter Tryd.func90, Tryd.ntmps90
  obtain ⟨g0, g1, gf⟩ := c0.cells
  go_wp2_with fail
  refine (HN.out _).mono ?_
  rintro e w1 ⟨rfl, h1⟩
  have a1 := a0.still h1
  have b1 := b0.still h1
  have c1 := c0.still h1
  have d1 := d0.still h1
  have HS1 := hid (HS0.out.trans h1)
  clear a0 b0 c0 d0 HS0 h1 g0 g1 gf HN
  have nz : n = 0 ∨ 1 ≤ n := by omega
  have HP : Hid (∀ (g : Nat), g ≤ 8191 → 1 ≤ n → ∀ u : World, Calls Tryd.prog 106 #[pt x y, pt p q, .int .i64 (g : Int), .int .i64 (n : Int)] u fun e w' => e = .returned (pt (atS x (sgn p) g) (atS y (sgn q) g)) ∧ Still u w') := hid (fun g hg h1 u => by
    have h := apart_any x y p q g n p0 p1 q0 q1 (by omega) h1 n1 u
    have en := HE.out.1
    rw [part_sgn (p := p) (n := n) (j := g) (by omega) h1, part_sgn (p := q) (n := n) (j := g) (by omega) h1] at h
    exact h)
  have HQ := hid (show 1 ≤ n → (p ≠ 0 ∨ q ≠ 0) from fun h => by have en := HE.out.1; omega)
  go_wp2_with fail
  go_loopw [11] (fun vg wr => ∃ g : Nat, g ≤ n + 4096 ∧ vg = .int .i64 (g : Int) ∧ (∀ i, 1 ≤ i → i ≤ g → slT (solB C R s) r x y p q i = false) ∧ Ab wr w.heap.size C R s ∧ Pb wr (w.heap.size + 1) x y ∧ Pb wr (w.heap.size + 1 + 1) p q ∧ Pb wr (w.heap.size + 1 + 1 + 1) 0 0 ∧ Still w wr) (fun vg _ => n - (intOf vg).toNat)
  case atStart => exact ⟨0, by omega, rfl, fun i h1 h2 => by omega, a1, b1, c1, d1, HS1.out⟩
  case round =>
    obtain ⟨g, hg, rfl, hfree, a2, b2, c2, d2, hs⟩ := hrel
    have HF := hid hfree
    have HS2 := hid hs
    clear hfree hs a1 b1 c1 d1 HS1
    by_cases hlt : g < n
    · obtain ⟨X1, eX1⟩ : ∃ X1, atS x (sgn p) (g + 1) = X1 := ⟨_, rfl⟩
      obtain ⟨Y1, eY1⟩ : ∃ Y1, atS y (sgn q) (g + 1) = Y1 := ⟨_, rfl⟩
      have HC : Hid (∀ u : World, Calls Tryd.prog 106 #[pt x y, pt p q, .int .i64 ((g : Int) + 1), .int .i64 (n : Int)] u fun e w' => e = .returned (pt X1 Y1) ∧ Still u w') := hid (fun u => by
        have h := HP.out (g + 1) (by omega) (by omega) u
        rw [eX1, eY1, show ((g + 1 : Nat) : Int) = (g : Int) + 1 by omega] at h
        exact h)
      have HT := hid (show slT (solB C R s) r x y p q (g + 1) = bdy (solB C R s) r X1 Y1 by unfold slT; rw [eX1, eY1])
      have HV := hid (show ∀ d : Nat, (d : Int) ≤ spv (subf X1 r) (subf Y1 r) (addf X1 r) (addf Y1 r) p q → slT (solB C R s) r x y p q (g + 1) = false → slT (solB C R s) r x y p q (g + 1 + d) = false from fun d hd h =>
        spare_ok hx hy r0 r1 (by omega) hpq (HQ.out (by omega)) h (by rw [eX1, eY1]; exact hd))
      have HO := hid (around_ok X1 Y1 r r0 r1)
      clear eX1 eY1
      obtain ⟨m0, m1, mf⟩ := b2.cells
      obtain ⟨g0, g1, gf⟩ := c2.cells
      go_wp2_with fail
      refine (HC.out _).mono ?_
      rintro e w3 ⟨rfl, h3⟩
      have a3 := a2.still h3
      have b3 := b2.still h3
      have c3 := c2.still h3
      have d3 := d2.still h3
      have HS3 := hid (HS2.out.trans h3)
      clear a2 b2 c2 d2 HS2 h3 m0 m1 mf g0 g1 gf HC
      go_wp2_with fail
      refine (around_r X1 Y1 r r0 r1 _).mono ?_
      rintro e w4 ⟨rfl, h4⟩
      obtain ⟨x1, e1⟩ : ∃ v, subf X1 r = v := ⟨_, rfl⟩
      obtain ⟨y1, e2⟩ : ∃ v, subf Y1 r = v := ⟨_, rfl⟩
      obtain ⟨x2, e3⟩ : ∃ v, addf X1 r = v := ⟨_, rfl⟩
      obtain ⟨y2, e4⟩ : ∃ v, addf Y1 r = v := ⟨_, rfl⟩
      have HU : Hid (∀ t, bdy (solB C R s) r X1 Y1 = t → ∀ u : World, Calls Tryd.prog 22 #[ar C R s, bx x1 y1 x2 y2] u fun e w' => e = .returned (.bool t) ∧ Still u w') := hid (fun t ht u => by
        have h := touched C R X1 Y1 r s hz HO.out ht u
        rw [e1, e2, e3, e4] at h
        exact h)
      rw [e1, e2, e3, e4] at HV ⊢
      clear e1 e2 e3 e4 HO
      have A4 := Still.alloc w4 (.cells #[.int .i64 x1, .int .i64 y1, .int .i64 x2, .int .i64 y2] 50)
      have a4 := (a3.still h4).still A4
      have b4 := (b3.still h4).still A4
      have c4 := (c3.still h4).still A4
      have d4 := (d3.still h4).still A4
      have v4 := newB_bb w4 x1 y1 x2 y2
      have HS4 := hid ((HS3.out.trans h4).trans A4)
      clear a3 b3 c3 d3 HS3 h4 A4
      obtain ⟨i0, i1, i2, jf⟩ := a4.cells
      obtain ⟨o0, o1, o2, o3, of⟩ := v4.cells
      go_wp2_with fail
      cases hb : bdy (solB C R s) r X1 Y1 with
      | true =>
        have HK := hid (show g = k by
          rw [← HE.out.2]
          exact (go_one (by omega) (fun i h1 h2 => HF.out i h1 h2) (fun _ => HT.out.trans hb)).symm)
        refine (HU.out true hb _).mono ?_
        rintro e w5 ⟨rfl, h5⟩
        have b5 := b4.still h5
        have c5 := c4.still h5
        have d5 := d4.still h5
        have HS5 := hid (HS4.out.trans h5)
        clear hb a4 b4 c4 d4 v4 HS4 h5 i0 i1 i2 jf o0 o1 o2 o3 of HU HV HT HF
        obtain ⟨m0, m1, mf⟩ := b5.cells
        obtain ⟨g0, g1, gf⟩ := c5.cells
        go_wp2_with fail
        refine (HP.out g (by omega) (by omega) _).mono ?_
        rintro e w6 ⟨rfl, h6⟩
        have d6 := d5.still h6
        have HS6 := hid (HS5.out.trans h6)
        clear b5 c5 d5 HS5 h6 m0 m1 mf g0 g1 gf
        obtain ⟨o0, o1, of⟩ := d6.cells
        go_wp2_with fail
        (try simp only [Exit.inBlock, Exit.then])
        exact bodyPost_ret ((d6.set _ _).rest rfl _ _ rfl rfl) rfl ⟨by rw [HK.out, decide_eq_false (show ¬ k = n by have := HK.out; omega)]; rfl, setP_fr HS6.out _ _ _ (.inr HB.out.2.2)⟩
      | false =>
        refine (HU.out false hb _).mono ?_
        rintro e w5 ⟨rfl, h5⟩
        have HT1 := hid (HT.out.trans hb)
        have a5 := a4.still h5
        have b5 := b4.still h5
        have c5 := c4.still h5
        have d5 := d4.still h5
        have v5 := v4.still h5
        have HS5 := hid (HS4.out.trans h5)
        clear hb a4 b4 c4 d4 v4 HS4 h5 i0 i1 i2 jf o0 o1 o2 o3 of HU HT
        obtain ⟨g0, g1, gf⟩ := c5.cells
        obtain ⟨o0, o1, o2, o3, of⟩ := v5.cells
        go_wp2_with fail
        refine (aspare_any x1 y1 x2 y2 p q _).mono ?_
        rintro e w6 ⟨rfl, h6⟩
        have sb := spv_in x1 y1 x2 y2 p q
        obtain ⟨d, ed⟩ : ∃ d : Nat, spv x1 y1 x2 y2 p q = (d : Int) := ⟨(spv x1 y1 x2 y2 p q).toNat, by omega⟩
        rw [ed] at sb HV ⊢
        have dl : d ≤ 4095 := by omega
        have a6 := a5.still h6
        have b6 := b5.still h6
        have c6 := c5.still h6
        have d6 := d5.still h6
        have HS6 := hid (HS5.out.trans h6)
        clear a5 b5 c5 d5 v5 HS5 h6 g0 g1 gf o0 o1 o2 o3 of ed sb
        go_wp2_with fail
        go_roundw
        case rel => exact ⟨g + (1 + d), by omega, by go_num, fun i h1 h2 => by
            by_cases e : i ≤ g
            · exact HF.out i h1 e
            · have h := HV.out (i - (g + 1)) (by omega) HT1.out
              rw [show g + 1 + (i - (g + 1)) = i by omega] at h
              exact h, a6, b6, c6, d6, HS6.out⟩
        case measure => simp [intOf]; omega
    · have HK := hid (show n = k by
        rw [← HE.out.2]
        exact (go_one (Nat.le_refl _) (fun i h1 h2 => HF.out i h1 (by omega)) (fun h => by omega)).symm)
      obtain ⟨m0, m1, mf⟩ := b2.cells
      obtain ⟨g0, g1, gf⟩ := c2.cells
      go_wp2_with fail
      refine (gadd_any x y p q _).mono ?_
      rintro e w3 ⟨rfl, h3⟩
      have d3 := d2.still h3
      have HS3 := hid (HS2.out.trans h3)
      clear b2 c2 d2 HS2 h3 m0 m1 mf g0 g1 gf a2
      have HX := hid (show addf x p = atS x (sgn p) k ∧ addf y q = atS y (sgn q) k by
        have en := HE.out.1
        have ek := HK.out
        unfold atS
        have f1 : sgn p * (k : Int) = p := by
          unfold sgn
          repeat' split
          all_goals omega
        have f2 : sgn q * (k : Int) = q := by
          unfold sgn
          repeat' split
          all_goals omega
        rw [f1, f2]
        exact ⟨rfl, rfl⟩)
      obtain ⟨o0, o1, of⟩ := d3.cells
      go_wp2_with fail
      (try simp only [Exit.inBlock, Exit.then])
      exact bodyPost_ret ((d3.set _ _).rest rfl _ _ rfl rfl) rfl ⟨by rw [← HX.out.1, ← HX.out.2, decide_eq_true HK.out.symm]; rfl, setP_fr HS3.out _ _ _ (.inr HB.out.2.2)⟩
end Go.Proofs.YtaalbkmdmocdeaaDoor
