/- The program's Slide and Ray. -/
import Derived.Test.YtaalbkmdmocdeaaDoorSw
namespace Go.Proofs.YtaalbkmdmocdeaaDoor
open Go.RowKit
open Pu Gp Ap

set_option maxHeartbeats 4000000 in
set_option maxRecDepth 100000 in
theorem slide_any (C R x y p q n : Int) (s : ByteArray) (hz : s.size ≤ 281474976710656) (X Y P Q r X1 Y1 X2 Y2 : Int) (k l : Nat)
    (eX : bnd x = X) (eY : bnd y = Y) (eP : stp p = P) (eQ : stp q = Q) (er : clampf n 0 4096 = r) (ek : kX (solB C R s) r X Y P = k) (eX1 : addf X (sgn P * (k : Int)) = X1) (eY1 : addf Y 0 = Y1)
    (el : kY (solB C R s) r X1 Y1 Q = l) (eX2 : addf X1 0 = X2) (eY2 : addf Y1 (sgn Q * (l : Int)) = Y2) (w : World) :
    Calls Tryd.prog 70 #[ar C R s, pt x y, pt p q, .int .i64 n] w fun e w' => e = .returned (.tuple #[pt X2 Y2, .int .i64 (side k P.natAbs l Q.natAbs)]) ∧ Still w w' := by
  obtain ⟨W, eW⟩ : ∃ W, W = newP (newP (newP (newA w C R s) x y) p q) 0 0 := ⟨_, rfl⟩
  have A1 := Still.alloc (newA w C R s) (.cells #[.int .i64 x, .int .i64 y] 23)
  have A2 := Still.alloc (newP (newA w C R s) x y) (.cells #[.int .i64 p, .int .i64 q] 23)
  have A3 := Still.alloc (newP (newP (newA w C R s) x y) p q) (.cells #[.int .i64 0, .int .i64 0] 23)
  have a0 := (((newA_ab w C R s).still A1).still A2).still A3
  have b0 := ((newP_pb (newA w C R s) x y).still A2).still A3
  have c0 := (newP_pb (newP (newA w C R s) x y) p q).still A3
  have d0 := newP_pb (newP (newP (newA w C R s) x y) p q) 0 0
  have HS0 := hid ((((Still.alloc w (.cells #[.int .i64 C, .int .i64 R, .string s] 37)).trans A1).trans A2).trans A3)
  simp only [size_alloc] at b0 c0 d0
  simp only [newP, newA] at eW a0 b0 c0 d0 HS0
  rw [← eW] at a0 b0 c0 d0 HS0
  clear A1 A2 A3
  have HN := hid (show w.heap.size ≠ w.heap.size + 1 ∧ w.heap.size ≠ w.heap.size + 1 + 1 ∧ w.heap.size + 1 ≠ w.heap.size + 1 + 1 ∧ w.heap.size + 1 + 1 ≠ w.heap.size + 1 ∧ w.heap.size + 1 + 1 + 1 ≠ w.heap.size + 1 ∧ w.heap.size + 1 + 1 + 1 ≠ w.heap.size + 1 + 1 by omega)
  have HB := hid (show w.heap.size ≤ w.heap.size + 1 ∧ w.heap.size ≤ w.heap.size + 1 + 1 ∧ w.heap.size ≤ w.heap.size + 1 + 1 + 1 by omega)
  have pb := stp_in p
  have qb := stp_in q
  rw [eP] at pb
  rw [eQ] at qb
  obtain ⟨p0, p1⟩ := pb
  obtain ⟨q0, q1⟩ := qb
  have rb := clamp_r n
  rw [er] at rb
  obtain ⟨r0, r1⟩ := rb
  have hX : inB2 X := by rw [← eX]; exact ⟨bnd_lo _, bnd_hi _⟩
  have hY : inB2 Y := by rw [← eY]; exact ⟨bnd_lo _, bnd_hi _⟩
  have hX1 : inB2 X1 := by rw [← eX1]; exact addf_in _ _
  have hY1 : inB2 Y1 := by rw [← eY1]; exact addf_in _ _
  have kl : k ≤ P.natAbs := by rw [← ek]; exact kX_le ..
  have ll : l ≤ Q.natAbs := by rw [← el]; exact kY_le ..
  have HK : Hid (∀ u : World, Calls Tryd.prog 90 #[ar C R s, pt X Y, pt P 0, .int .i64 r] u fun e w' => e = .returned (.tuple #[pt X1 Y1, .bool (decide (k = P.natAbs))]) ∧ Still u w') := hid (fun u => by
    have h := slideOn_any C R X Y P 0 r s hz hX hY r0 r1 p0 p1 (by omega) (by omega) (.inr rfl) P.natAbs k (by simp) (by rw [← ek]; rfl) u
    rw [show atS X (sgn P) k = X1 from eX1, show atS Y (sgn 0) k = Y1 by rw [← eY1]; unfold atS; rw [show sgn 0 = 0 by decide, Int.zero_mul]] at h
    exact h)
  have HL : Hid (∀ u : World, Calls Tryd.prog 90 #[ar C R s, pt X1 Y1, pt 0 Q, .int .i64 r] u fun e w' => e = .returned (.tuple #[pt X2 Y2, .bool (decide (l = Q.natAbs))]) ∧ Still u w') := hid (fun u => by
    have h := slideOn_any C R X1 Y1 0 Q r s hz hX1 hY1 r0 r1 (by omega) (by omega) q0 q1 (.inl rfl) Q.natAbs l (by simp) (by rw [← el]; rfl) u
    rw [show atS Y1 (sgn Q) l = Y2 from eY2, show atS X1 (sgn 0) l = X2 by rw [← eX2]; unfold atS; rw [show sgn 0 = 0 by decide, Int.zero_mul]] at h
    exact h)
  have HC1 : Hid (∀ u : World, Calls Tryd.prog 24 #[pt x y] u fun e w' => e = .returned (pt X Y) ∧ Still u w') := hid (fun u => by
    have h := gbound_any x y u
    rw [eX, eY] at h
    exact h)
  have HC2 : Hid (∀ u : World, Calls Tryd.prog 88 #[pt p q] u fun e w' => e = .returned (pt P Q) ∧ Still u w') := hid (fun u => by
    have h := step_any p q u
    rw [eP, eQ] at h
    exact h)
  have HC3 : Hid (∀ u : World, Calls Tryd.prog 89 #[.int .i64 n, .int .i64 0, .int .i64 4096] u fun e w' => e = .returned (.int .i64 r) ∧ w' = u) := hid (fun u => by
    have h := aclr n u
    rw [er] at h
    exact h)
  clear eX eY eP eQ er ek eX1 eY1 el eX2 eY2 hX hY hX1 hY1
  have f0 := Cl.cell b0.cells.1
  have f1 := Cl.cell b0.cells.2.1
  have f2 := Cl.cell c0.cells.1
  have f3 := Cl.cell c0.cells.2.1
  have hne := Aft.here W
  have HW := hid eW
  clear eW
  go_enter Tryd.func70, Tryd.ntmps70
  go_wp2_with fail
  have e := HW.out
  rw [← e]
  clear e HW
  refine region_rest 6 (by kernel_rfl) (by kernel_rfl) ?_
  simp only [List.take_succ_cons, List.take_zero, List.drop_succ_cons, List.drop_zero]
  repeat (go_big_quiet_step ((first | (go_at_call 24; exact Calls.cl (HC1.out _)) | (go_at_call 88; exact Calls.cl (HC2.out _)) | (go_at_call 89; exact Calls.cl_same (HC3.out _)))))
  refine wpQuiet_nil ?_
  intro w1 h1
  clear hne f0 f1 f2 f3 HC1 HC2 HC3
  have b1 := (b0.still h1).set X Y
  have c1 := setP_pb (c0.still h1) HN.out.2.2.2.1 X Y
  have a1 := setP_ab (a0.still h1) HN.out.1 X Y
  have d1 := setP_pb (d0.still h1) HN.out.2.2.2.2.1 X Y
  have HS1 := hid (setP_fr (HS0.out.trans h1) (w.heap.size + 1) X Y (.inr HB.out.1))
  have b2 := setP_pb b1 HN.out.2.2.1 P Q
  have a2 := setP_ab a1 HN.out.2.1 P Q
  have c2 := c1.set P Q
  have d2 := setP_pb d1 HN.out.2.2.2.2.2 P Q
  have HS2 := hid (setP_fr HS1.out (w.heap.size + 1 + 1) P Q (.inr HB.out.2.1))
  obtain ⟨f0, f1, ff⟩ := (b0.still h1).cells
  obtain ⟨m0, m1, mf⟩ := c1.cells
  clear a0 b0 c0 d0 HS0 h1 a1 b1 c1 d1 HS1
  obtain ⟨g0, g1, gf⟩ := c2.cells
  obtain ⟨i0, i1, i2, jf⟩ := a2.cells
  obtain ⟨o0, o1, of⟩ := b2.cells
  have hk : (decide (k = P.natAbs) = true ∧ (if k < P.natAbs then (1 : Int) else 0) = 0) ∨ (decide (k = P.natAbs) = false ∧ (if k < P.natAbs then (1 : Int) else 0) = 1) := by
    by_cases h : k = P.natAbs
    · exact .inl ⟨decide_eq_true h, if_neg (by omega)⟩
    · exact .inr ⟨decide_eq_false h, if_pos (by omega)⟩
  have hl : (decide (l = Q.natAbs) = true ∧ (if l < Q.natAbs then (2 : Int) else 0) = 0) ∨ (decide (l = Q.natAbs) = false ∧ (if l < Q.natAbs then (2 : Int) else 0) = 2) := by
    by_cases h : l = Q.natAbs
    · exact .inl ⟨decide_eq_true h, if_neg (by omega)⟩
    · exact .inr ⟨decide_eq_false h, if_pos (by omega)⟩
  rcases hk with ⟨hk, sk⟩ | ⟨hk, sk⟩ <;> rcases hl with ⟨hl, sl⟩ | ⟨hl, sl⟩
  all_goals
    have HD := hid (And.intro sk sl)
    clear sk sl kl ll
    rw [hk] at HK
    rw [hl] at HL
    clear hk hl
    go_wp2_with fail
    refine (HK.out _).mono ?_
    rintro e w3 ⟨rfl, h3⟩
    have b3 := (b2.still h3).set X1 Y1
    have c3 := setP_pb (c2.still h3) HN.out.2.2.2.1 X1 Y1
    have a3 := setP_ab (a2.still h3) HN.out.1 X1 Y1
    have d3 := setP_pb (d2.still h3) HN.out.2.2.2.2.1 X1 Y1
    have HS3 := hid (setP_fr (Still.trans HS2.out h3) (w.heap.size + 1) X1 Y1 (.inr HB.out.1))
    clear f0 f1 ff m0 m1 mf g0 g1 gf i0 i1 i2 jf o0 o1 of
    obtain ⟨f0, f1, ff⟩ := (b2.still h3).cells
    clear a2 b2 c2 d2 HS2 h3
    obtain ⟨g0, g1, gf⟩ := c3.cells
    obtain ⟨i0, i1, i2, jf⟩ := a3.cells
    obtain ⟨o0, o1, of⟩ := b3.cells
    go_wp2_with fail
    refine (HL.out _).mono ?_
    rintro e w4 ⟨rfl, h4⟩
    have b4 := (b3.still h4).set X2 Y2
    have d4 := setP_pb (d3.still h4) HN.out.2.2.2.2.1 X2 Y2
    have HS4 := hid (setP_fr (Still.trans HS3.out h4) (w.heap.size + 1) X2 Y2 (.inr HB.out.1))
    clear f0 f1 ff g0 g1 gf i0 i1 i2 jf o0 o1 of
    obtain ⟨f0, f1, ff⟩ := (b3.still h4).cells
    clear a3 b3 c3 d3 HS3 h4
    obtain ⟨o0, o1, of⟩ := b4.cells
    obtain ⟨i0, i1, jf⟩ := d4.cells
    go_wp2_with fail
    (try simp only [Exit.inBlock, Exit.then])
    exact bodyPost_ret ((d4.set _ _).rest rfl _ _ rfl rfl) rfl ⟨by unfold side; rw [HD.out.1, HD.out.2]; rfl, setP_fr HS4.out _ _ _ (.inr HB.out.2.2)⟩
end Go.Proofs.YtaalbkmdmocdeaaDoor
namespace Go.Proofs.YtaalbkmdmocdeaaDoor
open Go.RowKit
open Pu Gp Ap

end Go.Proofs.YtaalbkmdmocdeaaDoor
