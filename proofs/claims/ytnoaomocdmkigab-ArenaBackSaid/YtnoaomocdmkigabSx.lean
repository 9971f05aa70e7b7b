/- The program's Slide and Ray. -/
import Derived.Test.YtnoaomocdmkigabSw
namespace Go.Proofs.Ytnoaomocdmkigab
open Go.RowKit
open Pu Gp Ap

set_option maxHeartbeats 4000000 in
set_option maxRecDepth 100000 in
theorem slide_any (C R x y p q n : Int) (s : ByteArray) (hz : s.size ≤ 281474976710656) (X Y P Q r X1 Y1 X2 Y2 : Int) (k l : Nat)
    (eX : bnd x = X) (eY : bnd y = Y) (eP : stp p = P) (eQ : stp q = Q) (er : clampf n 0 4096 = r) (ek : kX (solB C R s) r X Y P = k) (eX1 : addf X (sgn P * (k : Int)) = X1) (eY1 : addf Y 0 = Y1)
    (el : kY (solB C R s) r X1 Y1 Q = l) (eX2 : addf X1 0 = X2) (eY2 : addf Y1 (sgn Q * (l : Int)) = Y2) (w : World) :
    Calls Try.prog 12 #[ar C R s, pt x y, pt p q, .int .i64 n] w fun e w' => e = .returned (.tuple #[pt X2 Y2, .int .i64 (side k P.natAbs l Q.natAbs)]) ∧ Still w w' := by
  obtain ⟨W, eW⟩ : ∃ W, W = newP (newP (newP (newA w C R s) x y) p q) 0 0 := ⟨_, rfl⟩
  have A1 := Still.alloc (newA w C R s) (.cells #[.int .i64 x, .int .i64 y] 32)
  have A2 := Still.alloc (newP (newA w C R s) x y) (.cells #[.int .i64 p, .int .i64 q] 32)
  have A3 := Still.alloc (newP (newP (newA w C R s) x y) p q) (.cells #[.int .i64 0, .int .i64 0] 32)
  have a0 := (((newA_ab w C R s).still A1).still A2).still A3
  have b0 := ((newP_pb (newA w C R s) x y).still A2).still A3
  have c0 := (newP_pb (newP (newA w C R s) x y) p q).still A3
  have d0 := newP_pb (newP (newP (newA w C R s) x y) p q) 0 0
  have HS0 := hid ((((Still.alloc w (.cells #[.int .i64 C, .int .i64 R, .string s] 23)).trans A1).trans A2).trans A3)
  simp only [size_alloc] at b0 c0 d0
  simp only [newP, newA] at eW a0 b0 c0 d0 HS0
  rw [← eW] at a0 b0 c0 d0 HS0
  clear A1 A2 A3
  have HN := hid (show w.heap.size ≠ w.heap.size + 1 ∧ w.heap.size ≠ w.heap.size + 1 + 1 ∧ w.heap.size + 1 ≠ w.heap.size + 1 + 1 ∧ w.heap.size + 1 + 1 ≠ w.heap.size + 1 ∧ w.heap.size + 1 + 1 + 1 ≠ w.heap.size + 1 ∧ w.heap.size + 1 + 1 + 1 ≠ w.heap.size + 1 + 1 by omega)
  have HB := hid (show w.heap.size ≤ w.heap.size + 1 ∧ w.heap.size ≤ w.heap.size + 1 + 1 ∧ w.heap.size ≤ w.heap.size + 1 + 1 + 1 by omega)
  have pb := stp_in p
  have qb := stp_in q
  rw [eP] at pb
  rw [eQ] at qb
  obtain ⟨p0, p1⟩ := pb
  obtain ⟨q0, q1⟩ := qb
  have rb := clamp_r n
  rw [er] at rb
  obtain ⟨r0, r1⟩ := rb
  have hX : inB2 X := by rw [← eX]; exact ⟨bnd_lo _, bnd_hi _⟩
  have hY : inB2 Y := by rw [← eY]; exact ⟨bnd_lo _, bnd_hi _⟩
  have hX1 : inB2 X1 := by rw [← eX1]; exact addf_in _ _
  have hY1 : inB2 Y1 := by rw [← eY1]; exact addf_in _ _
  have kl : k ≤ P.natAbs := by rw [← ek]; exact kX_le ..
  have ll : l ≤ Q.natAbs := by rw [← el]; exact kY_le ..
  have HK : Hid (∀ u : World, Calls Try.prog 30 #[ar C R s, pt X Y, pt P 0, .int .i64 r] u fun e w' => e = .returned (.tuple #[pt X1 Y1, .bool (decide (k = P.natAbs))]) ∧ Still u w') := hid (fun u => by
    have h := slideOn_any C R X Y P 0 r s hz hX hY r0 r1 p0 p1 (by omega) (by omega) (.inr rfl) P.natAbs k (by simp) (by rw [← ek]; rfl) u
    rw [show atS X (sgn P) k = X1 from eX1, show atS Y (sgn 0) k = Y1 by rw [← eY1]; unfold atS; rw [show sgn 0 = 0 by decide, Int.zero_mul]] at h
    exact h)
  have HL : Hid (∀ u : World, Calls Try.prog 30 #[ar C R s, pt X1 Y1, pt 0 Q, .int .i64 r] u fun e w' => e = .returned (.tuple #[pt X2 Y2, .bool (decide (l = Q.natAbs))]) ∧ Still u w') := hid (fun u => by
    have h := slideOn_any C R X1 Y1 0 Q r s hz hX1 hY1 r0 r1 (by omega) (by omega) q0 q1 (.inl rfl) Q.natAbs l (by simp) (by rw [← el]; rfl) u
    rw [show atS Y1 (sgn Q) l = Y2 from eY2, show atS X1 (sgn 0) l = X2 by rw [← eX2]; unfold atS; rw [show sgn 0 = 0 by decide, Int.zero_mul]] at h
    exact h)
  have HC1 : Hid (∀ u : World, Calls Try.prog 27 #[pt x y] u fun e w' => e = .returned (pt X Y) ∧ Still u w') := hid (fun u => by
    have h := gbound_any x y u
    rw [eX, eY] at h
    exact h)
  have HC2 : Hid (∀ u : World, Calls Try.prog 28 #[pt p q] u fun e w' => e = .returned (pt P Q) ∧ Still u w') := hid (fun u => by
    have h := step_any p q u
    rw [eP, eQ] at h
    exact h)
  have HC3 : Hid (∀ u : World, Calls Try.prog 29 #[.int .i64 n, .int .i64 0, .int .i64 4096] u fun e w' => e = .returned (.int .i64 r) ∧ w' = u) := hid (fun u => by
    have h := aclr n u
    rw [er] at h
    exact h)
  clear eX eY eP eQ er ek eX1 eY1 el eX2 eY2 hX hY hX1 hY1
  have f0 := Cl.cell b0.cells.1
  have f1 := Cl.cell b0.cells.2.1
  have f2 := Cl.cell c0.cells.1
  have f3 := Cl.cell c0.cells.2.1
  have hne := Aft.here W
  have HW := hid eW
  clear eW
  go_enter Try.func12, Try.ntmps12
  go_wp2_with fail
  have e := HW.out
  rw [← e]
  clear e HW
  refine region_rest 6 (by kernel_rfl) (by kernel_rfl) ?_
  simp only [List.take_succ_cons, List.take_zero, List.drop_succ_cons, List.drop_zero]
  repeat (go_big_quiet_step ((first | (go_at_call 27; exact Calls.cl (HC1.out _)) | (go_at_call 28; exact Calls.cl (HC2.out _)) | (go_at_call 29; exact Calls.cl_same (HC3.out _)))))
  refine wpQuiet_nil ?_
  intro w1 h1
  clear hne f0 f1 f2 f3 HC1 HC2 HC3
  have b1 := (b0.still h1).set X Y
  have c1 := setP_pb (c0.still h1) HN.out.2.2.2.1 X Y
  have a1 := setP_ab (a0.still h1) HN.out.1 X Y
  have d1 := setP_pb (d0.still h1) HN.out.2.2.2.2.1 X Y
  have HS1 := hid (setP_fr (HS0.out.trans h1) (w.heap.size + 1) X Y (.inr HB.out.1))
  have b2 := setP_pb b1 HN.out.2.2.1 P Q
  have a2 := setP_ab a1 HN.out.2.1 P Q
  have c2 := c1.set P Q
  have d2 := setP_pb d1 HN.out.2.2.2.2.2 P Q
  have HS2 := hid (setP_fr HS1.out (w.heap.size + 1 + 1) P Q (.inr HB.out.2.1))
  obtain ⟨f0, f1, ff⟩ := (b0.still h1).cells
  obtain ⟨m0, m1, mf⟩ := c1.cells
  clear a0 b0 c0 d0 HS0 h1 a1 b1 c1 d1 HS1
  obtain ⟨g0, g1, gf⟩ := c2.cells
  obtain ⟨i0, i1, i2, jf⟩ := a2.cells
  obtain ⟨o0, o1, of⟩ := b2.cells
  have hk : (decide (k = P.natAbs) = true ∧ (if k < P.natAbs then (1 : Int) else 0) = 0) ∨ (decide (k = P.natAbs) = false ∧ (if k < P.natAbs then (1 : Int) else 0) = 1) := by
    by_cases h : k = P.natAbs
    · exact .inl ⟨decide_eq_true h, if_neg (by omega)⟩
    · exact .inr ⟨decide_eq_false h, if_pos (by omega)⟩
  have hl : (decide (l = Q.natAbs) = true ∧ (if l < Q.natAbs then (2 : Int) else 0) = 0) ∨ (decide (l = Q.natAbs) = false ∧ (if l < Q.natAbs then (2 : Int) else 0) = 2) := by
    by_cases h : l = Q.natAbs
    · exact .inl ⟨decide_eq_true h, if_neg (by omega)⟩
    · exact .inr ⟨decide_eq_false h, if_pos (by omega)⟩
  rcases hk with ⟨hk, sk⟩ | ⟨hk, sk⟩ <;> rcases hl with ⟨hl, sl⟩ | ⟨hl, sl⟩
  all_goals
    have HD := hid (And.intro sk sl)
    clear sk sl kl ll
    rw [hk] at HK
    rw [hl] at HL
    clear hk hl
    go_wp2_with fail
    refine (HK.out _).mono ?_
    rintro e w3 ⟨rfl, h3⟩
    have b3 := (b2.still h3).set X1 Y1
    have c3 := setP_pb (c2.still h3) HN.out.2.2.2.1 X1 Y1
    have a3 := setP_ab (a2.still h3) HN.out.1 X1 Y1
    have d3 := setP_pb (d2.still h3) HN.out.2.2.2.2.1 X1 Y1
    have HS3 := hid (setP_fr (Still.trans HS2.out h3) (w.heap.size + 1) X1 Y1 (.inr HB.out.1))
    clear f0 f1 ff m0 m1 mf g0 g1 gf i0 i1 i2 jf o0 o1 of
    obtain ⟨f0, f1, ff⟩ := (b2.still h3).cells
    clear a2 b2 c2 d2 HS2 h3
    obtain ⟨g0, g1, gf⟩ := c3.cells
    obtain ⟨i0, i1, i2, jf⟩ := a3.cells
    obtain ⟨o0, o1, of⟩ := b3.cells
    go_wp2_with fail
    refine (HL.out _).mono ?_
    rintro e w4 ⟨rfl, h4⟩
    have b4 := (b3.still h4).set X2 Y2
    have d4 := setP_pb (d3.still h4) HN.out.2.2.2.2.1 X2 Y2
    have HS4 := hid (setP_fr (Still.trans HS3.out h4) (w.heap.size + 1) X2 Y2 (.inr HB.out.1))
    clear f0 f1 ff g0 g1 gf i0 i1 i2 jf o0 o1 of
    obtain ⟨f0, f1, ff⟩ := (b3.still h4).cells
    clear a3 b3 c3 d3 HS3 h4
    obtain ⟨o0, o1, of⟩ := b4.cells
    obtain ⟨i0, i1, jf⟩ := d4.cells
    go_wp2_with fail
    (try simp only [Exit.inBlock, Exit.then])
    exact bodyPost_ret ((d4.set _ _).rest rfl _ _ rfl rfl) rfl ⟨by unfold side; rw [HD.out.1, HD.out.2]; rfl, setP_fr HS4.out _ _ _ (.inr HB.out.2.2)⟩
end Go.Proofs.Ytnoaomocdmkigab
namespace Go.Proofs.Ytnoaomocdmkigab
open Go.RowKit
open Pu Gp Ap

set_option maxHeartbeats 4000000 in
set_option maxRecDepth 100000 in
theorem ray_any (C R x y p q : Int) (s : ByteArray) (hz : s.size ≤ 281474976710656) (X Y P Q : Int) (n k : Nat)
    (eX : bnd x = X) (eY : bnd y = Y) (eP : stp p = P) (eQ : stp q = Q) (en : rayN P Q = n) (ek : go (rayT (solB C R s) X Y P Q n) n = k) (w : World) :
    Calls Try.prog 17 #[ar C R s, pt x y, pt p q] w fun e w' => e = .returned (.tuple #[pt (rp X P n k) (rp Y Q n k), .bool (decide (k < n))]) ∧ Still w w' := by
  obtain ⟨W, eW⟩ : ∃ W, W = newP (newP (newP (newA w C R s) x y) p q) 0 0 := ⟨_, rfl⟩
  have A1 := Still.alloc (newA w C R s) (.cells #[.int .i64 x, .int .i64 y] 32)
  have A2 := Still.alloc (newP (newA w C R s) x y) (.cells #[.int .i64 p, .int .i64 q] 32)
  have A3 := Still.alloc (newP (newP (newA w C R s) x y) p q) (.cells #[.int .i64 0, .int .i64 0] 32)
  have a0 := (((newA_ab w C R s).still A1).still A2).still A3
  have b0 := ((newP_pb (newA w C R s) x y).still A2).still A3
  have c0 := (newP_pb (newP (newA w C R s) x y) p q).still A3
  have d0 := newP_pb (newP (newP (newA w C R s) x y) p q) 0 0
  have HS0 := hid ((((Still.alloc w (.cells #[.int .i64 C, .int .i64 R, .string s] 23)).trans A1).trans A2).trans A3)
  simp only [size_alloc] at b0 c0 d0
  simp only [newP, newA] at eW a0 b0 c0 d0 HS0
  rw [← eW] at a0 b0 c0 d0 HS0
  clear A1 A2 A3
  have HN := hid (show w.heap.size ≠ w.heap.size + 1 ∧ w.heap.size ≠ w.heap.size + 1 + 1 ∧ w.heap.size + 1 ≠ w.heap.size + 1 + 1 ∧ w.heap.size + 1 + 1 ≠ w.heap.size + 1 ∧ w.heap.size + 1 + 1 + 1 ≠ w.heap.size + 1 ∧ w.heap.size + 1 + 1 + 1 ≠ w.heap.size + 1 + 1 by omega)
  have HB := hid (show w.heap.size ≤ w.heap.size + 1 ∧ w.heap.size ≤ w.heap.size + 1 + 1 ∧ w.heap.size ≤ w.heap.size + 1 + 1 + 1 by omega)
  have pb := stp_in p
  have qb := stp_in q
  rw [eP] at pb
  rw [eQ] at qb
  obtain ⟨p0, p1⟩ := pb
  obtain ⟨q0, q1⟩ := qb
  have n1 : n ≤ 32 := by rw [← en]; unfold rayN; omega
  have HC1 : Hid (∀ u : World, Calls Try.prog 27 #[pt x y] u fun e w' => e = .returned (pt X Y) ∧ Still u w') := hid (fun u => by
    have h := gbound_any x y u
    rw [eX, eY] at h
    exact h)
  have HC2 : Hid (∀ u : World, Calls Try.prog 28 #[pt p q] u fun e w' => e = .returned (pt P Q) ∧ Still u w') := hid (fun u => by
    have h := step_any p q u
    rw [eP, eQ] at h
    exact h)
  have HE := hid (And.intro en ek)
  have hd : (((max P.natAbs Q.natAbs : Nat) : Int) + 64 - 1) / 64 = (n : Int) := by unfold rayN at en; omega
  obtain ⟨M, eM⟩ : ∃ M : Nat, max P.natAbs Q.natAbs = M := ⟨_, rfl⟩
  have hM : M ≤ 2048 := by omega
  have HC3 : Hid (∀ u : World, Calls Try.prog 35 #[pt P Q] u fun e w' => e = .returned (.int .i64 (M : Int)) ∧ Still u w') := hid (fun u => by
    have h := asize_any P Q p0 p1 q0 q1 u
    rw [eM] at h
    exact h)
  rw [eM] at hd
  clear eX eY eP eQ ek eM en
  have f0 := Cl.cell b0.cells.1
  have f1 := Cl.cell b0.cells.2.1
  have f2 := Cl.cell c0.cells.1
  have f3 := Cl.cell c0.cells.2.1
  have hne := Aft.here W
  have HW := hid eW
  clear eW
  go_enter Try.func17, Try.ntmps17
  go_wp2_with fail
  have e := HW.out
  rw [← e]
  clear e HW
  refine region_rest 4 (by kernel_rfl) (by kernel_rfl) ?_
  simp only [List.take_succ_cons, List.take_zero, List.drop_succ_cons, List.drop_zero]
  repeat (go_big_quiet_step ((first | (go_at_call 27; exact Calls.cl (HC1.out _)) | (go_at_call 28; exact Calls.cl (HC2.out _)))))
  refine wpQuiet_nil ?_
  intro w1 h1
  clear hne f0 f1 f2 f3 HC1 HC2
  have b1 := (b0.still h1).set X Y
  have c1 := setP_pb (c0.still h1) HN.out.2.2.2.1 X Y
  have a1 := setP_ab (a0.still h1) HN.out.1 X Y
  have d1 := setP_pb (d0.still h1) HN.out.2.2.2.2.1 X Y
  have HS1 := hid (setP_fr (HS0.out.trans h1) (w.heap.size + 1) X Y (.inr HB.out.1))
  have b2 := setP_pb b1 HN.out.2.2.1 P Q
  have a2 := setP_ab a1 HN.out.2.1 P Q
  have c2 := c1.set P Q
  have d2 := setP_pb d1 HN.out.2.2.2.2.2 P Q
  have HS2 := hid (setP_fr HS1.out (w.heap.size + 1 + 1) P Q (.inr HB.out.2.1))
  obtain ⟨f0, f1, ff⟩ := (b0.still h1).cells
  obtain ⟨m0, m1, mf⟩ := c1.cells
  clear a0 b0 c0 d0 HS0 h1 a1 b1 c1 d1 HS1
  obtain ⟨g0, g1, gf⟩ := c2.cells
  go_wp2_with fail
  refine (HC3.out _).mono ?_
  rintro e w3 ⟨rfl, h3⟩
  have A3 := Still.alloc w3 (.cells #[.int .i64 X, .int .i64 Y] 32)
  have a3 := (a2.still h3).still A3
  have b3 := (b2.still h3).still A3
  have c3 := (c2.still h3).still A3
  have d3 := (d2.still h3).still A3
  have v3 := newP_pb w3 X Y
  have HS3 := hid ((Still.trans HS2.out h3).trans A3)
  have NL := hid (show w.heap.size + 1 + 1 + 1 < w3.heap.size from block_lt (d2.still h3))
  clear f0 f1 ff m0 m1 mf g0 g1 gf HC3
  obtain ⟨o0, o1, of⟩ := (b2.still h3).cells
  clear a2 b2 c2 d2 HS2 h3 A3
  have HP : Hid (∀ (g : Nat), g ≤ 33 → 1 ≤ n → ∀ u : World, Calls Try.prog 36 #[pt X Y, pt P Q, .int .i64 (g : Int), .int .i64 (n : Int)] u fun e w' => e = .returned (pt (addf X ((P * (g : Int)).tdiv (n : Int))) (addf Y ((Q * (g : Int)).tdiv (n : Int)))) ∧ Still u w') := hid (fun g hg h1 u =>
    apart_any X Y P Q g n p0 p1 q0 q1 (by omega) h1 (by omega) u)
  go_wp2_with fail
  rw [hd]
  clear hd o0 o1 of
  go_loopw [10] (fun vj wr => ∃ j : Nat, 1 ≤ j ∧ j ≤ n + 1 ∧ vj = .int .i64 (j : Int) ∧ (∀ i, 1 ≤ i → i < j → rayT (solB C R s) X Y P Q n i = false) ∧ Ab wr w.heap.size C R s ∧ Pb wr (w.heap.size + 1) X Y ∧ Pb wr (w.heap.size + 1 + 1) P Q ∧ Pb wr (w.heap.size + 1 + 1 + 1) 0 0 ∧
      Pb wr w3.heap.size (rp X P n (j - 1)) (rp Y Q n (j - 1)) ∧ Still w wr) (fun vj _ => n + 1 - (intOf vj).toNat)
  case atStart => exact ⟨1, by omega, by omega, rfl, fun i h1 h2 => by omega, a3, b3, c3, d3, v3, HS3.out⟩
  case round =>
    obtain ⟨j, j1, j2, rfl, hfree, a4, b4, c4, d4, v4, hs⟩ := hrel
    have HF := hid hfree
    have HS4 := hid hs
    clear hfree hs a3 b3 c3 d3 v3 HS3
    by_cases hlt : j ≤ n
    · obtain ⟨NX, eNX⟩ : ∃ NX, addf X ((P * (j : Int)).tdiv (n : Int)) = NX := ⟨_, rfl⟩
      obtain ⟨NY, eNY⟩ : ∃ NY, addf Y ((Q * (j : Int)).tdiv (n : Int)) = NY := ⟨_, rfl⟩
      have bX : -2147483647 ≤ NX ∧ NX ≤ 2147483647 := by rw [← eNX]; exact ⟨bnd_lo _, bnd_hi _⟩
      have bY : -2147483647 ≤ NY ∧ NY ≤ 2147483647 := by rw [← eNY]; exact ⟨bnd_lo _, bnd_hi _⟩
      have HR := hid (show rp X P n j = NX ∧ rp Y Q n j = NY by
        unfold rp; rw [if_neg (by omega), if_neg (by omega)]; exact ⟨eNX, eNY⟩)
      have HA : Hid (∀ u : World, Calls Try.prog 36 #[pt X Y, pt P Q, .int .i64 (j : Int), .int .i64 (n : Int)] u fun e w' => e = .returned (pt NX NY) ∧ Still u w') := hid (fun u => by
        have h := HP.out j (by omega) (by omega) u
        rw [eNX, eNY] at h
        exact h)
      clear eNX eNY
      obtain ⟨m0, m1, mf⟩ := b4.cells
      obtain ⟨g0, g1, gf⟩ := c4.cells
      go_wp2_with fail
      refine (HA.out _).mono ?_
      rintro e w5 ⟨rfl, h5⟩
      have A5 := Still.alloc w5 (.cells #[.int .i64 NX, .int .i64 NY] 32)
      have a5 := (a4.still h5).still A5
      have b5 := (b4.still h5).still A5
      have c5 := (c4.still h5).still A5
      have d5 := (d4.still h5).still A5
      have v5 := (v4.still h5).still A5
      have y5 := newP_pb w5 NX NY
      have HS5 := hid ((HS4.out.trans h5).trans A5)
      clear a4 b4 c4 d4 v4 HS4 h5 A5 HA m0 m1 mf g0 g1 gf
      obtain ⟨o0, o1, of⟩ := y5.cells
      go_wp2_with fail
      refine (cellAt_any NX NY bX.1 bX.2 bY.1 bY.2 _).mono ?_
      rintro e w6 ⟨rfl, h6⟩
      have a6 := a5.still h6
      have b6 := b5.still h6
      have c6 := c5.still h6
      have d6 := d5.still h6
      have v6 := v5.still h6
      have y6 := y5.still h6
      have HS6 := hid (HS5.out.trans h6)
      clear a5 b5 c5 d5 v5 y5 HS5 h6 o0 o1 of bX bY
      obtain ⟨i0, i1, i2, jf⟩ := a6.cells
      go_wp2_with fail
      cases hsol : solB C R s (dn NX) (dn NY) with
      | true =>
        have HK := hid (show j - 1 = k by
          rw [← HE.out.2]
          refine (go_one (by omega) (fun i h1 h2 => HF.out i h1 (by omega)) (fun _ => ?_)).symm
          rw [show j - 1 + 1 = j by omega]
          unfold rayT
          rw [HR.out.1, HR.out.2]
          exact hsol)
        refine (solid_is C R (dn NX) (dn NY) s hz hsol _).mono ?_
        rintro e w7 ⟨rfl, h7⟩
        have v7 := v6.still h7
        have d7 := d6.still h7
        have HS7 := hid (HS6.out.trans h7)
        clear hsol a6 b6 c6 d6 v6 y6 HS6 h7 i0 i1 i2 jf
        obtain ⟨i0, i1, jf⟩ := v7.cells
        obtain ⟨o0, o1, of⟩ := d7.cells
        go_wp2_with fail
        (try simp only [Exit.inBlock, Exit.then])
        exact bodyPost_ret ((d7.set _ _).rest rfl _ _ rfl rfl) rfl ⟨by rw [HK.out, decide_eq_true (show k < n by have := HK.out; omega)]; rfl, setP_fr HS7.out _ _ _ (.inr HB.out.2.2)⟩
      | false =>
        have HV := hid (show rayT (solB C R s) X Y P Q n j = false by
          unfold rayT
          rw [HR.out.1, HR.out.2]
          exact hsol)
        refine (solid_is C R (dn NX) (dn NY) s hz hsol _).mono ?_
        rintro e w7 ⟨rfl, h7⟩
        have l1 : w.heap.size ≠ w3.heap.size := by have := NL.out; omega
        have l2 : w.heap.size + 1 ≠ w3.heap.size := by have := NL.out; omega
        have l3 : w.heap.size + 1 + 1 ≠ w3.heap.size := by have := NL.out; omega
        have l4 : w.heap.size + 1 + 1 + 1 ≠ w3.heap.size := by have := NL.out; omega
        have a7 := setP_ab (a6.still h7) l1 NX NY
        have b7 := setP_pb (b6.still h7) l2 NX NY
        have c7 := setP_pb (c6.still h7) l3 NX NY
        have d7 := setP_pb (d6.still h7) l4 NX NY
        have v7 := (v6.still h7).set NX NY
        have HS7 := hid (setP_fr (Still.trans HS6.out h7) w3.heap.size NX NY (.inr (by have := NL.out; omega)))
        obtain ⟨q2, q3, qf⟩ := (v6.still h7).cells
        obtain ⟨s2, s3, sf⟩ := (y6.still h7).cells
        clear hsol a6 b6 c6 d6 v6 y6 HS6 h7 i0 i1 i2 jf l1 l2 l3 l4
        go_wp2_with fail
        go_roundw
        case rel => exact ⟨j + 1, by omega, by omega, by go_num, fun i h1 h2 => by
            by_cases e : i = j
            · subst e; exact HV.out
            · exact HF.out i h1 (by omega), a7, b7, c7, d7, by
              rw [Nat.add_sub_cancel, HR.out.1, HR.out.2]; exact v7, HS7.out⟩
        case measure => simp [intOf]; omega
    · have HK := hid (show j - 1 = k by
        rw [← HE.out.2]
        exact (go_one (by omega) (fun i h1 h2 => HF.out i h1 (by omega)) (fun h => by omega)).symm)
      obtain ⟨i0, i1, jf⟩ := v4.cells
      obtain ⟨o0, o1, of⟩ := d4.cells
      go_wp2_with fail
      (try simp only [Exit.inBlock, Exit.then])
      exact bodyPost_ret ((d4.set _ _).rest rfl _ _ rfl rfl) rfl ⟨by rw [HK.out, decide_eq_false (show ¬ k < n by have := HK.out; omega)]; rfl, setP_fr HS4.out _ _ _ (.inr HB.out.2.2)⟩
end Go.Proofs.Ytnoaomocdmkigab
