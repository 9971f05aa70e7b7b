/- A body that slides: the document's answer. -/
import Derived.Test.YtaalbkmdmocdeaaDoorAl
namespace Go.Proofs.YtaalbkmdmocdeaaDoor
open Go.RowKit
open Pu Gp Ap

theorem rsignOf_any (n : Int) (w : World) : Calls Tryd.prog 74 #[.int .i64 n] w fun e w' => e = .returned (.int .i64 (sgn n)) ∧ w' = w := by
  unfold sgn
  by_cases h1 : 0 < n
  · rw [if_pos h1]
    go_enter Tryd.func74, Tryd.ntmps74
    go_wp2
    go_ret
    exact ⟨rfl, rfl⟩
  · by_cases h2 : n < 0
    · rw [if_neg h1, if_pos h2]
      go_enter Tryd.func74, Tryd.ntmps74
      go_wp2
      go_ret
      exact ⟨rfl, rfl⟩
    · rw [if_neg h1, if_neg h2]
      go_enter Tryd.func74, Tryd.ntmps74
      go_wp2
      go_ret
      exact ⟨rfl, rfl⟩
theorem sgn_in (n : Int) : -1 ≤ sgn n ∧ sgn n ≤ 1 := by
  unfold sgn
  repeat' split
  all_goals omega
/-- the size of a number that is no more than a step -/
theorem rabs_s (n : Int) (h0 : -2048 ≤ n) (h1 : n ≤ 2048) (w : World) : Calls Tryd.prog 73 #[.int .i64 n] w fun e w' => e = .returned (.int .i64 (n.natAbs : Nat)) ∧ w' = w := by
  have eb := bnd_id (n := n) (by omega) (by omega)
  by_cases h : n < 0
  · rw [show ((n.natAbs : Nat) : Int) = -n by omega]
    go_enter Tryd.func73, Tryd.ntmps73
    go_wp2_with (go_at_call 52; refine (rbound_any _ _).mono ?_; rintro e w' ⟨he, hw⟩; rw [he, hw, eb]; clear he hw w')
    go_ret
    exact ⟨rfl, rfl⟩
  · rw [show ((n.natAbs : Nat) : Int) = n by omega]
    go_enter Tryd.func73, Tryd.ntmps73
    go_wp2_with (go_at_call 52; refine (rbound_any _ _).mono ?_; rintro e w' ⟨he, hw⟩; rw [he, hw, eb]; clear he hw w')
    go_ret
    exact ⟨rfl, rfl⟩
theorem rstep_any (x y : Int) (w : World) : Calls Tryd.prog 72 #[pt x y] w fun e w' => e = .returned (pt (stp x) (stp y)) ∧ Still w w' := by
  obtain ⟨W, eW⟩ : ∃ W, W = (newP (newP w x y) 0 0) := ⟨_, rfl⟩
  have p0 : Pb W (w.heap.size) x y := by rw [eW]; have h := newP_pb w x y; exact (h.still (Still.alloc _ _))
  have c00 := Cl.cell p0.cells.1
  have c01 := Cl.cell p0.cells.2.1
  clear p0
  have r : Pb W (w.heap.size + 1) 0 0 := by rw [eW]; have h := newP_pb (newP w x y) 0 0; simp only [size_alloc] at h; exact h
  have HF := hid (show Still w W by rw [eW]; exact ((Still.alloc w _).trans (Still.alloc _ _)))
  have HW := hid eW
  have hne := Aft.here W
  clear eW
  have HB := hid (show w.heap.size ≤ w.heap.size + 1 by omega)
  go_enter Tryd.func72, Tryd.ntmps72
  go_wp2_with fail
  have e := HW.out
  simp only [newP] at e
  rw [← e]
  clear e HW
  refine region_rest 6 (by kernel_rfl) (by kernel_rfl) ?_
  simp only [List.take_succ_cons, List.take_zero, List.drop_succ_cons, List.drop_zero]
  repeat (go_big_quiet_step ((go_at_call 38; exact Calls.cl_same (rclamp_any _ _ _ _))))
  refine wpQuiet_nil ?_
  intro w1 hs
  clear hne c00 c01
  have q := r.still hs
  obtain ⟨d0, d1, df⟩ := q.cells
  go_wp2_with fail
  (try simp only [Exit.inBlock, Exit.then])
  exact bodyPost_ret ((q.set _ _).res rfl _ rfl) rfl ⟨rfl, setP_fr (HF.out.trans hs) _ _ _ (.inr HB.out)⟩
theorem setP_size (w : World) (b : Nat) (x y : Int) : (setP w b x y).heap.size = w.heap.size := by simp [setP, World.setCell]
theorem setP_ab {w : World} {b g : Nat} {C R : Int} {s : ByteArray} (h : Ab w b C R s) (hb : b ≠ g) (x y : Int) : Ab (setP w g x y) b C R s := by
  unfold Ab
  rw [heap_setCell_other _ _ _ _ hb, heap_setCell_other _ _ _ _ hb]
  exact h
theorem setP_pb {w : World} {b g : Nat} {p q : Int} (h : Pb w b p q) (hb : b ≠ g) (x y : Int) : Pb (setP w g x y) b p q := by
  unfold Pb
  rw [heap_setCell_other _ _ _ _ hb, heap_setCell_other _ _ _ _ hb]
  exact h
theorem Pb.rest {fn : Func} {p q : Tmp} {w : World} {g : Nat} {x y : Int} (hb : Pb w g x y) (h : fn.results = #[.cell p 23, .tmp q]) (tmps : Array Value) (t : Value) (hp : tmps.getD p undef = .pointer (some ⟨g, 0, none⟩)) (hq : tmps.getD q undef = t) :
    (results fn tmps).run Tryd.prog w = .ok (.tuple #[pt x y, t]) w := by
  rw [results_cell_tmp h, hp, hq]
  simp [asAddr, Result.andThen, load_pt w g x y hb.cells.1 hb.cells.2.1]
/-- how far on X, how far on Y -/
def kX (sol : Int → Int → Bool) (r X Y p : Int) : Nat := go (fun j => bdy sol r (atS X (sgn p) j) (atS Y 0 j)) p.natAbs
def kY (sol : Int → Int → Bool) (r X Y q : Int) : Nat := go (fun j => bdy sol r (atS X 0 j) (atS Y (sgn q) j)) q.natAbs
def side (k n l m : Nat) : Int := (if k < n then 1 else 0) + (if l < m then 2 else 0)
theorem kX_le (sol : Int → Int → Bool) (r X Y p : Int) : kX sol r X Y p ≤ p.natAbs := go_le _ _
theorem kY_le (sol : Int → Int → Bool) (r X Y q : Int) : kY sol r X Y q ≤ q.natAbs := go_le _ _
theorem sgn_mul {s : Int} {k : Nat} (h0 : -1 ≤ s) (h1 : s ≤ 1) (hk : k ≤ 2048) : -2048 ≤ s * (k : Int) ∧ s * (k : Int) ≤ 2048 := by
  have : s = -1 ∨ s = 0 ∨ s = 1 := by omega
  rcases this with rfl | rfl | rfl <;> omega
theorem clamp_r (n : Int) : 0 ≤ clampf n 0 4096 ∧ clampf n 0 4096 ≤ 4096 := by
  have h1 : bnd 0 = 0 := by decide
  have h2 : bnd 4096 = 4096 := by decide
  unfold clampf
  rw [h1, h2]
  repeat' split
  all_goals omega
set_option maxHeartbeats 4000000 in
theorem rslide_any (C R x y p q n : Int) (s : ByteArray) (hz : s.size ≤ 281474976710656) (hC : C ≤ 9223372036854775807) (X Y P Q r X1 Y1 X2 Y2 : Int) (k l : Nat)
    (eX : bnd x = X) (eY : bnd y = Y) (eP : stp p = P) (eQ : stp q = Q) (er : clampf n 0 4096 = r) (ek : kX (solB C R s) r X Y P = k) (eX1 : addf X (sgn P * (k : Int)) = X1) (eY1 : addf Y 0 = Y1)
    (el : kY (solB C R s) r X1 Y1 Q = l) (eX2 : addf X1 0 = X2) (eY2 : addf Y1 (sgn Q * (l : Int)) = Y2) (w : World) :
    Calls Tryd.prog 39 #[ar C R s, pt x y, pt p q, .int .i64 n] w fun e w' => e = .returned (.tuple #[pt X2 Y2, .int .i64 (side k P.natAbs l Q.natAbs)]) ∧ Still w w' := by
  have A0 := Still.alloc w (.cells #[.int .i64 C, .int .i64 R, .string s] 37)
  have A1 := Still.alloc (newA w C R s) (.cells #[.int .i64 x, .int .i64 y] 23)
  have A2 := Still.alloc (newP (newA w C R s) x y) (.cells #[.int .i64 p, .int .i64 q] 23)
  have A3 := Still.alloc (newP (newP (newA w C R s) x y) p q) (.cells #[.int .i64 0, .int .i64 0] 23)
  have a0 := (((newA_ab w C R s).still A1).still A2).still A3
  have b0 := ((newP_pb (newA w C R s) x y).still A2).still A3
  have c0 := (newP_pb (newP (newA w C R s) x y) p q).still A3
  have d0 := newP_pb (newP (newP (newA w C R s) x y) p q) 0 0
  simp only [size_alloc] at b0 c0 d0
  have HS0 := hid (((A0.trans A1).trans A2).trans A3)
  clear A0 A1 A2 A3
  have n1 : w.heap.size ≠ w.heap.size + 1 := by omega
  have n2 : w.heap.size ≠ w.heap.size + 1 + 1 := by omega
  have n3 : w.heap.size + 1 ≠ w.heap.size + 1 + 1 := by omega
  have n4 : w.heap.size + 1 + 1 ≠ w.heap.size + 1 := by omega
  have n5 : w.heap.size + 1 + 1 + 1 ≠ w.heap.size + 1 := by omega
  have n6 : w.heap.size + 1 + 1 + 1 ≠ w.heap.size + 1 + 1 := by omega
  have HN := hid (And.intro n1 (And.intro n2 (And.intro n3 (And.intro n4 (And.intro n5 n6)))))
  have HB := hid (show w.heap.size ≤ w.heap.size + 1 ∧ w.heap.size ≤ w.heap.size + 1 + 1 ∧ w.heap.size ≤ w.heap.size + 1 + 1 + 1 by omega)
  have pb := stp_in p
  have qb := stp_in q
  rw [eP] at pb
  rw [eQ] at qb
  obtain ⟨p0, p1⟩ := pb
  obtain ⟨q0, q1⟩ := qb
  have rb := clamp_r n
  rw [er] at rb
  obtain ⟨r0, r1⟩ := rb
  have sP := sgn_in P
  have sQ := sgn_in Q
  have kl : k ≤ P.natAbs := by rw [← ek]; exact kX_le ..
  have ll : l ≤ Q.natAbs := by rw [← el]; exact kY_le ..
  have mP := sgn_mul sP.1 sP.2 (show k ≤ 2048 by omega)
  have mQ := sgn_mul sQ.1 sQ.2 (show l ≤ 2048 by omega)
  have HE := hid (And.intro (And.intro eX eY) (And.intro (And.intro eP eQ) (And.intro er (And.intro (And.intro eX1 eY1) (And.intro eX2 eY2)))))
  have HK : Hid (∀ u : World, Calls Tryd.prog 75 #[ar C R s, pt X Y, pt (sgn P) 0, .int .i64 (P.natAbs : Nat), .int .i64 r] u fun e w' => e = .returned (.int .i64 (k : Int)) ∧ Still u w') := hid (fun u => by
    have h := ralong_any C R X Y (sgn P) 0 r s P.natAbs hz hC r0 r1 sP.1 sP.2 (by omega) (by omega) (by omega) u
    rw [show go (fun j => bdy (solB C R s) r (atS X (sgn P) j) (atS Y 0 j)) P.natAbs = k from ek] at h
    exact h)
  have HL : Hid (∀ u : World, Calls Tryd.prog 75 #[ar C R s, pt X1 Y1, pt 0 (sgn Q), .int .i64 (Q.natAbs : Nat), .int .i64 r] u fun e w' => e = .returned (.int .i64 (l : Int)) ∧ Still u w') := hid (fun u => by
    have h := ralong_any C R X1 Y1 0 (sgn Q) r s Q.natAbs hz hC r0 r1 (by omega) (by omega) sQ.1 sQ.2 (by omega) u
    rw [show go (fun j => bdy (solB C R s) r (atS X1 0 j) (atS Y1 (sgn Q) j)) Q.natAbs = l from el] at h
    exact h)
  clear n1 n2 n3 n4 n5 n6 eX eY eP eQ er ek eX1 eY1 el eX2 eY2
  obtain ⟨mP0, mP1⟩ := mP
  obtain ⟨mQ0, mQ1⟩ := mQ
  go_enter Tryd.func39, Tryd.ntmps39
  go_wp2_with fail
  refine (rgbound_any x y _).mono ?_
  rintro e w1 ⟨rfl, h1⟩
  rw [HE.out.1.1, HE.out.1.2]
  obtain ⟨f0, f1, ff⟩ := (b0.still h1).cells
  have a1 := setP_ab (a0.still h1) HN.out.1 X Y
  have b1 := (b0.still h1).set X Y
  have c1 := setP_pb (c0.still h1) HN.out.2.2.2.1 X Y
  have d1 := setP_pb (d0.still h1) HN.out.2.2.2.2.1 X Y
  have HS1 := hid (setP_fr (HS0.out.trans h1) (w.heap.size + 1) X Y (.inr HB.out.1))
  clear a0 b0 c0 d0 HS0 h1
  obtain ⟨g0, g1, gf⟩ := c1.cells
  go_wp2_with fail
  refine (rstep_any p q _).mono ?_
  rintro e w2 ⟨rfl, h2⟩
  rw [HE.out.2.1.1, HE.out.2.1.2]
  clear f0 f1 ff g0 g1 gf
  obtain ⟨f0, f1, ff⟩ := (c1.still h2).cells
  have a2 := setP_ab (a1.still h2) HN.out.2.1 P Q
  have b2 := setP_pb (b1.still h2) HN.out.2.2.1 P Q
  have c2 := (c1.still h2).set P Q
  have d2 := setP_pb (d1.still h2) HN.out.2.2.2.2.2 P Q
  have HS2 := hid (setP_fr (Still.trans HS1.out h2) (w.heap.size + 1 + 1) P Q (.inr HB.out.2.1))
  clear a1 b1 c1 d1 HS1 h2
  have A3 := Still.alloc (setP w2 (w.heap.size + 1 + 1) P Q) (.cells #[.int .i64 (sgn P), .int .i64 0] 23)
  have a3 := a2.still A3
  have b3 := b2.still A3
  have c3 := c2.still A3
  have d3 := d2.still A3
  have v3 := newP_pb (setP w2 (w.heap.size + 1 + 1) P Q) (sgn P) 0
  rw [setP_size] at v3
  have HS3 := hid (Still.trans HS2.out A3)
  obtain ⟨g0, g1, gf⟩ := c2.cells
  obtain ⟨i0, i1, i2, jf⟩ := a3.cells
  obtain ⟨m0, m1, mf⟩ := b3.cells
  obtain ⟨o0, o1, of⟩ := v3.cells
  clear a2 b2 c2 d2 HS2 A3
  go_wp2_with (first | (go_at_call 38; refine (rclamp_any _ _ _ _).mono ?_; rintro e w' ⟨he, hw⟩; rw [he, hw, HE.out.2.2.1]; clear he hw w') | (go_at_call 73; refine (rabs_s _ p0 p1 _).mono ?_; rintro e w' ⟨he, hw⟩; rw [he, hw]; clear he hw w') | (go_at_call 74; refine (rsignOf_any _ _).mono ?_; rintro e w' ⟨he, hw⟩; rw [he, hw]; clear he hw w'))
  refine (HK.out _).mono ?_
  rintro e w4 ⟨rfl, h4⟩
  have a4 := a3.still h4
  have b4 := b3.still h4
  have c4 := c3.still h4
  have d4 := d3.still h4
  have v4 := v3.still h4
  have HS4 := hid (HS3.out.trans h4)
  clear a3 b3 c3 d3 v3 HS3 h4 f0 f1 ff g0 g1 gf i0 i1 i2 jf m0 m1 mf o0 o1 of
  obtain ⟨f0, f1, ff⟩ := b4.cells
  obtain ⟨g0, g1, gf⟩ := v4.cells
  go_wp2_with fail
  refine (rgadd_any X Y _ _ _).mono ?_
  rintro e w5 ⟨rfl, h5⟩
  rw [HE.out.2.2.2.1.1, HE.out.2.2.2.1.2]
  clear f0 f1 ff g0 g1 gf
  obtain ⟨f0, f1, ff⟩ := (b4.still h5).cells
  have a5 := setP_ab (a4.still h5) HN.out.1 X1 Y1
  have b5 := (b4.still h5).set X1 Y1
  have c5 := setP_pb (c4.still h5) HN.out.2.2.2.1 X1 Y1
  have d5 := setP_pb (d4.still h5) HN.out.2.2.2.2.1 X1 Y1
  have HS5 := hid (setP_fr (HS4.out.trans h5) (w.heap.size + 1) X1 Y1 (.inr HB.out.1))
  clear a4 b4 c4 d4 v4 HS4 h5
  have A6 := Still.alloc (setP w5 (w.heap.size + 1) X1 Y1) (.cells #[.int .i64 0, .int .i64 (sgn Q)] 23)
  have a6 := a5.still A6
  have b6 := b5.still A6
  have d6 := d5.still A6
  have v6 := newP_pb (setP w5 (w.heap.size + 1) X1 Y1) 0 (sgn Q)
  rw [setP_size] at v6
  have HS6 := hid (Still.trans HS5.out A6)
  obtain ⟨g0, g1, gf⟩ := c5.cells
  obtain ⟨i0, i1, i2, jf⟩ := a6.cells
  obtain ⟨m0, m1, mf⟩ := b6.cells
  obtain ⟨o0, o1, of⟩ := v6.cells
  clear a5 b5 c5 d5 HS5 A6
  go_wp2_with (first | (go_at_call 73; refine (rabs_s _ q0 q1 _).mono ?_; rintro e w' ⟨he, hw⟩; rw [he, hw]; clear he hw w') | (go_at_call 74; refine (rsignOf_any _ _).mono ?_; rintro e w' ⟨he, hw⟩; rw [he, hw]; clear he hw w'))
  refine (HL.out _).mono ?_
  rintro e w7 ⟨rfl, h7⟩
  have b7 := b6.still h7
  have d7 := d6.still h7
  have v7 := v6.still h7
  have HS7 := hid (HS6.out.trans h7)
  clear a6 b6 d6 v6 HS6 h7 f0 f1 ff g0 g1 gf i0 i1 i2 jf m0 m1 mf o0 o1 of
  obtain ⟨f0, f1, ff⟩ := b7.cells
  obtain ⟨g0, g1, gf⟩ := v7.cells
  go_wp2_with fail
  refine (rgadd_any X1 Y1 _ _ _).mono ?_
  rintro e w8 ⟨rfl, h8⟩
  rw [HE.out.2.2.2.2.1, HE.out.2.2.2.2.2]
  clear f0 f1 ff g0 g1 gf
  obtain ⟨f0, f1, ff⟩ := (b7.still h8).cells
  have b8 := (b7.still h8).set X2 Y2
  have d8 := setP_pb (d7.still h8) HN.out.2.2.2.2.1 X2 Y2
  have HS8 := hid (setP_fr (HS7.out.trans h8) (w.heap.size + 1) X2 Y2 (.inr HB.out.1))
  clear b7 d7 v7 HS7 h8
  obtain ⟨g0, g1, gf⟩ := b8.cells
  obtain ⟨i0, i1, jf⟩ := d8.cells
  have hk : (k < P.natAbs ∧ (if k < P.natAbs then (1 : Int) else 0) = 1) ∨ (¬ k < P.natAbs ∧ (if k < P.natAbs then (1 : Int) else 0) = 0) := by
    by_cases h : k < P.natAbs
    · exact .inl ⟨h, if_pos h⟩
    · exact .inr ⟨h, if_neg h⟩
  have hl : (l < Q.natAbs ∧ (if l < Q.natAbs then (2 : Int) else 0) = 2) ∨ (¬ l < Q.natAbs ∧ (if l < Q.natAbs then (2 : Int) else 0) = 0) := by
    by_cases h : l < Q.natAbs
    · exact .inl ⟨h, if_pos h⟩
    · exact .inr ⟨h, if_neg h⟩
  rcases hk with ⟨hk, sk⟩ | ⟨hk, sk⟩ <;> rcases hl with ⟨hl, sl⟩ | ⟨hl, sl⟩
  all_goals
    have HD := hid (And.intro sk sl)
    clear sk sl kl ll
    go_wp2_with fail
    (try simp only [Exit.inBlock, Exit.then])
    exact bodyPost_ret ((d8.set _ _).rest rfl _ _ rfl rfl) rfl ⟨by unfold side; rw [HD.out.1, HD.out.2]; rfl, setP_fr HS8.out _ _ _ (.inr HB.out.2.2)⟩
end Go.Proofs.YtaalbkmdmocdeaaDoor
