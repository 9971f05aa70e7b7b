/- The program's Start, Hurt. -/
import Derived.Test.YtaalbkmdmocdeaaDoorXc
import Derived.Test.YtaalbkmdmocdeaaDoorXb
import Derived.Test.YtaalbkmdmocdeaaDoorRt
namespace Go.Proofs.YtaalbkmdmocdeaaDoor
open Go.RowKit
open Pu Gp Ap Vp Np
set_option maxRecDepth 100000

set_option maxHeartbeats 400000 in
theorem start8_any (x y f : Int) (w : World) : Calls Tryd.prog 10 #[pt x y, .int .i64 f] w fun e w' => e = .returned (mv (startM x y f)) ∧ Still w w' := by
  have A0 := Still.alloc w (.cells #[.int .i64 x, .int .i64 y] 23)
  have A1 := Still.alloc (newP w x y) (.cells (mcs zM) 25)
  have p := (newP_pb w x y).still A1
  have q := newM_mb (newP w x y) zM
  rw [size_alloc] at q
  have HS0 := hid (A0.trans A1)
  have HT := hid (fun w => turn_any f 0 w)
  rw [Int.add_zero] at HT
  clear A0 A1
  obtain ⟨c0, c1, cf⟩ := p.cells
  go_enter Tryd.func10, Tryd.ntmps10
  go_wp2_with fail
  refine (gbound_any x y _).mono ?_
  rintro e w1 ⟨rfl, h1⟩
  have q1 := q.still h1
  have HS1 := hid (HS0.out.trans h1)
  clear h1 q p HS0 c0 c1 cf
  go_wp2_with fail
  refine (HT.out _).mono ?_
  rintro e w2 ⟨he, hw⟩
  rw [he, hw]
  clear he hw w2
  obtain ⟨c0, c1, c2, c3, c4, c5, c6, c7, c8, c9, c10, c11, c12, cf⟩ := q1.cells
  go_wp2_with fail
  have q2 := q1.set (startM x y f)
  have HF := setM_fr HS1.out (w.heap.size + 1) (startM x y f) (.inr (by omega))
  simp only [startM] at q2 HF
  refine bodyPost_ret (q2.res rfl _ rfl) rfl ?_
  exact ⟨rfl, HF⟩
set_option maxHeartbeats 1000000 in
theorem whurt_no (g : Nat) (m : Mv) (h : Int) (h1 : 1 ≤ h) (h2 : h ≤ 100) (hl1 : 0 ≤ m.hl) (hl2 : m.hl ≤ 100) (hs : m.sh = false) (ha : h < m.hl) (w : World) (hw : Wb w g m) : Calls Tryd.prog 41 #[.pointer (some ⟨g, 0, none⟩), .int .i64 h] w fun e w' => e = .returned (.bool false) ∧ Dn g w w' { m with hl := m.hl - h } := by
  have HF0 := hid (Fr.refl (fun k => k = g) w)
  obtain ⟨c0, c1, c2, c3, c4, c5, c6, c7, c8, c9, c10, c11, c12, cf⟩ := hw.cells
  rw [hs] at c9
  go_enter Tryd.func41, Tryd.ntmps41
  go_wp2_with fail
  go_ret
  exact ⟨rfl, hw.hl _, HF0.out.setCell _ _ (.inl rfl)⟩
set_option maxHeartbeats 1000000 in
theorem whurt_no_out (g : Nat) (m : Mv) (h : Int) (h1 : 1 ≤ h) (h2 : h ≤ 100) (hl1 : 0 ≤ m.hl) (hl2 : m.hl ≤ 100) (hs : m.sh = false) (ha : ¬ h < m.hl) (w : World) (hw : Wb w g m) : Calls Tryd.prog 41 #[.pointer (some ⟨g, 0, none⟩), .int .i64 h] w fun e w' => e = .returned (.bool true) ∧ Dn g w w' (outM m) := by
  have HF0 := hid (Fr.refl (fun k => k = g) w)
  obtain ⟨c0, c1, c2, c3, c4, c5, c6, c7, c8, c9, c10, c11, c12, cf⟩ := hw.cells
  rw [hs] at c9
  have HG : Hid (∀ u, Calls Tryd.prog 54 #[mv { m with hl := m.hl - h, sh := false }, .int .i64 30] u fun e w' => e = .returned (mv (outM m)) ∧ Still u w') := hid (fun u => gone_any { m with hl := m.hl - h, sh := false } 30 u)
  obtain ⟨q, eq⟩ : ∃ q, outM m = q := ⟨_, rfl⟩
  rw [eq] at HG ⊢
  clear eq
  go_enter Tryd.func41, Tryd.ntmps41
  go_wp2_with fail
  have p2 := hw.hl (m.hl - h)
  have HF2 := hid (HF0.out.setCell ⟨g, 7, none⟩ (.int .i64 (m.hl - h)) (.inl rfl))
  refine (HG.out _).mono ?_
  rintro e w3 ⟨rfl, h3⟩
  have p3 := p2.still h3
  have HF3 := hid (Fr.trans HF2.out (Still.to (F := fun k => k = g) h3) fun _ _ e => e)
  clear h3 p2 HF2 c0 c1 c2 c3 c4 c5 c6 c7 c8 c9 c10 c11 c12 cf
  obtain ⟨c0, c1, c2, c3, c4, c5, c6, c7, c8, c9, c10, c11, c12, cf⟩ := p3.cells
  go_wp2_with fail
  go_ret
  refine ⟨rfl, Wb.put p3 _ _ _ _ _ _ _ _ _ _ _ _ _, ?_⟩
  repeat (first | refine Fr.setCell ?_ _ _ (.inl rfl) | with_reducible exact HF3.out)
set_option maxHeartbeats 1000000 in
theorem whurt_sh (g : Nat) (m : Mv) (h : Int) (h1 : 1 ≤ h) (h2 : h ≤ 100) (hl1 : 0 ≤ m.hl) (hl2 : m.hl ≤ 100) (hs : m.sh = true) (he1 : 0 ≤ m.en) (he2 : m.en ≤ 100) (T : Int) (eT : min h m.en = T) (t2 : T ≤ h) (ha : h - T < m.hl) (w : World) (hw : Wb w g m) : Calls Tryd.prog 41 #[.pointer (some ⟨g, 0, none⟩), .int .i64 h] w fun e w' => e = .returned (.bool false) ∧ Dn g w w' { m with en := m.en - T, sh := decide (T < m.en), hl := m.hl - (h - T) } := by
  have HF0 := hid (Fr.refl (fun k => k = g) w)
  obtain ⟨c0, c1, c2, c3, c4, c5, c6, c7, c8, c9, c10, c11, c12, cf⟩ := hw.cells
  rw [hs] at c9
  have HD := hid (wdrain g m h he1 he2 (by omega) h2 w hw)
  rw [eT] at HD
  clear eT he1 he2
  go_enter Tryd.func41, Tryd.ntmps41
  go_wp2_with fail
  refine HD.out.mono ?_
  rintro e w1 ⟨rfl, hd⟩
  have p1 : Wb w1 g { m with en := m.en - T, sh := decide (T < m.en) } := hd.1
  have HF1 := hid hd.2
  clear hd HD hw c0 c1 c2 c3 c4 c5 c6 c7 c8 c9 c10 c11 c12 cf
  obtain ⟨c0, c1, c2, c3, c4, c5, c6, c7, c8, c9, c10, c11, c12, cf⟩ := p1.cells
  go_wp2_with fail
  go_ret
  exact ⟨rfl, p1.hl _, HF1.out.setCell _ _ (.inl rfl)⟩
set_option maxHeartbeats 1000000 in
theorem whurt_sh_out (g : Nat) (m : Mv) (h : Int) (h1 : 1 ≤ h) (h2 : h ≤ 100) (hl1 : 0 ≤ m.hl) (hl2 : m.hl ≤ 100) (hs : m.sh = true) (he1 : 0 ≤ m.en) (he2 : m.en ≤ 100) (T : Int) (eT : min h m.en = T) (t1 : 0 ≤ T) (t2 : T ≤ h) (ha : ¬ h - T < m.hl) (w : World) (hw : Wb w g m) : Calls Tryd.prog 41 #[.pointer (some ⟨g, 0, none⟩), .int .i64 h] w fun e w' => e = .returned (.bool true) ∧ Dn g w w' (outM m) := by
  have HF0 := hid (Fr.refl (fun k => k = g) w)
  obtain ⟨c0, c1, c2, c3, c4, c5, c6, c7, c8, c9, c10, c11, c12, cf⟩ := hw.cells
  rw [hs] at c9
  have HG : Hid (∀ u, Calls Tryd.prog 54 #[mv { m with en := m.en - T, sh := decide (T < m.en), hl := m.hl - (h - T) }, .int .i64 30] u fun e w' => e = .returned (mv (outM m)) ∧ Still u w') := hid (fun u => gone_any { m with en := m.en - T, sh := decide (T < m.en), hl := m.hl - (h - T) } 30 u)
  obtain ⟨q, eq⟩ : ∃ q, outM m = q := ⟨_, rfl⟩
  rw [eq] at HG ⊢
  clear eq
  have HD := hid (wdrain g m h he1 he2 (by omega) h2 w hw)
  rw [eT] at HD
  clear eT he1 he2
  go_enter Tryd.func41, Tryd.ntmps41
  go_wp2_with fail
  refine HD.out.mono ?_
  rintro e w1 ⟨rfl, hd⟩
  have p1 : Wb w1 g { m with en := m.en - T, sh := decide (T < m.en) } := hd.1
  have HF1 := hid hd.2
  clear hd HD hw c0 c1 c2 c3 c4 c5 c6 c7 c8 c9 c10 c11 c12 cf
  obtain ⟨c0, c1, c2, c3, c4, c5, c6, c7, c8, c9, c10, c11, c12, cf⟩ := p1.cells
  go_wp2_with fail
  have p2 := p1.hl (m.hl - (h - T))
  have HF2 := hid (HF1.out.setCell ⟨g, 7, none⟩ (.int .i64 (m.hl - (h - T))) (.inl rfl))
  refine (HG.out _).mono ?_
  rintro e w3 ⟨rfl, h3⟩
  have p3 := p2.still h3
  have HF3 := hid (Fr.trans HF2.out (Still.to (F := fun k => k = g) h3) fun _ _ e => e)
  clear h3 p2 HF2 c0 c1 c2 c3 c4 c5 c6 c7 c8 c9 c10 c11 c12 cf
  obtain ⟨c0, c1, c2, c3, c4, c5, c6, c7, c8, c9, c10, c11, c12, cf⟩ := p3.cells
  go_wp2_with fail
  go_ret
  refine ⟨rfl, Wb.put p3 _ _ _ _ _ _ _ _ _ _ _ _ _, ?_⟩
  repeat (first | refine Fr.setCell ?_ _ _ (.inl rfl) | with_reducible exact HF3.out)
theorem whurt_any (g : Nat) (m : Mv) (h : Int) (hm : May m) (h0 : m.ou = 0) (h1 : 1 ≤ h) (h2 : h ≤ 100) (w : World) (hw : Wb w g m) : Calls Tryd.prog 41 #[.pointer (some ⟨g, 0, none⟩), .int .i64 h] w fun e w' => e = .returned (.bool (went m h)) ∧ Dn g w w' (hurtM m h) := by
  obtain ⟨g1, g2, g3, g4, g5, g6, g7, g8, g9, g10, g11⟩ := hm
  have hz : (m.ou == 0) = true := by simpa using h0
  cases hs : m.sh with
  | false =>
    have et : tak m h = 0 := by unfold tak; rw [hs]; rfl
    by_cases ha : h < m.hl
    · have e1 : went m h = false := by unfold went; rw [et, hz]; simp; omega
      have e2 : hurtM m h = { m with hl := m.hl - h } := by
        unfold hurtM
        rw [if_pos h0, et, if_neg (by omega), hs]
        cases m
        simp_all
      rw [e1, e2]
      exact whurt_no g m h h1 h2 g5.1 g5.2 hs ha w hw
    · have e1 : went m h = true := by unfold went; rw [et, hz]; simp; omega
      have e2 : hurtM m h = outM m := by unfold hurtM; rw [if_pos h0, et, if_pos (by omega)]
      rw [e1, e2]
      exact whurt_no_out g m h h1 h2 g5.1 g5.2 hs ha w hw
  | true =>
    obtain ⟨T, eT⟩ : ∃ T, min h m.en = T := ⟨_, rfl⟩
    have et : tak m h = T := by unfold tak; rw [hs, ← eT, Int.min_comm]; rfl
    have t1 : 0 ≤ T := by rw [← eT]; omega
    have t2 : T ≤ h := by rw [← eT]; omega
    by_cases ha : h - T < m.hl
    · have e1 : went m h = false := by unfold went; rw [et, hz]; simp; omega
      have e2 : hurtM m h = { m with en := m.en - T, sh := decide (T < m.en), hl := m.hl - (h - T) } := by
        unfold hurtM
        rw [if_pos h0, et, if_neg (by omega), hs]
        have : decide (0 < m.en - T) = decide (T < m.en) := by rw [decide_eq_decide]; omega
        rw [this]
        rfl
      rw [e1, e2]
      exact whurt_sh g m h h1 h2 g5.1 g5.2 hs g6.1 g6.2 T eT t2 ha w hw
    · have e1 : went m h = true := by unfold went; rw [et, hz]; simp; omega
      have e2 : hurtM m h = outM m := by unfold hurtM; rw [if_pos h0, et, if_pos (by omega)]
      rw [e1, e2]
      exact whurt_sh_out g m h h1 h2 g5.1 g5.2 hs g6.1 g6.2 T eT t1 t2 ha w hw
theorem hurt_may (m : Mv) (h : Int) (hm : mayB m = false) (w : World) : Calls Tryd.prog 18 #[mv m, .int .i64 h] w fun e w' => e = .returned (.tuple #[mv zM, .bool false, .int .i64 80]) ∧ Still w w' := by
  have A0 := Still.alloc w (.cells (mcs m) 25)
  have A1 := Still.alloc (newM w m) (.cells (mcs zM) 25)
  have p0 := (newM_mb w m).still A1
  have q0 := newM_mb (newM w m) zM
  simp only [size_alloc] at q0
  have HS0 := hid (A0.trans A1)
  clear A0 A1
  obtain ⟨c0, c1, c2, c3, c4, c5, c6, c7, c8, c9, c10, c11, c12, cf⟩ := p0.cells
  have H := hid (fun w => check8_any m w)
  rw [show chkM m = 80 by unfold chkM; rw [hm]; rfl] at H
  clear hm
  go_enter Tryd.func18, Tryd.ntmps18
  go_wp2_with fail
  refine (H.out _).mono ?_
  rintro e w1 ⟨rfl, h1⟩
  have p1 := p0.still h1
  have q1 := q0.still h1
  have HS1 := hid (HS0.out.trans h1)
  clear h1 HS0 p0 q0 c0 c1 c2 c3 c4 c5 c6 c7 c8 c9 c10 c11 c12 cf H
  obtain ⟨c0, c1, c2, c3, c4, c5, c6, c7, c8, c9, c10, c11, c12, cf⟩ := p1.cells
  obtain ⟨k0, k1, k2, k3, k4, k5, k6, k7, k8, k9, k10, k11, k12, kf⟩ := q1.cells
  go_wp2_with fail
  refine bodyPost_ret (Mb.rest3 (Mb.put q1 _ _ _ _ _ _ _ _ _ _ _ _ _) rfl _ _ _ rfl rfl rfl) rfl ⟨rfl, ?_⟩
  repeat (first | refine setC_fr ?_ _ _ _ (by omega) | with_reducible exact HS1.out)
theorem hurt_arg (m : Mv) (h : Int) (hm : mayB m = true) (ha : amg h 1 100 = false) (w : World) : Calls Tryd.prog 18 #[mv m, .int .i64 h] w fun e w' => e = .returned (.tuple #[mv zM, .bool false, .int .i64 1]) ∧ Still w w' := by
  have A0 := Still.alloc w (.cells (mcs m) 25)
  have A1 := Still.alloc (newM w m) (.cells (mcs zM) 25)
  have p0 := (newM_mb w m).still A1
  have q0 := newM_mb (newM w m) zM
  simp only [size_alloc] at q0
  have HS0 := hid (A0.trans A1)
  clear A0 A1
  obtain ⟨c0, c1, c2, c3, c4, c5, c6, c7, c8, c9, c10, c11, c12, cf⟩ := p0.cells
  have H := hid (fun w => check8_any m w)
  rw [show chkM m = 0 by unfold chkM; rw [hm]; rfl] at H
  have HA := hid (fun w => within_any h 1 100 w)
  rw [ha] at HA
  clear hm ha
  go_enter Tryd.func18, Tryd.ntmps18
  go_wp2_with fail
  refine (H.out _).mono ?_
  rintro e w1 ⟨rfl, h1⟩
  have p1 := p0.still h1
  have q1 := q0.still h1
  have HS1 := hid (HS0.out.trans h1)
  clear h1 HS0 p0 q0 c0 c1 c2 c3 c4 c5 c6 c7 c8 c9 c10 c11 c12 cf H
  obtain ⟨c0, c1, c2, c3, c4, c5, c6, c7, c8, c9, c10, c11, c12, cf⟩ := p1.cells
  obtain ⟨k0, k1, k2, k3, k4, k5, k6, k7, k8, k9, k10, k11, k12, kf⟩ := q1.cells
  go_wp2_with fail
  refine (HA.out _).mono ?_
  rintro e w2 ⟨he, hw⟩
  rw [he, hw]
  clear he hw w2
  go_wp2_with fail
  refine bodyPost_ret (Mb.rest3 (Mb.put q1 _ _ _ _ _ _ _ _ _ _ _ _ _) rfl _ _ _ rfl rfl rfl) rfl ⟨rfl, ?_⟩
  repeat (first | refine setC_fr ?_ _ _ _ (by omega) | with_reducible exact HS1.out)
set_option maxHeartbeats 1000000 in
theorem hurt_out (m : Mv) (h : Int) (hm : mayB m = true) (ha : amg h 1 100 = true) (h0 : (m.ou == 0) = false) (w : World) : Calls Tryd.prog 18 #[mv m, .int .i64 h] w fun e w' => e = .returned (.tuple #[mv m, .bool false, .int .i64 0]) ∧ Still w w' := by
  have A0 := Still.alloc w (.cells (mcs m) 25)
  have A1 := Still.alloc (newM w m) (.cells (mcs zM) 25)
  have p0 := (newM_mb w m).still A1
  have q0 := newM_mb (newM w m) zM
  simp only [size_alloc] at q0
  have HS0 := hid (A0.trans A1)
  clear A0 A1
  obtain ⟨c0, c1, c2, c3, c4, c5, c6, c7, c8, c9, c10, c11, c12, cf⟩ := p0.cells
  have H := hid (fun w => check8_any m w)
  rw [show chkM m = 0 by unfold chkM; rw [hm]; rfl] at H
  have HA := hid (fun w => within_any h 1 100 w)
  rw [ha] at HA
  clear hm ha
  have HP := hid (fun w => inplay_any m w)
  rw [h0] at HP
  clear h0
  go_enter Tryd.func18, Tryd.ntmps18
  go_wp2_with fail
  refine (H.out _).mono ?_
  rintro e w1 ⟨rfl, h1⟩
  have p1 := p0.still h1
  have q1 := q0.still h1
  have HS1 := hid (HS0.out.trans h1)
  clear h1 HS0 p0 q0 c0 c1 c2 c3 c4 c5 c6 c7 c8 c9 c10 c11 c12 cf H
  obtain ⟨c0, c1, c2, c3, c4, c5, c6, c7, c8, c9, c10, c11, c12, cf⟩ := p1.cells
  obtain ⟨k0, k1, k2, k3, k4, k5, k6, k7, k8, k9, k10, k11, k12, kf⟩ := q1.cells
  go_wp2_with fail
  refine (HA.out _).mono ?_
  rintro e w2 ⟨he, hw⟩
  rw [he, hw]
  clear he hw w2
  go_wp2_with fail
  have AW := Still.alloc w1 (.cells (mcs m) 57)
  have g2 : Wb (w1.alloc (.cells (mcs m) 57)) w1.heap.size m := newW_wb w1 m
  have HL := hid (And.intro HS1.out.size q1.lt)
  have HS2 := hid (HS1.out.trans AW)
  have q2 := q1.still AW
  refine (HP.out _).mono ?_
  rintro e w3 ⟨rfl, h3⟩
  have g3 := g2.still h3
  have q3 := q2.still h3
  have HS3 := hid (HS2.out.trans h3)
  clear h3 g2 q2 HS2 AW HS1 p1 q1 c0 c1 c2 c3 c4 c5 c6 c7 c8 c9 c10 c11 c12 cf k0 k1 k2 k3 k4 k5 k6 k7 k8 k9 k10 k11 k12 kf
  obtain ⟨c0, c1, c2, c3, c4, c5, c6, c7, c8, c9, c10, c11, c12, cf⟩ := g3.cells
  obtain ⟨k0, k1, k2, k3, k4, k5, k6, k7, k8, k9, k10, k11, k12, kf⟩ := q3.cells
  go_wp2_with fail
  refine bodyPost_ret (Mb.rest3 (Mb.put q3 _ _ _ _ _ _ _ _ _ _ _ _ _) rfl _ _ _ rfl rfl rfl) rfl ⟨rfl, ?_⟩
  repeat (first | refine setC_fr ?_ _ _ _ (by omega) | with_reducible exact HS3.out)
set_option maxHeartbeats 1000000 in
theorem hurt_in (m : Mv) (h : Int) (D : Bool) (n : Mv) (hm : mayB m = true) (ha : amg h 1 100 = true) (h0 : (m.ou == 0) = true) (hM : ∀ w g, Wb w g m → Calls Tryd.prog 41 #[.pointer (some ⟨g, 0, none⟩), .int .i64 h] w fun e w' => e = .returned (.bool D) ∧ Dn g w w' n) (w : World) : Calls Tryd.prog 18 #[mv m, .int .i64 h] w fun e w' => e = .returned (.tuple #[mv n, .bool D, .int .i64 0]) ∧ Still w w' := by
  have A0 := Still.alloc w (.cells (mcs m) 25)
  have A1 := Still.alloc (newM w m) (.cells (mcs zM) 25)
  have p0 := (newM_mb w m).still A1
  have q0 := newM_mb (newM w m) zM
  simp only [size_alloc] at q0
  have HS0 := hid (A0.trans A1)
  clear A0 A1
  obtain ⟨c0, c1, c2, c3, c4, c5, c6, c7, c8, c9, c10, c11, c12, cf⟩ := p0.cells
  have H := hid (fun w => check8_any m w)
  rw [show chkM m = 0 by unfold chkM; rw [hm]; rfl] at H
  have HA := hid (fun w => within_any h 1 100 w)
  rw [ha] at HA
  clear hm ha
  have HM := hid hM
  have HP := hid (fun w => inplay_any m w)
  rw [h0] at HP
  clear h0 hM
  go_enter Tryd.func18, Tryd.ntmps18
  go_wp2_with fail
  refine (H.out _).mono ?_
  rintro e w1 ⟨rfl, h1⟩
  have p1 := p0.still h1
  have q1 := q0.still h1
  have HS1 := hid (HS0.out.trans h1)
  clear h1 HS0 p0 q0 c0 c1 c2 c3 c4 c5 c6 c7 c8 c9 c10 c11 c12 cf H
  obtain ⟨c0, c1, c2, c3, c4, c5, c6, c7, c8, c9, c10, c11, c12, cf⟩ := p1.cells
  obtain ⟨k0, k1, k2, k3, k4, k5, k6, k7, k8, k9, k10, k11, k12, kf⟩ := q1.cells
  go_wp2_with fail
  refine (HA.out _).mono ?_
  rintro e w2 ⟨he, hw⟩
  rw [he, hw]
  clear he hw w2
  go_wp2_with fail
  have AW := Still.alloc w1 (.cells (mcs m) 57)
  have g2 : Wb (w1.alloc (.cells (mcs m) 57)) w1.heap.size m := newW_wb w1 m
  have HL := hid (And.intro HS1.out.size q1.lt)
  have HS2 := hid (HS1.out.trans AW)
  have q2 := q1.still AW
  refine (HP.out _).mono ?_
  rintro e w3 ⟨rfl, h3⟩
  have g3 := g2.still h3
  have q3 := q2.still h3
  have HS3 := hid (HS2.out.trans h3)
  clear h3 g2 q2 HS2 AW HS1 p1 q1 c0 c1 c2 c3 c4 c5 c6 c7 c8 c9 c10 c11 c12 cf k0 k1 k2 k3 k4 k5 k6 k7 k8 k9 k10 k11 k12 kf
  obtain ⟨c0, c1, c2, c3, c4, c5, c6, c7, c8, c9, c10, c11, c12, cf⟩ := g3.cells
  obtain ⟨k0, k1, k2, k3, k4, k5, k6, k7, k8, k9, k10, k11, k12, kf⟩ := q3.cells
  go_wp2_with fail
  refine (HM.out _ _ g3).mono ?_
  rintro e w4 ⟨rfl, hd⟩
  have HS4 := hid (hd.over HS3.out HL.out.1)
  have q4 : Mb w4 (w.heap.size + 1) zM := hd.2.kept q3 (by have := HL.out.2; omega)
  have g4 := hd.1
  clear hd g3 q3 HS3 c0 c1 c2 c3 c4 c5 c6 c7 c8 c9 c10 c11 c12 cf k0 k1 k2 k3 k4 k5 k6 k7 k8 k9 k10 k11 k12 kf
  obtain ⟨c0, c1, c2, c3, c4, c5, c6, c7, c8, c9, c10, c11, c12, cf⟩ := g4.cells
  obtain ⟨k0, k1, k2, k3, k4, k5, k6, k7, k8, k9, k10, k11, k12, kf⟩ := q4.cells
  go_wp2_with fail
  refine bodyPost_ret (Mb.rest3 (Mb.put q4 _ _ _ _ _ _ _ _ _ _ _ _ _) rfl _ _ _ rfl rfl rfl) rfl ⟨rfl, ?_⟩
  repeat (first | refine setC_fr ?_ _ _ _ (by omega) | with_reducible exact HS4.out)
theorem hurt8_any (m : Mv) (h : Int) (w : World) : Calls Tryd.prog 18 #[mv m, .int .i64 h] w fun e w' => e = .returned (.tuple #[mv (hurM m h), .bool (hurD m h), .int .i64 (errH m h)]) ∧ Still w w' := by
  cases hm : mayB m with
  | false =>
    have e : errH m h = 80 := by unfold errH; rw [hm]; rfl
    have e2 : hurD m h = false := by unfold hurD; rw [e]; rfl
    have e3 : hurM m h = zM := by unfold hurM; rw [e]; rfl
    rw [e, e2, e3]
    exact hurt_may m h hm w
  | true =>
    cases ha : amg h 1 100 with
    | false =>
      have hr : h < 1 ∨ 100 < h := by unfold amg at ha; simp at ha; omega
      have e : errH m h = 1 := by unfold errH; rw [hm]; simp [hr]
      have e2 : hurD m h = false := by unfold hurD; rw [e]; rfl
      have e3 : hurM m h = zM := by unfold hurM; rw [e]; rfl
      rw [e, e2, e3]
      exact hurt_arg m h hm ha w
    | true =>
      have hr := amg_iff.1 ha
      have e : errH m h = 0 := by unfold errH; rw [hm]; simp; omega
      have e2 : hurD m h = went m h := by unfold hurD; rw [e]; simp
      have e3 : hurM m h = hurtM m h := by unfold hurM; rw [e]; rfl
      rw [e, e2, e3]
      by_cases h0 : m.ou = 0
      · exact hurt_in m h _ _ hm ha (by simpa using h0) (fun w g hw => whurt_any g m h (mayB_iff.1 hm) h0 hr.1 hr.2 w hw) w
      · have hz : (m.ou == 0) = false := by simpa using h0
        have e4 : went m h = false := by unfold went; rw [hz]; rfl
        have e5 : hurtM m h = m := by unfold hurtM; rw [if_neg h0]
        rw [e4, e5]
        exact hurt_out m h hm ha hz w
end Go.Proofs.YtaalbkmdmocdeaaDoor
