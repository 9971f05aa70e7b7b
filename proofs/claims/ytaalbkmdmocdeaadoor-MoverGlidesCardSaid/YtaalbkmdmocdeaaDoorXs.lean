/- The program's Start, Hurt. The program's Rest. The program's six functions on movers, as one bundle. -/
import Derived.Test.YtaalbkmdmocdeaaDoorXq
import Derived.Test.YtaalbkmdmocdeaaDoorRt
import Derived.Test.YtaalbkmdmocdeaaDoorQt
import Derived.Test.YtaalbkmdmocdeaaDoorNo
import Derived.Test.YtaalbkmdmocdeaaDoorXr
namespace Go.Proofs.YtaalbkmdmocdeaaDoor
open Go.RowKit
open Pu Gp Ap Vp Np
set_option maxRecDepth 100000

set_option maxHeartbeats 400000 in
theorem start8_any (x y f : Int) (w : World) : Calls Tryd.prog 10 #[pt x y, .int .i64 f] w fun e w' => e = .returned (mv (startM x y f)) ∧ Still w w' := by
  have A0 := Still.alloc w (.cells #[.int .i64 x, .int .i64 y] 23)
  have A1 := Still.alloc (newP w x y) (.cells (mcs zM) 25)
  have p := (newP_pb w x y).still A1
  have q := newM_mb (newP w x y) zM
  rw [size_alloc] at q
  have HS0 := hid (A0.trans A1)
  have HT := hid (fun w => turn_any f 0 w)
  rw [Int.add_zero] at HT
  clear A0 A1
  obtain ⟨c0, c1, cf⟩ := p.cells
  go_enter Tryd.func10, Tryd.ntmps10
  go_wp2_with fail
  refine (gbound_any x y _).mono ?_
  rintro e w1 ⟨rfl, h1⟩
  have q1 := q.still h1
  have HS1 := hid (HS0.out.trans h1)
  clear h1 q p HS0 c0 c1 cf
  go_wp2_with fail
  refine (HT.out _).mono ?_
  rintro e w2 ⟨he, hw⟩
  rw [he, hw]
  clear he hw w2
  obtain ⟨c0, c1, c2, c3, c4, c5, c6, c7, c8, c9, c10, c11, c12, cf⟩ := q1.cells
  go_wp2_with fail
  have q2 := q1.set (startM x y f)
  have HF := setM_fr HS1.out (w.heap.size + 1) (startM x y f) (.inr (by omega))
  simp only [startM] at q2 HF
  refine bodyPost_ret (q2.res rfl _ rfl) rfl ?_
  exact ⟨rfl, HF⟩
set_option maxHeartbeats 1000000 in
theorem whurt_no (g : Nat) (m : Mv) (h : Int) (h1 : 1 ≤ h) (h2 : h ≤ 100) (hl1 : 0 ≤ m.hl) (hl2 : m.hl ≤ 100) (hs : m.sh = false) (ha : h < m.hl) (w : World) (hw : Wb w g m) : Calls Tryd.prog 41 #[.pointer (some ⟨g, 0, none⟩), .int .i64 h] w fun e w' => e = .returned (.bool false) ∧ Dn g w w' { m with hl := m.hl - h } := by
  have HF0 := hid (Fr.refl (fun k => k = g) w)
  obtain ⟨c0, c1, c2, c3, c4, c5, c6, c7, c8, c9, c10, c11, c12, cf⟩ := hw.cells
  rw [hs] at c9
  go_enter Tryd.func41, Tryd.ntmps41
  go_wp2_with fail
  go_ret
  exact ⟨rfl, hw.hl _, HF0.out.setCell _ _ (.inl rfl)⟩
set_option maxHeartbeats 1000000 in
theorem whurt_no_out (g : Nat) (m : Mv) (h : Int) (h1 : 1 ≤ h) (h2 : h ≤ 100) (hl1 : 0 ≤ m.hl) (hl2 : m.hl ≤ 100) (hs : m.sh = false) (ha : ¬ h < m.hl) (w : World) (hw : Wb w g m) : Calls Tryd.prog 41 #[.pointer (some ⟨g, 0, none⟩), .int .i64 h] w fun e w' => e = .returned (.bool true) ∧ Dn g w w' (outM m) := by
  have HF0 := hid (Fr.refl (fun k => k = g) w)
  obtain ⟨c0, c1, c2, c3, c4, c5, c6, c7, c8, c9, c10, c11, c12, cf⟩ := hw.cells
  rw [hs] at c9
  have HG : Hid (∀ u, Calls Tryd.prog 54 #[mv { m with hl := m.hl - h, sh := false }, .int .i64 30] u fun e w' => e = .returned (mv (outM m)) ∧ Still u w') := hid (fun u => gone_any { m with hl := m.hl - h, sh := false } 30 u)
  obtain ⟨q, eq⟩ : ∃ q, outM m = q := ⟨_, rfl⟩
  rw [eq] at HG ⊢
  clear eq
  go_enter Tryd.func41, Tryd.ntmps41
  go_wp2_with fail
  have p2 := hw.hl (m.hl - h)
  have HF2 := hid (HF0.out.setCell ⟨g, 7, none⟩ (.int .i64 (m.hl - h)) (.inl rfl))
  refine (HG.out _).mono ?_
  rintro e w3 ⟨rfl, h3⟩
  have p3 := p2.still h3
  have HF3 := hid (Fr.trans HF2.out (Still.to (F := fun k => k = g) h3) fun _ _ e => e)
  clear h3 p2 HF2 c0 c1 c2 c3 c4 c5 c6 c7 c8 c9 c10 c11 c12 cf
  obtain ⟨c0, c1, c2, c3, c4, c5, c6, c7, c8, c9, c10, c11, c12, cf⟩ := p3.cells
  go_wp2_with fail
  go_ret
  refine ⟨rfl, Wb.put p3 _ _ _ _ _ _ _ _ _ _ _ _ _, ?_⟩
  repeat (first | refine Fr.setCell ?_ _ _ (.inl rfl) | with_reducible exact HF3.out)
set_option maxHeartbeats 1000000 in
theorem whurt_sh (g : Nat) (m : Mv) (h : Int) (h1 : 1 ≤ h) (h2 : h ≤ 100) (hl1 : 0 ≤ m.hl) (hl2 : m.hl ≤ 100) (hs : m.sh = true) (he1 : 0 ≤ m.en) (he2 : m.en ≤ 100) (T : Int) (eT : min h m.en = T) (t2 : T ≤ h) (ha : h - T < m.hl) (w : World) (hw : Wb w g m) : Calls Tryd.prog 41 #[.pointer (some ⟨g, 0, none⟩), .int .i64 h] w fun e w' => e = .returned (.bool false) ∧ Dn g w w' { m with en := m.en - T, sh := decide (T < m.en), hl := m.hl - (h - T) } := by
  have HF0 := hid (Fr.refl (fun k => k = g) w)
  obtain ⟨c0, c1, c2, c3, c4, c5, c6, c7, c8, c9, c10, c11, c12, cf⟩ := hw.cells
  rw [hs] at c9
  have HD := hid (wdrain g m h he1 he2 (by omega) h2 w hw)
  rw [eT] at HD
  clear eT he1 he2
  go_enter Tryd.func41, Tryd.ntmps41
  go_wp2_with fail
  refine HD.out.mono ?_
  rintro e w1 ⟨rfl, hd⟩
  have p1 : Wb w1 g { m with en := m.en - T, sh := decide (T < m.en) } := hd.1
  have HF1 := hid hd.2
  clear hd HD hw c0 c1 c2 c3 c4 c5 c6 c7 c8 c9 c10 c11 c12 cf
  obtain ⟨c0, c1, c2, c3, c4, c5, c6, c7, c8, c9, c10, c11, c12, cf⟩ := p1.cells
  go_wp2_with fail
  go_ret
  exact ⟨rfl, p1.hl _, HF1.out.setCell _ _ (.inl rfl)⟩
set_option maxHeartbeats 1000000 in
theorem whurt_sh_out (g : Nat) (m : Mv) (h : Int) (h1 : 1 ≤ h) (h2 : h ≤ 100) (hl1 : 0 ≤ m.hl) (hl2 : m.hl ≤ 100) (hs : m.sh = true) (he1 : 0 ≤ m.en) (he2 : m.en ≤ 100) (T : Int) (eT : min h m.en = T) (t1 : 0 ≤ T) (t2 : T ≤ h) (ha : ¬ h - T < m.hl) (w : World) (hw : Wb w g m) : Calls Tryd.prog 41 #[.pointer (some ⟨g, 0, none⟩), .int .i64 h] w fun e w' => e = .returned (.bool true) ∧ Dn g w w' (outM m) := by
  have HF0 := hid (Fr.refl (fun k => k = g) w)
  obtain ⟨c0, c1, c2, c3, c4, c5, c6, c7, c8, c9, c10, c11, c12, cf⟩ := hw.cells
  rw [hs] at c9
  have HG : Hid (∀ u, Calls Tryd.prog 54 #[mv { m with en := m.en - T, sh := decide (T < m.en), hl := m.hl - (h - T) }, .int .i64 30] u fun e w' => e = .returned (mv (outM m)) ∧ Still u w') := hid (fun u => gone_any { m with en := m.en - T, sh := decide (T < m.en), hl := m.hl - (h - T) } 30 u)
  obtain ⟨q, eq⟩ : ∃ q, outM m = q := ⟨_, rfl⟩
  rw [eq] at HG ⊢
  clear eq
  have HD := hid (wdrain g m h he1 he2 (by omega) h2 w hw)
  rw [eT] at HD
  clear eT he1 he2
  go_enter Tryd.func41, Tryd.ntmps41
  go_wp2_with fail
  refine HD.out.mono ?_
  rintro e w1 ⟨rfl, hd⟩
  have p1 : Wb w1 g { m with en := m.en - T, sh := decide (T < m.en) } := hd.1
  have HF1 := hid hd.2
  clear hd HD hw c0 c1 c2 c3 c4 c5 c6 c7 c8 c9 c10 c11 c12 cf
  obtain ⟨c0, c1, c2, c3, c4, c5, c6, c7, c8, c9, c10, c11, c12, cf⟩ := p1.cells
  go_wp2_with fail
  have p2 := p1.hl (m.hl - (h - T))
  have HF2 := hid (HF1.out.setCell ⟨g, 7, none⟩ (.int .i64 (m.hl - (h - T))) (.inl rfl))
  refine (HG.out _).mono ?_
  rintro e w3 ⟨rfl, h3⟩
  have p3 := p2.still h3
  have HF3 := hid (Fr.trans HF2.out (Still.to (F := fun k => k = g) h3) fun _ _ e => e)
  clear h3 p2 HF2 c0 c1 c2 c3 c4 c5 c6 c7 c8 c9 c10 c11 c12 cf
  obtain ⟨c0, c1, c2, c3, c4, c5, c6, c7, c8, c9, c10, c11, c12, cf⟩ := p3.cells
  go_wp2_with fail
  go_ret
  refine ⟨rfl, Wb.put p3 _ _ _ _ _ _ _ _ _ _ _ _ _, ?_⟩
  repeat (first | refine Fr.setCell ?_ _ _ (.inl rfl) | with_reducible exact HF3.out)
theorem whurt_any (g : Nat) (m : Mv) (h : Int) (hm : May m) (h0 : m.ou = 0) (h1 : 1 ≤ h) (h2 : h ≤ 100) (w : World) (hw : Wb w g m) : Calls Tryd.prog 41 #[.pointer (some ⟨g, 0, none⟩), .int .i64 h] w fun e w' => e = .returned (.bool (went m h)) ∧ Dn g w w' (hurtM m h) := by
  obtain ⟨g1, g2, g3, g4, g5, g6, g7, g8, g9, g10, g11⟩ := hm
  have hz : (m.ou == 0) = true := by simpa using h0
  cases hs : m.sh with
  | false =>
    have et : tak m h = 0 := by unfold tak; rw [hs]; rfl
    by_cases ha : h < m.hl
    · have e1 : went m h = false := by unfold went; rw [et, hz]; simp; omega
      have e2 : hurtM m h = { m with hl := m.hl - h } := by
        unfold hurtM
        rw [if_pos h0, et, if_neg (by omega), hs]
        cases m
        simp_all
      rw [e1, e2]
      exact whurt_no g m h h1 h2 g5.1 g5.2 hs ha w hw
    · have e1 : went m h = true := by unfold went; rw [et, hz]; simp; omega
      have e2 : hurtM m h = outM m := by unfold hurtM; rw [if_pos h0, et, if_pos (by omega)]
      rw [e1, e2]
      exact whurt_no_out g m h h1 h2 g5.1 g5.2 hs ha w hw
  | true =>
    obtain ⟨T, eT⟩ : ∃ T, min h m.en = T := ⟨_, rfl⟩
    have et : tak m h = T := by unfold tak; rw [hs, ← eT, Int.min_comm]; rfl
    have t1 : 0 ≤ T := by rw [← eT]; omega
    have t2 : T ≤ h := by rw [← eT]; omega
    by_cases ha : h - T < m.hl
    · have e1 : went m h = false := by unfold went; rw [et, hz]; simp; omega
      have e2 : hurtM m h = { m with en := m.en - T, sh := decide (T < m.en), hl := m.hl - (h - T) } := by
        unfold hurtM
        rw [if_pos h0, et, if_neg (by omega), hs]
        have : decide (0 < m.en - T) = decide (T < m.en) := by rw [decide_eq_decide]; omega
        rw [this]
        rfl
      rw [e1, e2]
      exact whurt_sh g m h h1 h2 g5.1 g5.2 hs g6.1 g6.2 T eT t2 ha w hw
    · have e1 : went m h = true := by unfold went; rw [et, hz]; simp; omega
      have e2 : hurtM m h = outM m := by unfold hurtM; rw [if_pos h0, et, if_pos (by omega)]
      rw [e1, e2]
      exact whurt_sh_out g m h h1 h2 g5.1 g5.2 hs g6.1 g6.2 T eT t1 t2 ha w hw
theorem hurt_may (m : Mv) (h : Int) (hm : mayB m = false) (w : World) : Calls Tryd.prog 18 #[mv m, .int .i64 h] w fun e w' => e = .returned (.tuple #[mv zM, .bool false, .int .i64 80]) ∧ Still w w' := by
  have A0 := Still.alloc w (.cells (mcs m) 25)
  have A1 := Still.alloc (newM w m) (.cells (mcs zM) 25)
  have p0 := (newM_mb w m).still A1
  have q0 := newM_mb (newM w m) zM
  simp only [size_alloc] at q0
  have HS0 := hid (A0.trans A1)
  clear A0 A1
  obtain ⟨c0, c1, c2, c3, c4, c5, c6, c7, c8, c9, c10, c11, c12, cf⟩ := p0.cells
  have H := hid (fun w => check8_any m w)
  rw [show chkM m = 80 by unfold chkM; rw [hm]; rfl] at H
  clear hm
  go_enter Tryd.func18, Tryd.ntmps18
  go_wp2_with fail
  refine (H.out _).mono ?_
  rintro e w1 ⟨rfl, h1⟩
  have p1 := p0.still h1
  have q1 := q0.still h1
  have HS1 := hid (HS0.out.trans h1)
  clear h1 HS0 p0 q0 c0 c1 c2 c3 c4 c5 c6 c7 c8 c9 c10 c11 c12 cf H
  obtain ⟨c0, c1, c2, c3, c4, c5, c6, c7, c8, c9, c10, c11, c12, cf⟩ := p1.cells
  obtain ⟨k0, k1, k2, k3, k4, k5, k6, k7, k8, k9, k10, k11, k12, kf⟩ := q1.cells
  go_wp2_with fail
  refine bodyPost_ret (Mb.rest3 (Mb.put q1 _ _ _ _ _ _ _ _ _ _ _ _ _) rfl _ _ _ rfl rfl rfl) rfl ⟨rfl, ?_⟩
  repeat (first | refine setC_fr ?_ _ _ _ (by omega) | with_reducible exact HS1.out)
theorem hurt_arg (m : Mv) (h : Int) (hm : mayB m = true) (ha : amg h 1 100 = false) (w : World) : Calls Tryd.prog 18 #[mv m, .int .i64 h] w fun e w' => e = .returned (.tuple #[mv zM, .bool false, .int .i64 1]) ∧ Still w w' := by
  have A0 := Still.alloc w (.cells (mcs m) 25)
  have A1 := Still.alloc (newM w m) (.cells (mcs zM) 25)
  have p0 := (newM_mb w m).still A1
  have q0 := newM_mb (newM w m) zM
  simp only [size_alloc] at q0
  have HS0 := hid (A0.trans A1)
  clear A0 A1
  obtain ⟨c0, c1, c2, c3, c4, c5, c6, c7, c8, c9, c10, c11, c12, cf⟩ := p0.cells
  have H := hid (fun w => check8_any m w)
  rw [show chkM m = 0 by unfold chkM; rw [hm]; rfl] at H
  have HA := hid (fun w => within_any h 1 100 w)
  rw [ha] at HA
  clear hm ha
  go_enter Tryd.func18, Tryd.ntmps18
  go_wp2_with fail
  refine (H.out _).mono ?_
  rintro e w1 ⟨rfl, h1⟩
  have p1 := p0.still h1
  have q1 := q0.still h1
  have HS1 := hid (HS0.out.trans h1)
  clear h1 HS0 p0 q0 c0 c1 c2 c3 c4 c5 c6 c7 c8 c9 c10 c11 c12 cf H
  obtain ⟨c0, c1, c2, c3, c4, c5, c6, c7, c8, c9, c10, c11, c12, cf⟩ := p1.cells
  obtain ⟨k0, k1, k2, k3, k4, k5, k6, k7, k8, k9, k10, k11, k12, kf⟩ := q1.cells
  go_wp2_with fail
  refine (HA.out _).mono ?_
  rintro e w2 ⟨he, hw⟩
  rw [he, hw]
  clear he hw w2
  go_wp2_with fail
  refine bodyPost_ret (Mb.rest3 (Mb.put q1 _ _ _ _ _ _ _ _ _ _ _ _ _) rfl _ _ _ rfl rfl rfl) rfl ⟨rfl, ?_⟩
  repeat (first | refine setC_fr ?_ _ _ _ (by omega) | with_reducible exact HS1.out)
set_option maxHeartbeats 1000000 in
theorem hurt_out (m : Mv) (h : Int) (hm : mayB m = true) (ha : amg h 1 100 = true) (h0 : (m.ou == 0) = false) (w : World) : Calls Tryd.prog 18 #[mv m, .int .i64 h] w fun e w' => e = .returned (.tuple #[mv m, .bool false, .int .i64 0]) ∧ Still w w' := by
  have A0 := Still.alloc w (.cells (mcs m) 25)
  have A1 := Still.alloc (newM w m) (.cells (mcs zM) 25)
  have p0 := (newM_mb w m).still A1
  have q0 := newM_mb (newM w m) zM
  simp only [size_alloc] at q0
  have HS0 := hid (A0.trans A1)
  clear A0 A1
  obtain ⟨c0, c1, c2, c3, c4, c5, c6, c7, c8, c9, c10, c11, c12, cf⟩ := p0.cells
  have H := hid (fun w => check8_any m w)
  rw [show chkM m = 0 by unfold chkM; rw [hm]; rfl] at H
  have HA := hid (fun w => within_any h 1 100 w)
  rw [ha] at HA
  clear hm ha
  have HP := hid (fun w => inplay_any m w)
  rw [h0] at HP
  clear h0
  go_enter Tryd.func18, Tryd.ntmps18
  go_wp2_with fail
  refine (H.out _).mono ?_
  rintro e w1 ⟨rfl, h1⟩
  have p1 := p0.still h1
  have q1 := q0.still h1
  have HS1 := hid (HS0.out.trans h1)
  clear h1 HS0 p0 q0 c0 c1 c2 c3 c4 c5 c6 c7 c8 c9 c10 c11 c12 cf H
  obtain ⟨c0, c1, c2, c3, c4, c5, c6, c7, c8, c9, c10, c11, c12, cf⟩ := p1.cells
  obtain ⟨k0, k1, k2, k3, k4, k5, k6, k7, k8, k9, k10, k11, k12, kf⟩ := q1.cells
  go_wp2_with fail
  refine (HA.out _).mono ?_
  rintro e w2 ⟨he, hw⟩
  rw [he, hw]
  clear he hw w2
  go_wp2_with fail
  have AW := Still.alloc w1 (.cells (mcs m) 57)
  have g2 : Wb (w1.alloc (.cells (mcs m) 57)) w1.heap.size m := newW_wb w1 m
  have HL := hid (And.intro HS1.out.size q1.lt)
  have HS2 := hid (HS1.out.trans AW)
  have q2 := q1.still AW
  refine (HP.out _).mono ?_
  rintro e w3 ⟨rfl, h3⟩
  have g3 := g2.still h3
  have q3 := q2.still h3
  have HS3 := hid (HS2.out.trans h3)
  clear h3 g2 q2 HS2 AW HS1 p1 q1 c0 c1 c2 c3 c4 c5 c6 c7 c8 c9 c10 c11 c12 cf k0 k1 k2 k3 k4 k5 k6 k7 k8 k9 k10 k11 k12 kf
  obtain ⟨c0, c1, c2, c3, c4, c5, c6, c7, c8, c9, c10, c11, c12, cf⟩ := g3.cells
  obtain ⟨k0, k1, k2, k3, k4, k5, k6, k7, k8, k9, k10, k11, k12, kf⟩ := q3.cells
  go_wp2_with fail
  refine bodyPost_ret (Mb.rest3 (Mb.put q3 _ _ _ _ _ _ _ _ _ _ _ _ _) rfl _ _ _ rfl rfl rfl) rfl ⟨rfl, ?_⟩
  repeat (first | refine setC_fr ?_ _ _ _ (by omega) | with_reducible exact HS3.out)
set_option maxHeartbeats 1000000 in
theorem hurt_in (m : Mv) (h : Int) (D : Bool) (n : Mv) (hm : mayB m = true) (ha : amg h 1 100 = true) (h0 : (m.ou == 0) = true) (hM : ∀ w g, Wb w g m → Calls Tryd.prog 41 #[.pointer (some ⟨g, 0, none⟩), .int .i64 h] w fun e w' => e = .returned (.bool D) ∧ Dn g w w' n) (w : World) : Calls Tryd.prog 18 #[mv m, .int .i64 h] w fun e w' => e = .returned (.tuple #[mv n, .bool D, .int .i64 0]) ∧ Still w w' := by
  have A0 := Still.alloc w (.cells (mcs m) 25)
  have A1 := Still.alloc (newM w m) (.cells (mcs zM) 25)
  have p0 := (newM_mb w m).still A1
  have q0 := newM_mb (newM w m) zM
  simp only [size_alloc] at q0
  have HS0 := hid (A0.trans A1)
  clear A0 A1
  obtain ⟨c0, c1, c2, c3, c4, c5, c6, c7, c8, c9, c10, c11, c12, cf⟩ := p0.cells
  have H := hid (fun w => check8_any m w)
  rw [show chkM m = 0 by unfold chkM; rw [hm]; rfl] at H
  have HA := hid (fun w => within_any h 1 100 w)
  rw [ha] at HA
  clear hm ha
  have HM := hid hM
  have HP := hid (fun w => inplay_any m w)
  rw [h0] at HP
  clear h0 hM
  go_enter Tryd.func18, Tryd.ntmps18
  go_wp2_with fail
  refine (H.out _).mono ?_
  rintro e w1 ⟨rfl, h1⟩
  have p1 := p0.still h1
  have q1 := q0.still h1
  have HS1 := hid (HS0.out.trans h1)
  clear h1 HS0 p0 q0 c0 c1 c2 c3 c4 c5 c6 c7 c8 c9 c10 c11 c12 cf H
  obtain ⟨c0, c1, c2, c3, c4, c5, c6, c7, c8, c9, c10, c11, c12, cf⟩ := p1.cells
  obtain ⟨k0, k1, k2, k3, k4, k5, k6, k7, k8, k9, k10, k11, k12, kf⟩ := q1.cells
  go_wp2_with fail
  refine (HA.out _).mono ?_
  rintro e w2 ⟨he, hw⟩
  rw [he, hw]
  clear he hw w2
  go_wp2_with fail
  have AW := Still.alloc w1 (.cells (mcs m) 57)
  have g2 : Wb (w1.alloc (.cells (mcs m) 57)) w1.heap.size m := newW_wb w1 m
  have HL := hid (And.intro HS1.out.size q1.lt)
  have HS2 := hid (HS1.out.trans AW)
  have q2 := q1.still AW
  refine (HP.out _).mono ?_
  rintro e w3 ⟨rfl, h3⟩
  have g3 := g2.still h3
  have q3 := q2.still h3
  have HS3 := hid (HS2.out.trans h3)
  clear h3 g2 q2 HS2 AW HS1 p1 q1 c0 c1 c2 c3 c4 c5 c6 c7 c8 c9 c10 c11 c12 cf k0 k1 k2 k3 k4 k5 k6 k7 k8 k9 k10 k11 k12 kf
  obtain ⟨c0, c1, c2, c3, c4, c5, c6, c7, c8, c9, c10, c11, c12, cf⟩ := g3.cells
  obtain ⟨k0, k1, k2, k3, k4, k5, k6, k7, k8, k9, k10, k11, k12, kf⟩ := q3.cells
  go_wp2_with fail
  refine (HM.out _ _ g3).mono ?_
  rintro e w4 ⟨rfl, hd⟩
  have HS4 := hid (hd.over HS3.out HL.out.1)
  have q4 : Mb w4 (w.heap.size + 1) zM := hd.2.kept q3 (by have := HL.out.2; omega)
  have g4 := hd.1
  clear hd g3 q3 HS3 c0 c1 c2 c3 c4 c5 c6 c7 c8 c9 c10 c11 c12 cf k0 k1 k2 k3 k4 k5 k6 k7 k8 k9 k10 k11 k12 kf
  obtain ⟨c0, c1, c2, c3, c4, c5, c6, c7, c8, c9, c10, c11, c12, cf⟩ := g4.cells
  obtain ⟨k0, k1, k2, k3, k4, k5, k6, k7, k8, k9, k10, k11, k12, kf⟩ := q4.cells
  go_wp2_with fail
  refine bodyPost_ret (Mb.rest3 (Mb.put q4 _ _ _ _ _ _ _ _ _ _ _ _ _) rfl _ _ _ rfl rfl rfl) rfl ⟨rfl, ?_⟩
  repeat (first | refine setC_fr ?_ _ _ _ (by omega) | with_reducible exact HS4.out)
theorem hurt8_any (m : Mv) (h : Int) (w : World) : Calls Tryd.prog 18 #[mv m, .int .i64 h] w fun e w' => e = .returned (.tuple #[mv (hurM m h), .bool (hurD m h), .int .i64 (errH m h)]) ∧ Still w w' := by
  cases hm : mayB m with
  | false =>
    have e : errH m h = 80 := by unfold errH; rw [hm]; rfl
    have e2 : hurD m h = false := by unfold hurD; rw [e]; rfl
    have e3 : hurM m h = zM := by unfold hurM; rw [e]; rfl
    rw [e, e2, e3]
    exact hurt_may m h hm w
  | true =>
    cases ha : amg h 1 100 with
    | false =>
      have hr : h < 1 ∨ 100 < h := by unfold amg at ha; simp at ha; omega
      have e : errH m h = 1 := by unfold errH; rw [hm]; simp [hr]
      have e2 : hurD m h = false := by unfold hurD; rw [e]; rfl
      have e3 : hurM m h = zM := by unfold hurM; rw [e]; rfl
      rw [e, e2, e3]
      exact hurt_arg m h hm ha w
    | true =>
      have hr := amg_iff.1 ha
      have e : errH m h = 0 := by unfold errH; rw [hm]; simp; omega
      have e2 : hurD m h = went m h := by unfold hurD; rw [e]; simp
      have e3 : hurM m h = hurtM m h := by unfold hurM; rw [e]; rfl
      rw [e, e2, e3]
      by_cases h0 : m.ou = 0
      · exact hurt_in m h _ _ hm ha (by simpa using h0) (fun w g hw => whurt_any g m h (mayB_iff.1 hm) h0 hr.1 hr.2 w hw) w
      · have hz : (m.ou == 0) = false := by simpa using h0
        have e4 : went m h = false := by unfold went; rw [hz]; rfl
        have e5 : hurtM m h = m := by unfold hurtM; rw [if_neg h0]
        rw [e4, e5]
        exact hurt_out m h hm ha hz w
end Go.Proofs.YtaalbkmdmocdeaaDoor
namespace Go.Proofs.YtaalbkmdmocdeaaDoor
open Go.RowKit
open Pu Gp Ap Vp Np
set_option maxRecDepth 100000

set_option maxHeartbeats 1000000 in
theorem wrest_sh (g : Nat) (m : Mv) (hs : m.sh = true) (hc1 : 0 ≤ m.co) (hc2 : m.co ≤ 12) (he1 : 0 ≤ m.en) (he2 : m.en ≤ 100) (w : World) (hw : Wb w g m) : Calls Tryd.prog 42 #[.pointer (some ⟨g, 0, none⟩)] w fun e w' => e = .returned (.tuple #[]) ∧ Dn g w w' { m with co := max (m.co - 1) 0, en := m.en - min 2 m.en, sh := decide (min 2 m.en < m.en) } := by
  have p1 := hw.co (max (m.co - 1) 0)
  have HF1 := hid ((Fr.refl (fun k => k = g) w).setCell ⟨g, 10, none⟩ (.int .i64 (max (m.co - 1) 0)) (.inl rfl))
  have HD := hid (wdrain g { m with co := max (m.co - 1) 0 } 2 he1 he2 (by omega) (by omega) _ p1)
  obtain ⟨c0, c1, c2, c3, c4, c5, c6, c7, c8, c9, c10, c11, c12, cf⟩ := hw.cells
  rw [hs] at c9
  clear he1 he2
  go_enter Tryd.func42, Tryd.ntmps42
  go_wp2_with fail
  refine HD.out.mono ?_
  rintro e w1 ⟨rfl, hd⟩
  have HE := hid hd
  clear hd HD p1 c0 c1 c2 c3 c4 c5 c6 c7 c8 c9 c10 c11 c12 cf
  go_wp2_with fail
  (try simp only [Exit.inBlock, Exit.then])
  refine bodyPost_ret (results_none rfl _ _ _) rfl ?_
  exact ⟨rfl, HE.out.1, Fr.trans HF1.out HE.out.2 fun _ _ e => e⟩
set_option maxHeartbeats 1000000 in
theorem wrest_no (g : Nat) (m : Mv) (hs : m.sh = false) (hc1 : 0 ≤ m.co) (hc2 : m.co ≤ 12) (he1 : 0 ≤ m.en) (he2 : m.en ≤ 100) (w : World) (hw : Wb w g m) : Calls Tryd.prog 42 #[.pointer (some ⟨g, 0, none⟩)] w fun e w' => e = .returned (.tuple #[]) ∧ Dn g w w' { m with co := max (m.co - 1) 0, en := min (m.en + 1) 100 } := by
  have HF := hid (Fr.refl (fun k => k = g) w)
  obtain ⟨c0, c1, c2, c3, c4, c5, c6, c7, c8, c9, c10, c11, c12, cf⟩ := hw.cells
  rw [hs] at c9
  go_enter Tryd.func42, Tryd.ntmps42
  go_wp2_with fail
  go_end0
  exact ⟨rfl, (hw.co _).en _, (HF.out.setCell _ _ (.inl rfl)).setCell _ _ (.inl rfl)⟩
theorem wrest_any (g : Nat) (m : Mv) (x y : Int) (hm : May m) (h0 : m.ou = 0) (w : World) (hw : Wb w g m) : Calls Tryd.prog 42 #[.pointer (some ⟨g, 0, none⟩)] w fun e w' => e = .returned (.tuple #[]) ∧ Dn g w w' (restM m x y) := by
  obtain ⟨g1, g2, g3, g4, g5, g6, g7, g8, g9, g10, g11⟩ := hm
  have ec : (if 0 < m.co then m.co - 1 else m.co) = max (m.co - 1) 0 := by split <;> omega
  cases hs : m.sh with
  | false =>
    have e : restM m x y = { m with co := max (m.co - 1) 0, en := min (m.en + 1) 100 } := by
      unfold restM
      rw [if_neg (by omega), if_neg (by omega), ec, hs]
      have e2 : (if m.en < 100 then m.en + 1 else m.en) = min (m.en + 1) 100 := by split <;> omega
      simp only [Bool.false_and, e2]
      cases m
      simp_all
    rw [e]
    exact wrest_no g m hs g7.1 g7.2 g6.1 g6.2 w hw
  | true =>
    have e : restM m x y = { m with co := max (m.co - 1) 0, en := m.en - min 2 m.en, sh := decide (min 2 m.en < m.en) } := by
      unfold restM
      rw [if_neg (by omega), if_neg (by omega), ec, hs]
      have e2 : (if m.en - 2 ≤ 0 then 0 else m.en - 2) = m.en - min 2 m.en := by split <;> omega
      have e3 : decide (0 < m.en - 2) = decide (min 2 m.en < m.en) := by rw [decide_eq_decide]; omega
      simp only [Bool.true_and, if_true, e2, e3]
    rw [e]
    exact wrest_sh g m hs g7.1 g7.2 g6.1 g6.2 w hw
theorem wout_stay (g : Nat) (m : Mv) (x y : Int) (h1 : 1 < m.ou) (h2 : m.ou ≤ 30) (w : World) (hw : Wb w g m) : Calls Tryd.prog 43 #[.pointer (some ⟨g, 0, none⟩), pt x y] w fun e w' => e = .returned (.bool false) ∧ Dn g w w' { m with ou := m.ou - 1 } := by
  have A0 := Still.alloc w (.cells #[.int .i64 x, .int .i64 y] 23)
  have p0 := hw.still A0
  have HF := hid (Still.to (F := fun k => k = g) A0)
  clear A0
  obtain ⟨c0, c1, c2, c3, c4, c5, c6, c7, c8, c9, c10, c11, c12, cf⟩ := p0.cells
  go_enter Tryd.func43, Tryd.ntmps43
  go_wp2_with fail
  go_ret
  exact ⟨rfl, p0.ou _, HF.out.setCell _ _ (.inl rfl)⟩
set_option maxHeartbeats 2000000 in
theorem wout_back (g : Nat) (m : Mv) (x y : Int) (h1 : m.ou = 1) (w : World) (hw : Wb w g m) : Calls Tryd.prog 43 #[.pointer (some ⟨g, 0, none⟩), pt x y] w fun e w' => e = .returned (.bool true) ∧ Dn g w w' { startM x y m.fc with sd := m.sd } := by
  have A0 := Still.alloc w (.cells #[.int .i64 x, .int .i64 y] 23)
  have p0 := hw.still A0
  have b0 := newP_pb w x y
  have HL := hid hw.lt
  have HF := hid (Still.to (F := fun k => k = g) A0)
  have HST := hid (fun u => start8_any x y m.fc u)
  clear A0 hw
  obtain ⟨c0, c1, c2, c3, c4, c5, c6, c7, c8, c9, c10, c11, c12, cf⟩ := p0.cells
  rw [h1] at c11
  clear h1
  have p1 := p0.ou 0
  have b1 : Pb ((w.alloc (.cells #[.int .i64 x, .int .i64 y] 23)).setCell ⟨g, 11, none⟩ (.int .i64 0)) w.heap.size x y := by
    have := HL.out
    unfold Pb at b0 ⊢
    rw [heap_setCell_other _ _ _ _ (by show w.heap.size ≠ g; omega)]
    exact b0
  have HF1 := hid (HF.out.setCell ⟨g, 11, none⟩ (.int .i64 0) (.inl rfl))
  obtain ⟨W, eW⟩ : ∃ W, (w.alloc (.cells #[.int .i64 x, .int .i64 y] 23)).setCell ⟨g, 11, none⟩ (.int .i64 0) = W := ⟨_, rfl⟩
  have p2 : Wb W g { m with ou := 0 } := by rw [← eW]; exact p1
  rw [eW] at b1 HF1
  obtain ⟨q, eq⟩ : ∃ q, startM x y m.fc = q := ⟨_, rfl⟩
  rw [eq] at HST ⊢
  clear eq p1 HF
  obtain ⟨k0, k1, k2, k3, k4, k5, k6, k7, k8, k9, k10, k11, k12, kf⟩ := p2.cells
  go_enter Tryd.func43, Tryd.ntmps43
  go_upto_region 5 with fail
  clear eW p0 b0 c0 c1 c2 c3 c4 c5 c6 c7 c8 c9 c10 c11 c12 cf k0 k1 k2 k3 k4 k5 k6 k7 k8 k9 k10 k11 k12 kf
  obtain ⟨c0, c1, c2, c3, c4, c5, c6, c7, c8, c9, c10, c11, c12, cf⟩ := p2.cells
  obtain ⟨d0, d1, df⟩ := b1.cells
  have k6 := Cl.cell c6
  have x0 := Cl.cell d0
  have x1 := Cl.cell d1
  have hne := Aft.here W
  clear d0 d1 df b1 c0 c1 c2 c3 c4 c5 c6 c7 c8 c9 c10 c11 c12 cf
  refine region_rest 10 (by kernel_rfl) (by kernel_rfl) ?_
  simp only [List.take_succ_cons, List.take_zero, List.drop_succ_cons, List.drop_zero]
  repeat (go_big_quiet_step ((go_at_call 10; exact Calls.cl (HST.out _))))
  refine wpQuiet_nil ?_
  intro w1 hs
  clear hne k6 x0 x1
  have p3 := p2.still hs
  have HF3 := hid (Fr.trans HF1.out (Still.to (F := fun k => k = g) hs) fun _ _ e => e)
  clear hs p2 HF1
  obtain ⟨c0, c1, c2, c3, c4, c5, c6, c7, c8, c9, c10, c11, c12, cf⟩ := p3.cells
  go_wp2_with fail
  (try simp only [Exit.inBlock, Exit.then])
  go_wp2_with fail
  go_ret
  refine ⟨rfl, Wb.sd (Wb.put p3 _ _ _ _ _ _ _ _ _ _ _ _ _) _, ?_⟩
  repeat (first | refine Fr.setCell ?_ _ _ (.inl rfl) | with_reducible exact HF3.out)
theorem rest_may (m : Mv) (x y : Int) (hm : mayB m = false) (w : World) : Calls Tryd.prog 20 #[mv m, pt x y] w fun e w' => e = .returned (.tuple #[mv zM, .bool false, .int .i64 80]) ∧ Still w w' := by
  have A0 := Still.alloc w (.cells (mcs m) 25)
  have A1 := Still.alloc (newM w m) (.cells #[.int .i64 x, .int .i64 y] 23)
  have A2 := Still.alloc (newP (newM w m) x y) (.cells (mcs zM) 25)
  have p0 := ((newM_mb w m).still A1).still A2
  have b0 := (newP_pb (newM w m) x y).still A2
  have q0 := newM_mb (newP (newM w m) x y) zM
  simp only [size_alloc] at b0 q0
  have HS0 := hid ((A0.trans A1).trans A2)
  clear A0 A1 A2
  obtain ⟨c0, c1, c2, c3, c4, c5, c6, c7, c8, c9, c10, c11, c12, cf⟩ := p0.cells
  have H := hid (fun w => check8_any m w)
  rw [show chkM m = 80 by unfold chkM; rw [hm]; rfl] at H
  clear hm
  go_enter Tryd.func20, Tryd.ntmps20
  go_wp2_with fail
  refine (H.out _).mono ?_
  rintro e w1 ⟨rfl, h1⟩
  have p1 := p0.still h1
  have b1 := b0.still h1
  have q1 := q0.still h1
  have HS1 := hid (HS0.out.trans h1)
  clear h1 HS0 p0 b0 q0 c0 c1 c2 c3 c4 c5 c6 c7 c8 c9 c10 c11 c12 cf H
  obtain ⟨c0, c1, c2, c3, c4, c5, c6, c7, c8, c9, c10, c11, c12, cf⟩ := p1.cells
  obtain ⟨k0, k1, k2, k3, k4, k5, k6, k7, k8, k9, k10, k11, k12, kf⟩ := q1.cells
  go_wp2_with fail
  refine bodyPost_ret (Mb.rest3 (Mb.put q1 _ _ _ _ _ _ _ _ _ _ _ _ _) rfl _ _ _ rfl rfl rfl) rfl ⟨rfl, ?_⟩
  repeat (first | refine setC_fr ?_ _ _ _ (by omega) | with_reducible exact HS1.out)
set_option maxHeartbeats 1000000 in
theorem rest_in (m : Mv) (x y : Int) (n : Mv) (hm : mayB m = true) (h0 : (m.ou == 0) = true) (hM : ∀ w g, Wb w g m → Calls Tryd.prog 42 #[.pointer (some ⟨g, 0, none⟩)] w fun e w' => e = .returned (.tuple #[]) ∧ Dn g w w' n) (w : World) : Calls Tryd.prog 20 #[mv m, pt x y] w fun e w' => e = .returned (.tuple #[mv n, .bool false, .int .i64 0]) ∧ Still w w' := by
  have A0 := Still.alloc w (.cells (mcs m) 25)
  have A1 := Still.alloc (newM w m) (.cells #[.int .i64 x, .int .i64 y] 23)
  have A2 := Still.alloc (newP (newM w m) x y) (.cells (mcs zM) 25)
  have p0 := ((newM_mb w m).still A1).still A2
  have b0 := (newP_pb (newM w m) x y).still A2
  have q0 := newM_mb (newP (newM w m) x y) zM
  simp only [size_alloc] at b0 q0
  have HS0 := hid ((A0.trans A1).trans A2)
  clear A0 A1 A2
  obtain ⟨c0, c1, c2, c3, c4, c5, c6, c7, c8, c9, c10, c11, c12, cf⟩ := p0.cells
  have H := hid (fun w => check8_any m w)
  rw [show chkM m = 0 by unfold chkM; rw [hm]; rfl] at H
  clear hm
  have HM := hid hM
  have HP := hid (fun w => inplay_any m w)
  rw [h0] at HP
  clear h0 hM
  go_enter Tryd.func20, Tryd.ntmps20
  go_wp2_with fail
  refine (H.out _).mono ?_
  rintro e w1 ⟨rfl, h1⟩
  have p1 := p0.still h1
  have b1 := b0.still h1
  have q1 := q0.still h1
  have HS1 := hid (HS0.out.trans h1)
  clear h1 HS0 p0 b0 q0 c0 c1 c2 c3 c4 c5 c6 c7 c8 c9 c10 c11 c12 cf H
  obtain ⟨c0, c1, c2, c3, c4, c5, c6, c7, c8, c9, c10, c11, c12, cf⟩ := p1.cells
  obtain ⟨k0, k1, k2, k3, k4, k5, k6, k7, k8, k9, k10, k11, k12, kf⟩ := q1.cells
  go_wp2_with fail
  have AW := Still.alloc w1 (.cells (mcs m) 57)
  have g2 : Wb (w1.alloc (.cells (mcs m) 57)) w1.heap.size m := newW_wb w1 m
  have HL := hid (And.intro HS1.out.size q1.lt)
  have HS2 := hid (HS1.out.trans AW)
  have q2 := q1.still AW
  have b2 := b1.still AW
  refine (HP.out _).mono ?_
  rintro e w3 ⟨rfl, h3⟩
  have g3 := g2.still h3
  have q3 := q2.still h3
  have b3 := b2.still h3
  have HS3 := hid (HS2.out.trans h3)
  clear h3 g2 q2 b2 HS2 AW HS1 p1 q1 b1 c0 c1 c2 c3 c4 c5 c6 c7 c8 c9 c10 c11 c12 cf k0 k1 k2 k3 k4 k5 k6 k7 k8 k9 k10 k11 k12 kf
  obtain ⟨c0, c1, c2, c3, c4, c5, c6, c7, c8, c9, c10, c11, c12, cf⟩ := g3.cells
  obtain ⟨k0, k1, k2, k3, k4, k5, k6, k7, k8, k9, k10, k11, k12, kf⟩ := q3.cells
  obtain ⟨x0, x1, xf⟩ := b3.cells
  go_wp2_with fail
  refine (HM.out _ _ g3).mono ?_
  rintro e w4 ⟨rfl, hd⟩
  have HS4 := hid (hd.over HS3.out HL.out.1)
  have q4 : Mb w4 (w.heap.size + 1 + 1) zM := hd.2.kept q3 (by have := HL.out.2; omega)
  have g4 := hd.1
  clear hd g3 q3 b3 HS3 x0 x1 xf c0 c1 c2 c3 c4 c5 c6 c7 c8 c9 c10 c11 c12 cf k0 k1 k2 k3 k4 k5 k6 k7 k8 k9 k10 k11 k12 kf
  obtain ⟨c0, c1, c2, c3, c4, c5, c6, c7, c8, c9, c10, c11, c12, cf⟩ := g4.cells
  obtain ⟨k0, k1, k2, k3, k4, k5, k6, k7, k8, k9, k10, k11, k12, kf⟩ := q4.cells
  go_wp2_with fail
  refine bodyPost_ret (Mb.rest3 (Mb.put q4 _ _ _ _ _ _ _ _ _ _ _ _ _) rfl _ _ _ rfl rfl rfl) rfl ⟨rfl, ?_⟩
  repeat (first | refine setC_fr ?_ _ _ _ (by omega) | with_reducible exact HS4.out)
set_option maxHeartbeats 1000000 in
theorem rest_out (m : Mv) (x y : Int) (D : Bool) (n : Mv) (hm : mayB m = true) (h0 : (m.ou == 0) = false) (hM : ∀ w g, Wb w g m → Calls Tryd.prog 43 #[.pointer (some ⟨g, 0, none⟩), pt x y] w fun e w' => e = .returned (.bool D) ∧ Dn g w w' n) (w : World) : Calls Tryd.prog 20 #[mv m, pt x y] w fun e w' => e = .returned (.tuple #[mv n, .bool D, .int .i64 0]) ∧ Still w w' := by
  have A0 := Still.alloc w (.cells (mcs m) 25)
  have A1 := Still.alloc (newM w m) (.cells #[.int .i64 x, .int .i64 y] 23)
  have A2 := Still.alloc (newP (newM w m) x y) (.cells (mcs zM) 25)
  have p0 := ((newM_mb w m).still A1).still A2
  have b0 := (newP_pb (newM w m) x y).still A2
  have q0 := newM_mb (newP (newM w m) x y) zM
  simp only [size_alloc] at b0 q0
  have HS0 := hid ((A0.trans A1).trans A2)
  clear A0 A1 A2
  obtain ⟨c0, c1, c2, c3, c4, c5, c6, c7, c8, c9, c10, c11, c12, cf⟩ := p0.cells
  have H := hid (fun w => check8_any m w)
  rw [show chkM m = 0 by unfold chkM; rw [hm]; rfl] at H
  clear hm
  have HM := hid hM
  have HP := hid (fun w => inplay_any m w)
  rw [h0] at HP
  clear h0 hM
  go_enter Tryd.func20, Tryd.ntmps20
  go_wp2_with fail
  refine (H.out _).mono ?_
  rintro e w1 ⟨rfl, h1⟩
  have p1 := p0.still h1
  have b1 := b0.still h1
  have q1 := q0.still h1
  have HS1 := hid (HS0.out.trans h1)
  clear h1 HS0 p0 b0 q0 c0 c1 c2 c3 c4 c5 c6 c7 c8 c9 c10 c11 c12 cf H
  obtain ⟨c0, c1, c2, c3, c4, c5, c6, c7, c8, c9, c10, c11, c12, cf⟩ := p1.cells
  obtain ⟨k0, k1, k2, k3, k4, k5, k6, k7, k8, k9, k10, k11, k12, kf⟩ := q1.cells
  go_wp2_with fail
  have AW := Still.alloc w1 (.cells (mcs m) 57)
  have g2 : Wb (w1.alloc (.cells (mcs m) 57)) w1.heap.size m := newW_wb w1 m
  have HL := hid (And.intro HS1.out.size q1.lt)
  have HS2 := hid (HS1.out.trans AW)
  have q2 := q1.still AW
  have b2 := b1.still AW
  refine (HP.out _).mono ?_
  rintro e w3 ⟨rfl, h3⟩
  have g3 := g2.still h3
  have q3 := q2.still h3
  have b3 := b2.still h3
  have HS3 := hid (HS2.out.trans h3)
  clear h3 g2 q2 b2 HS2 AW HS1 p1 q1 b1 c0 c1 c2 c3 c4 c5 c6 c7 c8 c9 c10 c11 c12 cf k0 k1 k2 k3 k4 k5 k6 k7 k8 k9 k10 k11 k12 kf
  obtain ⟨c0, c1, c2, c3, c4, c5, c6, c7, c8, c9, c10, c11, c12, cf⟩ := g3.cells
  obtain ⟨k0, k1, k2, k3, k4, k5, k6, k7, k8, k9, k10, k11, k12, kf⟩ := q3.cells
  obtain ⟨x0, x1, xf⟩ := b3.cells
  go_wp2_with fail
  refine (HM.out _ _ g3).mono ?_
  rintro e w4 ⟨rfl, hd⟩
  have HS4 := hid (hd.over HS3.out HL.out.1)
  have q4 : Mb w4 (w.heap.size + 1 + 1) zM := hd.2.kept q3 (by have := HL.out.2; omega)
  have g4 := hd.1
  clear hd g3 q3 b3 HS3 x0 x1 xf c0 c1 c2 c3 c4 c5 c6 c7 c8 c9 c10 c11 c12 cf k0 k1 k2 k3 k4 k5 k6 k7 k8 k9 k10 k11 k12 kf
  obtain ⟨c0, c1, c2, c3, c4, c5, c6, c7, c8, c9, c10, c11, c12, cf⟩ := g4.cells
  obtain ⟨k0, k1, k2, k3, k4, k5, k6, k7, k8, k9, k10, k11, k12, kf⟩ := q4.cells
  go_wp2_with fail
  refine bodyPost_ret (Mb.rest3 (Mb.put q4 _ _ _ _ _ _ _ _ _ _ _ _ _) rfl _ _ _ rfl rfl rfl) rfl ⟨rfl, ?_⟩
  repeat (first | refine setC_fr ?_ _ _ _ (by omega) | with_reducible exact HS4.out)
theorem rest8_any (m : Mv) (x y : Int) (w : World) : Calls Tryd.prog 20 #[mv m, pt x y] w fun e w' => e = .returned (.tuple #[mv (resM m x y), .bool (resD m), .int .i64 (chkM m)]) ∧ Still w w' := by
  cases hm : mayB m with
  | false =>
    have e : chkM m = 80 := by unfold chkM; rw [hm]; rfl
    have e2 : resD m = false := by unfold resD; rw [hm]; rfl
    have e3 : resM m x y = zM := by unfold resM; rw [hm]; rfl
    rw [e, e2, e3]
    exact rest_may m x y hm w
  | true =>
    have e : chkM m = 0 := by unfold chkM; rw [hm]; rfl
    have e2 : resD m = (m.ou == 1) := by unfold resD; rw [hm]; rfl
    have e3 : resM m x y = restM m x y := by unfold resM; rw [hm]; rfl
    rw [e, e2, e3]
    have hM := mayB_iff.1 hm
    obtain ⟨g1, g2, g3, g4, g5, g6, g7, g8, g9, g10, g11⟩ := hM
    by_cases h0 : m.ou = 0
    · rw [show (m.ou == 1) = false by simp; omega]
      exact rest_in m x y _ hm (by simpa using h0) (fun w g hw => wrest_any g m x y (mayB_iff.1 hm) h0 w hw) w
    · have hz : (m.ou == 0) = false := by simpa using h0
      by_cases h1 : m.ou = 1
      · have e4 : restM m x y = { startM x y m.fc with sd := m.sd } := by unfold restM; rw [if_pos h1]
        rw [show (m.ou == 1) = true by simpa using h1, e4]
        exact rest_out m x y true _ hm hz (fun w g hw => wout_back g m x y h1 w hw) w
      · have e4 : restM m x y = { m with ou := m.ou - 1 } := by unfold restM; rw [if_neg h1, if_pos (by omega)]
        rw [show (m.ou == 1) = false by simpa using h1, e4]
        exact rest_out m x y false _ hm hz (fun w g hw => wout_stay g m x y (by omega) g8.2 w hw) w
end Go.Proofs.YtaalbkmdmocdeaaDoor
namespace Go.Proofs.YtaalbkmdmocdeaaDoor
open Go.RowKit
open Pu Gp Ap Vp Np

theorem cts8_any (w : World) (ht : Tab w) : Cts8 w :=
  ⟨fun x y f u _ => start8_any x y f u, fun m u _ => check8_any m u, fun m v a b c u hu => act_any m v a b c u (ht.still hu), fun m C R s u hz _ _ => glide8_any m C R s hz u, fun m h u _ => hurt8_any m h u, fun m x y u _ => rest8_any m x y u⟩
end Go.Proofs.YtaalbkmdmocdeaaDoor
