/- The document's Hurt of one in play; whole. -/
import Derived.Test.YtaalbkmdmocdeaaDoorNj
namespace Go.Proofs.YtaalbkmdmocdeaaDoor
open Go.RowKit
open Pu Gp Ap Vp Np
set_option maxRecDepth 100000

theorem Mb.eng {w : World} {g : Nat} {m : Mv} (h : Mb w g m) (e : Int) : Mb (w.setCell ⟨g, 8, none⟩ (.int .i64 e)) g { m with en := e } := by
  have h1 := heap_setCell_same w g 8 _ _ (.int .i64 e) h
  exact h1.trans (by kernel_rfl)
theorem Mb.on {F : Nat → Prop} {w w' : World} {g : Nat} {m : Mv} (h : Mb w g m) (hs : Fr F w w') (hF : ¬ F g) : Mb w' g m := hs.kept h hF
set_option maxHeartbeats 4000000 in
theorem rhurt_n1 (m : Mv) (h : Int) (hm : mayB m = true) (hg : ¬ h < 1) (hh : decide (100 < h) = false) (hh2 : h ≤ 100) (h0 : ¬ 0 < m.ou) (hl1 : 0 ≤ m.hl) (hl2 : m.hl ≤ 100) (hsh : m.sh = false) (hd : ¬ m.hl - h ≤ 0) (w : World) : Calls Tryd.prog 19 #[mv m, .int .i64 h] w fun e w' => e = .returned (.tuple #[mv { m with sh := false, hl := m.hl - h }, .bool false, .int .i64 0]) ∧ Still w w' := by
  have HSH := hid hsh
  clear hsh
  have A0 := Still.alloc w (.cells (mcs m) 25)
  have A1 := Still.alloc (newM w m) (.cells (mcs zM) 25)
  have p0 := (newM_mb w m).still A1
  have q0 := newM_mb (newM w m) zM
  simp only [size_alloc] at q0
  have HS0 := hid (A0.trans A1)
  clear A0 A1
  obtain ⟨c0, c1, c2, c3, c4, c5, c6, c7, c8, c9, c10, c11, c12, cf⟩ := p0.cells
  have H := hid (fun w => rcheck8_any m w)
  rw [show chkM m = 0 by unfold chkM; rw [hm]; rfl] at H
  clear hm
  go_enter Tryd.func19, Tryd.ntmps19
  go_wp2_with fail
  refine (H.out _).mono ?_
  rintro e w1 ⟨rfl, h1⟩
  have p1 := p0.still h1
  have q1 := q0.still h1
  have HS1 := hid (HS0.out.trans h1)
  clear h1 HS0 p0 q0 c0 c1 c2 c3 c4 c5 c6 c7 c8 c9 c10 c11 c12 cf H
  obtain ⟨c0, c1, c2, c3, c4, c5, c6, c7, c8, c9, c10, c11, c12, cf⟩ := p1.cells
  obtain ⟨k0, k1, k2, k3, k4, k5, k6, k7, k8, k9, k10, k11, k12, kf⟩ := q1.cells
  rw [HSH.out] at c9
  go_wp2_with fail
  go_loopw [1] (fun x wr => x = .int .i64 h ∧ wr = w1) (fun _ _ => 0)
  case atStart => exact ⟨rfl, rfl⟩
  case round =>
    obtain ⟨rfl, hw⟩ := hrel
    rw [hw]
    clear hw
    go_wp2_with fail
    refine bodyPost_ret (Mb.rest3 (Mb.put (m := zM) ?_ _ _ _ _ _ _ _ _ _ _ _ _ _) rfl _ _ _ rfl rfl rfl) rfl ⟨?_, ?_⟩
    · repeat (first | refine Mb.other ?_ _ _ _ (by omega) | with_reducible exact q1)
    · rfl
    · repeat (first | refine setC_fr ?_ _ _ _ (by omega) | with_reducible exact HS1.out)
set_option maxHeartbeats 4000000 in
theorem rhurt_n2 (m : Mv) (h : Int) (hm : mayB m = true) (hg : ¬ h < 1) (hh : decide (100 < h) = false) (hh2 : h ≤ 100) (h0 : ¬ 0 < m.ou) (hl1 : 0 ≤ m.hl) (hl2 : m.hl ≤ 100) (hsh : m.sh = false) (hd : m.hl - h ≤ 0) (w : World) : Calls Tryd.prog 19 #[mv m, .int .i64 h] w fun e w' => e = .returned (.tuple #[mv (outM m), .bool true, .int .i64 0]) ∧ Still w w' := by
  have HSH := hid hsh
  clear hsh
  have A0 := Still.alloc w (.cells (mcs m) 25)
  have A1 := Still.alloc (newM w m) (.cells (mcs zM) 25)
  have p0 := (newM_mb w m).still A1
  have q0 := newM_mb (newM w m) zM
  simp only [size_alloc] at q0
  have HS0 := hid (A0.trans A1)
  clear A0 A1
  obtain ⟨c0, c1, c2, c3, c4, c5, c6, c7, c8, c9, c10, c11, c12, cf⟩ := p0.cells
  have H := hid (fun w => rcheck8_any m w)
  rw [show chkM m = 0 by unfold chkM; rw [hm]; rfl] at H
  clear hm
  go_enter Tryd.func19, Tryd.ntmps19
  go_wp2_with fail
  refine (H.out _).mono ?_
  rintro e w1 ⟨rfl, h1⟩
  have p1 := p0.still h1
  have q1 := q0.still h1
  have HS1 := hid (HS0.out.trans h1)
  clear h1 HS0 p0 q0 c0 c1 c2 c3 c4 c5 c6 c7 c8 c9 c10 c11 c12 cf H
  obtain ⟨c0, c1, c2, c3, c4, c5, c6, c7, c8, c9, c10, c11, c12, cf⟩ := p1.cells
  obtain ⟨k0, k1, k2, k3, k4, k5, k6, k7, k8, k9, k10, k11, k12, kf⟩ := q1.cells
  rw [HSH.out] at c9
  go_wp2_with fail
  go_loopw [1] (fun x wr => x = .int .i64 h ∧ wr = w1) (fun _ _ => 0)
  case atStart => exact ⟨rfl, rfl⟩
  case round =>
    obtain ⟨rfl, hw⟩ := hrel
    rw [hw]
    clear hw
    go_wp2_with fail
    refine bodyPost_ret (Mb.rest3 (Mb.put (m := zM) ?_ _ _ _ _ _ _ _ _ _ _ _ _ _) rfl _ _ _ rfl rfl rfl) rfl ⟨?_, ?_⟩
    · repeat (first | refine Mb.other ?_ _ _ _ (by omega) | with_reducible exact q1)
    · rfl
    · repeat (first | refine setC_fr ?_ _ _ _ (by omega) | with_reducible exact HS1.out)
set_option maxHeartbeats 4000000 in
theorem rhurt_s1 (m : Mv) (h : Int) (hm : mayB m = true) (hg : ¬ h < 1) (hh : decide (100 < h) = false) (hh2 : h ≤ 100) (h0 : ¬ 0 < m.ou) (hl1 : 0 ≤ m.hl) (hl2 : m.hl ≤ 100) (he1 : 0 ≤ m.en) (he2 : m.en ≤ 100) (hsh : m.sh = true) (hd : ¬ m.hl - (h - tak m h) ≤ 0) (w : World) : Calls Tryd.prog 19 #[mv m, .int .i64 h] w fun e w' => e = .returned (.tuple #[mv { m with en := m.en - tak m h, sh := decide (0 < m.en - tak m h), hl := m.hl - (h - tak m h) }, .bool false, .int .i64 0]) ∧ Still w w' := by
  have HSH := hid hsh
  clear hsh
  have A0 := Still.alloc w (.cells (mcs m) 25)
  have A1 := Still.alloc (newM w m) (.cells (mcs zM) 25)
  have p0 := (newM_mb w m).still A1
  have q0 := newM_mb (newM w m) zM
  simp only [size_alloc] at q0
  have HS0 := hid (A0.trans A1)
  clear A0 A1
  obtain ⟨c0, c1, c2, c3, c4, c5, c6, c7, c8, c9, c10, c11, c12, cf⟩ := p0.cells
  have H := hid (fun w => rcheck8_any m w)
  rw [show chkM m = 0 by unfold chkM; rw [hm]; rfl] at H
  clear hm
  go_enter Tryd.func19, Tryd.ntmps19
  go_wp2_with fail
  refine (H.out _).mono ?_
  rintro e w1 ⟨rfl, h1⟩
  have p1 := p0.still h1
  have q1 := q0.still h1
  have HS1 := hid (HS0.out.trans h1)
  clear h1 HS0 p0 q0 c0 c1 c2 c3 c4 c5 c6 c7 c8 c9 c10 c11 c12 cf H
  obtain ⟨c0, c1, c2, c3, c4, c5, c6, c7, c8, c9, c10, c11, c12, cf⟩ := p1.cells
  obtain ⟨k0, k1, k2, k3, k4, k5, k6, k7, k8, k9, k10, k11, k12, kf⟩ := q1.cells
  rw [HSH.out] at c9
  have HLT := hid q1.lt
  go_wp2_with fail
  go_loopw [1] (fun x wr => ∃ t : Nat, (t : Int) ≤ m.en ∧ (t : Int) ≤ h ∧ x = .int .i64 (h - (t : Int)) ∧ Mb wr w.heap.size { m with en := m.en - (t : Int) } ∧ Fr (fun b => b = w.heap.size) w1 wr) (fun x _ => (intOf x).toNat)
  case atStart => exact ⟨0, by omega, by omega, by simp, by simpa using p1, Fr.refl _ _⟩
  case round =>
    obtain ⟨t, ht1, ht2, rfl, pt, hf⟩ := hrel
    have qt := q1.on hf (by omega)
    have HST : Hid (Still w wr) := hid (Fr.trans HS1.out hf (fun j h1 h2 => by omega))
    have HF := hid hf
    clear hf c0 c1 c2 c3 c4 c5 c6 c7 c8 c9 c10 c11 c12 cf k0 k1 k2 k3 k4 k5 k6 k7 k8 k9 k10 k11 k12 kf
    obtain ⟨c0, c1, c2, c3, c4, c5, c6, c7, c8, c9, c10, c11, c12, cf⟩ := pt.cells
    obtain ⟨k0, k1, k2, k3, k4, k5, k6, k7, k8, k9, k10, k11, k12, kf⟩ := qt.cells
    rw [HSH.out] at c9
    by_cases e1 : (t : Int) < m.en
    · by_cases e2 : (t : Int) < h
      · go_wp2_with fail
        go_roundw
        case rel =>
          refine ⟨t + 1, by omega, by omega, by congr 1; omega, ?_, HF.out.setCell _ _ (.inl rfl)⟩
          have := pt.eng (m.en - (t : Int) - 1)
          rw [show m.en - (t : Int) - 1 = m.en - ((t + 1 : Nat) : Int) by omega] at this
          rw [show m.en - (t : Int) - 1 = m.en - ((t + 1 : Nat) : Int) by omega]
          exact this
        case measure => simp [intOf]; omega
      · have e2d : decide ((t : Int) < h) = false := by simpa using e2
        have et : tak m h = (t : Int) := by
          unfold tak
          rw [if_pos HSH.out]
          omega
        have HT := hid et
        have HE := hid e1
        rw [et] at hd
        clear e2 et
        go_wp2_with fail
        refine bodyPost_ret (Mb.rest3 (Mb.put (m := zM) ?_ _ _ _ _ _ _ _ _ _ _ _ _ _) rfl _ _ _ rfl rfl rfl) rfl ⟨?_, ?_⟩
        · repeat (first | refine Mb.other ?_ _ _ _ (by omega) | with_reducible exact qt)
        · (rw [HT.out, decide_eq_true HE.out]; rfl)
        · repeat (first | refine setC_fr ?_ _ _ _ (by omega) | with_reducible exact HST.out)
    · have e1d : decide ((t : Int) < m.en) = false := by simpa using e1
      have et : tak m h = (t : Int) := by
        unfold tak
        rw [if_pos HSH.out]
        omega
      have HT := hid et
      have HE := hid e1d
      rw [et] at hd
      clear e1 et
      go_wp2_with fail
      refine bodyPost_ret (Mb.rest3 (Mb.put (m := zM) ?_ _ _ _ _ _ _ _ _ _ _ _ _ _) rfl _ _ _ rfl rfl rfl) rfl ⟨?_, ?_⟩
      · repeat (first | refine Mb.other ?_ _ _ _ (by omega) | with_reducible exact qt)
      · (rw [HT.out, HE.out]; rfl)
      · repeat (first | refine setC_fr ?_ _ _ _ (by omega) | with_reducible exact HST.out)
set_option maxHeartbeats 4000000 in
theorem rhurt_s2 (m : Mv) (h : Int) (hm : mayB m = true) (hg : ¬ h < 1) (hh : decide (100 < h) = false) (hh2 : h ≤ 100) (h0 : ¬ 0 < m.ou) (hl1 : 0 ≤ m.hl) (hl2 : m.hl ≤ 100) (he1 : 0 ≤ m.en) (he2 : m.en ≤ 100) (hsh : m.sh = true) (hd : m.hl - (h - tak m h) ≤ 0) (w : World) : Calls Tryd.prog 19 #[mv m, .int .i64 h] w fun e w' => e = .returned (.tuple #[mv (outM m), .bool true, .int .i64 0]) ∧ Still w w' := by
  have HSH := hid hsh
  clear hsh
  have A0 := Still.alloc w (.cells (mcs m) 25)
  have A1 := Still.alloc (newM w m) (.cells (mcs zM) 25)
  have p0 := (newM_mb w m).still A1
  have q0 := newM_mb (newM w m) zM
  simp only [size_alloc] at q0
  have HS0 := hid (A0.trans A1)
  clear A0 A1
  obtain ⟨c0, c1, c2, c3, c4, c5, c6, c7, c8, c9, c10, c11, c12, cf⟩ := p0.cells
  have H := hid (fun w => rcheck8_any m w)
  rw [show chkM m = 0 by unfold chkM; rw [hm]; rfl] at H
  clear hm
  go_enter Tryd.func19, Tryd.ntmps19
  go_wp2_with fail
  refine (H.out _).mono ?_
  rintro e w1 ⟨rfl, h1⟩
  have p1 := p0.still h1
  have q1 := q0.still h1
  have HS1 := hid (HS0.out.trans h1)
  clear h1 HS0 p0 q0 c0 c1 c2 c3 c4 c5 c6 c7 c8 c9 c10 c11 c12 cf H
  obtain ⟨c0, c1, c2, c3, c4, c5, c6, c7, c8, c9, c10, c11, c12, cf⟩ := p1.cells
  obtain ⟨k0, k1, k2, k3, k4, k5, k6, k7, k8, k9, k10, k11, k12, kf⟩ := q1.cells
  rw [HSH.out] at c9
  have HLT := hid q1.lt
  go_wp2_with fail
  go_loopw [1] (fun x wr => ∃ t : Nat, (t : Int) ≤ m.en ∧ (t : Int) ≤ h ∧ x = .int .i64 (h - (t : Int)) ∧ Mb wr w.heap.size { m with en := m.en - (t : Int) } ∧ Fr (fun b => b = w.heap.size) w1 wr) (fun x _ => (intOf x).toNat)
  case atStart => exact ⟨0, by omega, by omega, by simp, by simpa using p1, Fr.refl _ _⟩
  case round =>
    obtain ⟨t, ht1, ht2, rfl, pt, hf⟩ := hrel
    have qt := q1.on hf (by omega)
    have HST : Hid (Still w wr) := hid (Fr.trans HS1.out hf (fun j h1 h2 => by omega))
    have HF := hid hf
    clear hf c0 c1 c2 c3 c4 c5 c6 c7 c8 c9 c10 c11 c12 cf k0 k1 k2 k3 k4 k5 k6 k7 k8 k9 k10 k11 k12 kf
    obtain ⟨c0, c1, c2, c3, c4, c5, c6, c7, c8, c9, c10, c11, c12, cf⟩ := pt.cells
    obtain ⟨k0, k1, k2, k3, k4, k5, k6, k7, k8, k9, k10, k11, k12, kf⟩ := qt.cells
    rw [HSH.out] at c9
    by_cases e1 : (t : Int) < m.en
    · by_cases e2 : (t : Int) < h
      · go_wp2_with fail
        go_roundw
        case rel =>
          refine ⟨t + 1, by omega, by omega, by congr 1; omega, ?_, HF.out.setCell _ _ (.inl rfl)⟩
          have := pt.eng (m.en - (t : Int) - 1)
          rw [show m.en - (t : Int) - 1 = m.en - ((t + 1 : Nat) : Int) by omega] at this
          rw [show m.en - (t : Int) - 1 = m.en - ((t + 1 : Nat) : Int) by omega]
          exact this
        case measure => simp [intOf]; omega
      · have e2d : decide ((t : Int) < h) = false := by simpa using e2
        have et : tak m h = (t : Int) := by
          unfold tak
          rw [if_pos HSH.out]
          omega
        rw [et] at hd
        clear e2 et
        go_wp2_with fail
        refine bodyPost_ret (Mb.rest3 (Mb.put (m := zM) ?_ _ _ _ _ _ _ _ _ _ _ _ _ _) rfl _ _ _ rfl rfl rfl) rfl ⟨?_, ?_⟩
        · repeat (first | refine Mb.other ?_ _ _ _ (by omega) | with_reducible exact qt)
        · rfl
        · repeat (first | refine setC_fr ?_ _ _ _ (by omega) | with_reducible exact HST.out)
    · have e1d : decide ((t : Int) < m.en) = false := by simpa using e1
      have et : tak m h = (t : Int) := by
        unfold tak
        rw [if_pos HSH.out]
        omega
      rw [et] at hd
      clear e1 et
      go_wp2_with fail
      refine bodyPost_ret (Mb.rest3 (Mb.put (m := zM) ?_ _ _ _ _ _ _ _ _ _ _ _ _ _) rfl _ _ _ rfl rfl rfl) rfl ⟨?_, ?_⟩
      · repeat (first | refine Mb.other ?_ _ _ _ (by omega) | with_reducible exact qt)
      · rfl
      · repeat (first | refine setC_fr ?_ _ _ _ (by omega) | with_reducible exact HST.out)
end Go.Proofs.YtaalbkmdmocdeaaDoor
