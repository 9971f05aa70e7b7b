/- The program's Check. -/
import Derived.Test.YtaalbkmdmocdeaaDoorXa
import Derived.Test.YtaalbkmdmocdeaaDoorEq
import Derived.Test.YtaalbkmdmocdeaaDoorQt
namespace Go.Proofs.YtaalbkmdmocdeaaDoor
open Go.RowKit
open Pu Gp Ap Vp Np
set_option maxRecDepth 100000

/-- each number lies where it may -/
def rB (m : Mv) : Bool := (bnd m.ax == m.ax && bnd m.ay == m.ay) && bw m.sx m.sy 1024 && bw m.px m.py 256 && amg m.fc 0 15 && amg m.hl 0 100 && amg m.en 0 100 && amg m.co 0 12 && amg m.ou 0 30 && amg m.sd 0 255
theorem rB_may (m : Mv) : (rB m && mD m) = mayB m := by
  rw [may_parts]
  unfold rB mA mB mC bw
  simp only [Bool.and_assoc]
set_option maxHeartbeats 4000000 in
theorem inranges_at (m : Mv) (b0 b1 b2 b3 b4 b5 b6 b7 b8 r : Bool) (HE : ∀ w, (binOp .eql 23 (pt (bnd m.ax) (bnd m.ay)) (pt m.ax m.ay)).run Tryd.prog w = .ok (.bool b0) w)
    (H1 : Hid (∀ w, Calls Tryd.prog 53 #[pt m.sx m.sy, .int .i64 1024] w fun e w' => e = .returned (.bool b1) ∧ Still w w'))
    (H2 : Hid (∀ w, Calls Tryd.prog 53 #[pt m.px m.py, .int .i64 256] w fun e w' => e = .returned (.bool b2) ∧ Still w w'))
    (H3 : Hid (∀ w, Calls Tryd.prog 40 #[.int .i64 m.fc, .int .i64 0, .int .i64 15] w fun e w' => e = .returned (.bool b3) ∧ w' = w))
    (H4 : Hid (∀ w, Calls Tryd.prog 40 #[.int .i64 m.hl, .int .i64 0, .int .i64 100] w fun e w' => e = .returned (.bool b4) ∧ w' = w))
    (H5 : Hid (∀ w, Calls Tryd.prog 40 #[.int .i64 m.en, .int .i64 0, .int .i64 100] w fun e w' => e = .returned (.bool b5) ∧ w' = w))
    (H6 : Hid (∀ w, Calls Tryd.prog 40 #[.int .i64 m.co, .int .i64 0, .int .i64 12] w fun e w' => e = .returned (.bool b6) ∧ w' = w))
    (H7 : Hid (∀ w, Calls Tryd.prog 40 #[.int .i64 m.ou, .int .i64 0, .int .i64 30] w fun e w' => e = .returned (.bool b7) ∧ w' = w))
    (H8 : Hid (∀ w, Calls Tryd.prog 40 #[.int .i64 m.sd, .int .i64 0, .int .i64 255] w fun e w' => e = .returned (.bool b8) ∧ w' = w))
    (h : (b0 = false ∧ r = false) ∨ (b0 = true ∧ b1 = false ∧ r = false) ∨ (b0 = true ∧ b1 = true ∧ b2 = false ∧ r = false) ∨ (b0 = true ∧ b1 = true ∧ b2 = true ∧ b3 = false ∧ r = false) ∨ (b0 = true ∧ b1 = true ∧ b2 = true ∧ b3 = true ∧ b4 = false ∧ r = false) ∨ (b0 = true ∧ b1 = true ∧ b2 = true ∧ b3 = true ∧ b4 = true ∧ b5 = false ∧ r = false) ∨ (b0 = true ∧ b1 = true ∧ b2 = true ∧ b3 = true ∧ b4 = true ∧ b5 = true ∧ b6 = false ∧ r = false) ∨ (b0 = true ∧ b1 = true ∧ b2 = true ∧ b3 = true ∧ b4 = true ∧ b5 = true ∧ b6 = true ∧ b7 = false ∧ r = false) ∨ (b0 = true ∧ b1 = true ∧ b2 = true ∧ b3 = true ∧ b4 = true ∧ b5 = true ∧ b6 = true ∧ b7 = true ∧ r = b8)) (w : World) :
    Calls Tryd.prog 28 #[mv m] w fun e w' => e = .returned (.bool r) ∧ Still w w' := by
  obtain ⟨W, eW⟩ : ∃ W, W = newW w m := ⟨_, rfl⟩
  have p : Wb W w.heap.size m := by rw [eW]; exact newW_wb w m
  have HS0 := hid (show Still w W by rw [eW]; exact Still.alloc w _)
  have HW := hid eW
  clear eW
  have G1 := guard_pt
  have HG := hid (fun w => gbound_any m.ax m.ay w)
  obtain ⟨c0, c1, c2, c3, c4, c5, c6, c7, c8, c9, c10, c11, c12, cf⟩ := p.cells
  have k0 := Cl.cell c0
  have k1 := Cl.cell c1
  have k2 := Cl.cell c2
  have k3 := Cl.cell c3
  have k4 := Cl.cell c4
  have k5 := Cl.cell c5
  have k6 := Cl.cell c6
  have k7 := Cl.cell c7
  have k8 := Cl.cell c8
  have k9 := Cl.cell c9
  have k10 := Cl.cell c10
  have k11 := Cl.cell c11
  have k12 := Cl.cell c12
  have hne := Aft.here W
  clear c0 c1 c2 c3 c4 c5 c6 c7 c8 c9 c10 c11 c12 cf p
  rcases h with ⟨rfl, rfl⟩ | ⟨rfl, rfl, rfl⟩ | ⟨rfl, rfl, rfl, rfl⟩ | ⟨rfl, rfl, rfl, rfl, rfl⟩ | ⟨rfl, rfl, rfl, rfl, rfl, rfl⟩ | ⟨rfl, rfl, rfl, rfl, rfl, rfl, rfl⟩ | ⟨rfl, rfl, rfl, rfl, rfl, rfl, rfl, rfl⟩ | ⟨rfl, rfl, rfl, rfl, rfl, rfl, rfl, rfl, rfl⟩ | ⟨rfl, rfl, rfl, rfl, rfl, rfl, rfl, rfl, rfl⟩
  all_goals
    go_enter Tryd.func28, Tryd.ntmps28
    go_wp2_with fail
    have e := HW.out
    simp only [newW] at e
    rw [← e]
    clear e HW
    refine region_all (by kernel_rfl) (by kernel_rfl) ?_
    repeat (go_big_quiet_step ((first | (go_at_call 24; exact Calls.cl (HG.out _)) | (go_at_call 53; with_reducible exact Calls.cl (H1.out _)) | (go_at_call 53; with_reducible exact Calls.cl (H2.out _)) | (go_at_call 40; with_reducible exact Calls.cl_same (H3.out _)) | (go_at_call 40; with_reducible exact Calls.cl_same (H4.out _)) | (go_at_call 40; with_reducible exact Calls.cl_same (H5.out _)) | (go_at_call 40; with_reducible exact Calls.cl_same (H6.out _)) | (go_at_call 40; with_reducible exact Calls.cl_same (H7.out _)) | (go_at_call 40; with_reducible exact Calls.cl_same (H8.out _)))))
    refine wpQuiet_nil ?_
    intro w1 hs
    go_wp2_with fail
    go_ret
    exact ⟨rfl, HS0.out.trans hs⟩
theorem inranges_any (m : Mv) (w : World) : Calls Tryd.prog 28 #[mv m] w fun e w' => e = .returned (.bool (rB m)) ∧ Still w w' := by
  refine inranges_at m (bnd m.ax == m.ax && bnd m.ay == m.ay) (bw m.sx m.sy 1024) (bw m.px m.py 256) (amg m.fc 0 15) (amg m.hl 0 100) (amg m.en 0 100) (amg m.co 0 12) (amg m.ou 0 30) (amg m.sd 0 255) (rB m) (eql_pt (bnd m.ax) (bnd m.ay) m.ax m.ay) (hid (both_any _ _ _ (by decide) (by decide))) (hid (both_any _ _ _ (by decide) (by decide))) (hid (within_any _ _ _)) (hid (within_any _ _ _)) (hid (within_any _ _ _)) (hid (within_any _ _ _)) (hid (within_any _ _ _)) (hid (within_any _ _ _)) ?_ w
  unfold rB
  generalize (bnd m.ax == m.ax && bnd m.ay == m.ay) = b0
  generalize bw m.sx m.sy 1024 = b1
  generalize bw m.px m.py 256 = b2
  generalize amg m.fc 0 15 = b3
  generalize amg m.hl 0 100 = b4
  generalize amg m.en 0 100 = b5
  generalize amg m.co 0 12 = b6
  generalize amg m.ou 0 30 = b7
  generalize amg m.sd 0 255 = b8
  revert b0 b1 b2 b3 b4 b5 b6 b7 b8
  decide
theorem suits_in (m : Mv) (h0 : m.ou = 0) (w : World) : Calls Tryd.prog 29 #[mv m] w fun e w' => e = .returned (.bool (mD m)) ∧ Still w w' := by
  have p := newW_wb w m
  have HS0 := hid (Still.alloc w (.cells (mcs m) 57))
  have HP := hid (fun w => inplay_any m w)
  obtain ⟨c0, c1, c2, c3, c4, c5, c6, c7, c8, c9, c10, c11, c12, cf⟩ := p.cells
  rw [show (m.ou == 0) = true by simpa using h0] at HP
  have HQ : Hid (mD m = decide (1 ≤ m.hl)) := hid (by unfold mD; rw [if_pos h0])
  clear h0
  go_enter Tryd.func29, Tryd.ntmps29
  go_wp2_with fail
  refine (HP.out _).mono ?_
  rintro e w1 ⟨rfl, h1⟩
  have p1 := p.still h1
  have HS1 := hid (HS0.out.trans h1)
  clear h1 p HS0 c0 c1 c2 c3 c4 c5 c6 c7 c8 c9 c10 c11 c12 cf
  obtain ⟨c0, c1, c2, c3, c4, c5, c6, c7, c8, c9, c10, c11, c12, cf⟩ := p1.cells
  go_wp2_with fail
  go_ret
  exact ⟨by rw [HQ.out]; rfl, HS1.out⟩
set_option maxHeartbeats 1000000 in
theorem suits_out (m : Mv) (h0 : ¬ m.ou = 0) (w : World) : Calls Tryd.prog 29 #[mv m] w fun e w' => e = .returned (.bool (mD m)) ∧ Still w w' := by
  have p := newW_wb w m
  have HS0 := hid (Still.alloc w (.cells (mcs m) 57))
  have HP := hid (fun w => inplay_any m w)
  have G2 := guard_mv
  obtain ⟨c0, c1, c2, c3, c4, c5, c6, c7, c8, c9, c10, c11, c12, cf⟩ := p.cells
  rw [show (m.ou == 0) = false by simpa using h0] at HP
  have HQ : Hid (mD m = eqM m (outN m)) := hid (by unfold mD; rw [if_neg h0])
  have E2 := eql_mv m (outN m)
  have HG := hid (fun w => gone_any m m.ou w)
  rw [show goneM m m.ou = outN m from rfl] at HG
  obtain ⟨q, eq⟩ : ∃ q, outN m = q := ⟨_, rfl⟩
  rw [eq] at HG E2 HQ
  obtain ⟨bb, ebb⟩ : ∃ b, eqM m q = b := ⟨_, rfl⟩
  rw [ebb] at E2 HQ
  clear h0 eq ebb
  go_enter Tryd.func29, Tryd.ntmps29
  go_wp2_with fail
  refine (HP.out _).mono ?_
  rintro e w1 ⟨rfl, h1⟩
  have p1 := p.still h1
  have HS1 := hid (HS0.out.trans h1)
  clear h1 p HS0 c0 c1 c2 c3 c4 c5 c6 c7 c8 c9 c10 c11 c12 cf
  obtain ⟨c0, c1, c2, c3, c4, c5, c6, c7, c8, c9, c10, c11, c12, cf⟩ := p1.cells
  have k0 := Cl.cell c0
  have k1 := Cl.cell c1
  have k2 := Cl.cell c2
  have k3 := Cl.cell c3
  have k4 := Cl.cell c4
  have k5 := Cl.cell c5
  have k6 := Cl.cell c6
  have k7 := Cl.cell c7
  have k8 := Cl.cell c8
  have k9 := Cl.cell c9
  have k10 := Cl.cell c10
  have k11 := Cl.cell c11
  have k12 := Cl.cell c12
  have hne := Aft.here w1
  clear c0 c1 c2 c3 c4 c5 c6 c7 c8 c9 c10 c11 c12 cf p1
  go_wp2_with fail
  refine region_all (by kernel_rfl) (by kernel_rfl) ?_
  repeat (go_big_quiet_step ((go_at_call 54; exact Calls.cl (HG.out _))))
  refine wpQuiet_nil ?_
  intro w2 hs
  go_wp2_with fail
  go_ret
  exact ⟨by rw [HQ.out]; rfl, HS1.out.trans hs⟩
theorem suits_any (m : Mv) (w : World) : Calls Tryd.prog 29 #[mv m] w fun e w' => e = .returned (.bool (mD m)) ∧ Still w w' := by
  by_cases h0 : m.ou = 0
  · exact suits_in m h0 w
  · exact suits_out m h0 w
theorem check8_any (m : Mv) (w : World) : Calls Tryd.prog 12 #[mv m] w fun e w' => e = .returned (.int .i64 (chkM m)) ∧ Still w w' := by
  have A0 := Still.alloc w (.cells (mcs m) 25)
  have A1 := Still.alloc (newM w m) (.cells (mcs m) 57)
  have p := newW_wb (newM w m) m
  rw [size_alloc] at p
  have p0 := newM_mb w m
  have HS0 := hid (A0.trans A1)
  clear A0 A1
  have H1 := hid (fun w => inranges_any m w)
  have H2 := hid (fun w => suits_any m w)
  have HC : Hid (chkM m = if (rB m && mD m) then 0 else 80) := hid (by rw [rB_may]; rfl)
  obtain ⟨a, ea⟩ : ∃ b, rB m = b := ⟨_, rfl⟩
  obtain ⟨b, eb⟩ : ∃ b, mD m = b := ⟨_, rfl⟩
  rw [ea] at H1
  rw [eb] at H2
  rw [ea, eb] at HC
  clear ea eb
  obtain ⟨d0, d1, d2, d3, d4, d5, d6, d7, d8, d9, d10, d11, d12, df⟩ := p0.cells
  obtain ⟨c0, c1, c2, c3, c4, c5, c6, c7, c8, c9, c10, c11, c12, cf⟩ := p.cells
  go_enter Tryd.func12, Tryd.ntmps12
  go_wp2_with fail
  refine (H1.out _).mono ?_
  rintro e w1 ⟨rfl, h1⟩
  have p1 := p.still h1
  have HS1 := hid (HS0.out.trans h1)
  clear h1 p HS0 p0 d0 d1 d2 d3 d4 d5 d6 d7 d8 d9 d10 d11 d12 df c0 c1 c2 c3 c4 c5 c6 c7 c8 c9 c10 c11 c12 cf
  obtain ⟨c0, c1, c2, c3, c4, c5, c6, c7, c8, c9, c10, c11, c12, cf⟩ := p1.cells
  cases a with
  | false =>
    go_wp2_with fail
    go_ret
    exact ⟨by rw [HC.out]; rfl, HS1.out⟩
  | true =>
    go_wp2_with fail
    refine (H2.out _).mono ?_
    rintro e w2 ⟨rfl, h2⟩
    have HS2 := hid (HS1.out.trans h2)
    clear h2 HS1 p1 c0 c1 c2 c3 c4 c5 c6 c7 c8 c9 c10 c11 c12 cf
    cases b with
    | false =>
      go_wp2_with fail
      go_ret
      exact ⟨by rw [HC.out]; rfl, HS2.out⟩
    | true =>
      go_wp2_with fail
      go_ret
      exact ⟨by rw [HC.out]; rfl, HS2.out⟩
end Go.Proofs.YtaalbkmdmocdeaaDoor
