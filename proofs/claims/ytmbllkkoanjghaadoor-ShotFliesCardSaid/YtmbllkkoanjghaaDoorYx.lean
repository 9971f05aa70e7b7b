/- The program's Check, Damage, Fire and Fly of shots. -/
import Derived.Test.YtmbllkkoanjghaaDoorZb
import Derived.Test.YtmbllkkoanjghaaDoorK8
import Derived.Test.YtmbllkkoanjghaaDoorK6c
import Derived.Test.YtmbllkkoanjghaaDoorK5b
import Derived.Deep.RegionHeld3
import Derived.Deep.DeepCutAuto
namespace Go.Proofs.YtmbllkkoanjghaaDoor
open Go.RowKit
open Pu Gp Ap Vp Np Za
set_option maxRecDepth 100000

theorem swithin_any (n l h : Int) (w : World) : Calls Tryd.prog 39 #[.int .i64 n, .int .i64 l, .int .i64 h] w fun e w' => e = .returned (.bool (amg n l h)) ∧ w' = w := by
  unfold amg
  by_cases h1 : l ≤ n
  · go_enter Tryd.func39, Tryd.ntmps39
    go_wp2_with fail
    go_ret
    exact ⟨by simp [h1], rfl⟩
  · have e : decide (l ≤ n) = false := by simpa using h1
    rw [e]
    go_enter Tryd.func39, Tryd.ntmps39
    go_wp2_with fail
    go_ret
    exact ⟨rfl, rfl⟩
theorem ispow_any (n : Int) (w : World) : Calls Tryd.prog 21 #[.int .i64 n] w fun e w' => e = .returned (.bool (amg n 1 3)) ∧ w' = w := by
  have H := hid (fun w => swithin_any n 1 3 w)
  obtain ⟨b, eb⟩ : ∃ b, amg n 1 3 = b := ⟨_, rfl⟩
  rw [eb] at H ⊢
  clear eb
  go_enter Tryd.func21, Tryd.ntmps21
  go_wp2_with fail
  refine (H.out _).mono ?_
  rintro e w2 ⟨he, hw⟩
  rw [he, hw]
  clear he hw w2
  go_wp2_with fail
  go_ret
  exact ⟨rfl, rfl⟩
theorem isown_any (n : Int) (w : World) : Calls Tryd.prog 23 #[.int .i64 n] w fun e w' => e = .returned (.bool (amg n 0 5)) ∧ w' = w := by
  have H := hid (fun w => swithin_any n 0 5 w)
  obtain ⟨b, eb⟩ : ∃ b, amg n 0 5 = b := ⟨_, rfl⟩
  rw [eb] at H ⊢
  clear eb
  go_enter Tryd.func23, Tryd.ntmps23
  go_wp2_with fail
  refine (H.out _).mono ?_
  rintro e w2 ⟨he, hw⟩
  rw [he, hw]
  clear he hw w2
  go_wp2_with fail
  go_ret
  exact ⟨rfl, rfl⟩
theorem isno9_any (n : Int) (w : World) : Calls Tryd.prog 24 #[.int .i64 n] w fun e w' => e = .returned (.bool (amg n 1 1099511627776)) ∧ w' = w := by
  have H := hid (fun w => swithin_any n 1 1099511627776 w)
  obtain ⟨b, eb⟩ : ∃ b, amg n 1 1099511627776 = b := ⟨_, rfl⟩
  rw [eb] at H ⊢
  clear eb
  go_enter Tryd.func24, Tryd.ntmps24
  go_wp2_with fail
  refine (H.out _).mono ?_
  rintro e w2 ⟨he, hw⟩
  rw [he, hw]
  clear he hw w2
  go_wp2_with fail
  go_ret
  exact ⟨rfl, rfl⟩
/-- block g holds a shot by itself -/
def Pl (w : World) (g : Nat) (m : Sh) : Prop := w.heap[g]? = some (.cells (scs m) 46 (0, 0))
theorem Pl.still {w w' : World} {g : Nat} {m : Sh} (h : Pl w g m) (hs : Still w w') : Pl w' g m := hs.kept_still h
theorem Pl.lt {w : World} {g : Nat} {m : Sh} (h : Pl w g m) : g < w.heap.size := block_lt h
theorem Pl.cells {w : World} {g : Nat} {m : Sh} (h : Pl w g m) : w.cell? ⟨g, 0, none⟩ = some (.int .i64 m.no) ∧ w.cell? ⟨g, 1, none⟩ = some (.int .i64 m.ow) ∧ w.cell? ⟨g, 2, none⟩ = some (.int .i64 m.pw) ∧ w.cell? ⟨g, 3, none⟩ = some (.int .i64 m.ax) ∧ w.cell? ⟨g, 4, none⟩ = some (.int .i64 m.ay) ∧ w.cell? ⟨g, 5, none⟩ = some (.int .i64 m.sx) ∧ w.cell? ⟨g, 6, none⟩ = some (.int .i64 m.sy) ∧ w.cell? ⟨g, 7, none⟩ = some (.int .i64 m.lf) ∧ ∀ o, w.frozen? ⟨g, o, none⟩ = false := by
  refine ⟨?_, ?_, ?_, ?_, ?_, ?_, ?_, ?_, fun o => frozen_of_row w g o _ _ h⟩ <;> (rw [cell_of_row _ _ _ _ _ _ h]; rfl)
abbrev newL (w : World) (m : Sh) : World := w.alloc (.cells (scs m) 46)
theorem newL_pl (w : World) (m : Sh) : Pl (newL w m) w.heap.size m := heap_alloc_new w _
theorem Pl.step {w : World} {g : Nat} {m : Sh} (h : Pl w g m) (x y k : Int) : Pl (((w.setCell ⟨g, 3, none⟩ (.int .i64 x)).setCell ⟨g, 4, none⟩ (.int .i64 y)).setCell ⟨g, 7, none⟩ (.int .i64 k)) g { m with ax := x, ay := y, lf := k } := by
  have h1 := heap_setCell_same w g 3 _ _ (.int .i64 x) h
  have h2 := heap_setCell_same _ g 4 _ _ (.int .i64 y) h1
  have h3 := heap_setCell_same _ g 7 _ _ (.int .i64 k) h2
  exact h3.trans (by kernel_rfl)
/-- block g holds a shot on its way between walls -/
abbrev fcs (s : Sh) (C R : Int) (b : ByteArray) : Array Value := #[.int .i64 s.no, .int .i64 s.ow, .int .i64 s.pw, .int .i64 s.ax, .int .i64 s.ay, .int .i64 s.sx, .int .i64 s.sy, .int .i64 s.lf, .int .i64 C, .int .i64 R, .string b]
def Fb (w : World) (g : Nat) (m : Sh) (C R : Int) (b : ByteArray) : Prop := w.heap[g]? = some (.cells (fcs m C R b) 56 (0, 0))
theorem Fb.still {w w' : World} {g : Nat} {m : Sh} {C R : Int} {b : ByteArray} (h : Fb w g m C R b) (hs : Still w w') : Fb w' g m C R b := hs.kept_still h
theorem Fb.cells {w : World} {g : Nat} {m : Sh} {C R : Int} {b : ByteArray} (h : Fb w g m C R b) : w.cell? ⟨g, 0, none⟩ = some (.int .i64 m.no) ∧ w.cell? ⟨g, 1, none⟩ = some (.int .i64 m.ow) ∧ w.cell? ⟨g, 2, none⟩ = some (.int .i64 m.pw) ∧ w.cell? ⟨g, 3, none⟩ = some (.int .i64 m.ax) ∧ w.cell? ⟨g, 4, none⟩ = some (.int .i64 m.ay) ∧ w.cell? ⟨g, 5, none⟩ = some (.int .i64 m.sx) ∧ w.cell? ⟨g, 6, none⟩ = some (.int .i64 m.sy) ∧ w.cell? ⟨g, 7, none⟩ = some (.int .i64 m.lf) ∧ w.cell? ⟨g, 8, none⟩ = some (.int .i64 C) ∧ w.cell? ⟨g, 9, none⟩ = some (.int .i64 R) ∧ w.cell? ⟨g, 10, none⟩ = some (.string b) ∧ ∀ o, w.frozen? ⟨g, o, none⟩ = false := by
  refine ⟨?_, ?_, ?_, ?_, ?_, ?_, ?_, ?_, ?_, ?_, ?_, fun o => frozen_of_row w g o _ _ h⟩ <;> (rw [cell_of_row _ _ _ _ _ _ h]; rfl)
abbrev newF (w : World) (m : Sh) (C R : Int) (b : ByteArray) : World := w.alloc (.cells (fcs m C R b) 56)
theorem newF_fb (w : World) (m : Sh) (C R : Int) (b : ByteArray) : Fb (newF w m C R b) w.heap.size m C R b := heap_alloc_new w _
theorem mayS_amg (s : Sh) : maySB s = (amg s.no 1 1099511627776 && amg s.ow 0 5 && amg s.pw 1 3 && (bnd s.ax == s.ax && bnd s.ay == s.ay) && amg s.sx (-1536) 1536 && amg s.sy (-1536) 1536 && amg s.lf 1 40) := by
  rw [Bool.eq_iff_iff, maySB_iff]
  unfold amg MayS
  simp only [Bool.and_eq_true, beq_iff_eq, bnd_is, decide_eq_true_eq]
  omega
set_option maxHeartbeats 4000000 in
theorem mayBe_at (s : Sh) (b0 b1 b2 b3 b4 b5 b6 r : Bool) (HE : ∀ w, (binOp .eql 23 (pt (bnd s.ax) (bnd s.ay)) (pt s.ax s.ay)).run Tryd.prog w = .ok (.bool b3) w)
    (H0 : Hid (∀ w, Calls Tryd.prog 24 #[.int .i64 s.no] w fun e w' => e = .returned (.bool b0) ∧ w' = w))
    (H1 : Hid (∀ w, Calls Tryd.prog 23 #[.int .i64 s.ow] w fun e w' => e = .returned (.bool b1) ∧ w' = w))
    (H2 : Hid (∀ w, Calls Tryd.prog 21 #[.int .i64 s.pw] w fun e w' => e = .returned (.bool b2) ∧ w' = w))
    (H4 : Hid (∀ w, Calls Tryd.prog 39 #[.int .i64 s.sx, .int .i64 (-1536), .int .i64 1536] w fun e w' => e = .returned (.bool b4) ∧ w' = w))
    (H5 : Hid (∀ w, Calls Tryd.prog 39 #[.int .i64 s.sy, .int .i64 (-1536), .int .i64 1536] w fun e w' => e = .returned (.bool b5) ∧ w' = w))
    (H6 : Hid (∀ w, Calls Tryd.prog 39 #[.int .i64 s.lf, .int .i64 1, .int .i64 40] w fun e w' => e = .returned (.bool b6) ∧ w' = w))
    (h : (b0 = false ∧ r = false) ∨ (b0 = true ∧ b1 = false ∧ r = false) ∨ (b0 = true ∧ b1 = true ∧ b2 = false ∧ r = false) ∨ (b0 = true ∧ b1 = true ∧ b2 = true ∧ b3 = false ∧ r = false) ∨ (b0 = true ∧ b1 = true ∧ b2 = true ∧ b3 = true ∧ b4 = false ∧ r = false) ∨ (b0 = true ∧ b1 = true ∧ b2 = true ∧ b3 = true ∧ b4 = true ∧ b5 = false ∧ r = false) ∨ (b0 = true ∧ b1 = true ∧ b2 = true ∧ b3 = true ∧ b4 = true ∧ b5 = true ∧ r = b6)) (w : World) :
    Calls Tryd.prog 19 #[sv s] w fun e w' => e = .returned (.bool r) ∧ Still w w' := by
  obtain ⟨W, eW⟩ : ∃ W, W = newL w s := ⟨_, rfl⟩
  have p : Pl W w.heap.size s := by rw [eW]; exact newL_pl w s
  have HS0 := hid (show Still w W by rw [eW]; exact Still.alloc w _)
  have HW := hid eW
  clear eW
  have G1 := guard_pt
  have HG := hid (fun w => gbound_any s.ax s.ay w)
  obtain ⟨c0, c1, c2, c3, c4, c5, c6, c7, cf⟩ := p.cells
  have k0 := Cl.cell c0
  have k1 := Cl.cell c1
  have k2 := Cl.cell c2
  have k3 := Cl.cell c3
  have k4 := Cl.cell c4
  have k5 := Cl.cell c5
  have k6 := Cl.cell c6
  have k7 := Cl.cell c7
  have hne := Aft.here W
  clear c0 c1 c2 c3 c4 c5 c6 c7 cf p
  rcases h with ⟨rfl, rfl⟩ | ⟨rfl, rfl, rfl⟩ | ⟨rfl, rfl, rfl, rfl⟩ | ⟨rfl, rfl, rfl, rfl, rfl⟩ | ⟨rfl, rfl, rfl, rfl, rfl, rfl⟩ | ⟨rfl, rfl, rfl, rfl, rfl, rfl, rfl⟩ | ⟨rfl, rfl, rfl, rfl, rfl, rfl, rfl⟩
  all_goals
    go_enter Tryd.func19, Tryd.ntmps19
    go_wp2_with fail
    have e := HW.out
    simp only [newL] at e
    rw [← e]
    clear e HW
    refine region_all (by kernel_rfl) (by kernel_rfl) ?_
    repeat (go_big_quiet_step ((first | (go_at_call 38; exact Calls.cl (HG.out _)) | (go_at_call 24; with_reducible exact Calls.cl_same (H0.out _)) | (go_at_call 23; with_reducible exact Calls.cl_same (H1.out _)) | (go_at_call 21; with_reducible exact Calls.cl_same (H2.out _)) | (go_at_call 39; with_reducible exact Calls.cl_same (H4.out _)) | (go_at_call 39; with_reducible exact Calls.cl_same (H5.out _)) | (go_at_call 39; with_reducible exact Calls.cl_same (H6.out _)))))
    refine wpQuiet_nil ?_
    intro w1 hs
    go_wp2_with fail
    go_ret
    exact ⟨rfl, HS0.out.trans hs⟩
theorem mayBe_any (s : Sh) (w : World) : Calls Tryd.prog 19 #[sv s] w fun e w' => e = .returned (.bool (maySB s)) ∧ Still w w' := by
  refine mayBe_at s (amg s.no 1 1099511627776) (amg s.ow 0 5) (amg s.pw 1 3) ((bnd s.ax == s.ax && bnd s.ay == s.ay)) (amg s.sx (-1536) 1536) (amg s.sy (-1536) 1536) (amg s.lf 1 40) (maySB s) (eql_pt (bnd s.ax) (bnd s.ay) s.ax s.ay) (hid (isno9_any _)) (hid (isown_any _)) (hid (ispow_any _)) (hid (swithin_any _ _ _)) (hid (swithin_any _ _ _)) (hid (swithin_any _ _ _)) ?_ w
  rw [mayS_amg]
  generalize amg s.no 1 1099511627776 = b0
  generalize amg s.ow 0 5 = b1
  generalize amg s.pw 1 3 = b2
  generalize (bnd s.ax == s.ax && bnd s.ay == s.ay) = b3
  generalize amg s.sx (-1536) 1536 = b4
  generalize amg s.sy (-1536) 1536 = b5
  generalize amg s.lf 1 40 = b6
  revert b0 b1 b2 b3 b4 b5 b6
  decide
theorem chks_any (s : Sh) (w : World) : Calls Tryd.prog 9 #[sv s] w fun e w' => e = .returned (.int .i64 (chkS s)) ∧ Still w w' := by
  have p0 := newS_sb w s
  have HS0 := hid (Still.alloc w (.cells (scs s) 25))
  have H1 := hid (fun w => mayBe_any s w)
  have HC : Hid (chkS s = if maySB s then 0 else 90) := hid rfl
  obtain ⟨a, ea⟩ : ∃ b, maySB s = b := ⟨_, rfl⟩
  rw [ea] at H1 HC
  clear ea
  obtain ⟨c0, c1, c2, c3, c4, c5, c6, c7, cf⟩ := p0.cells
  go_enter Tryd.func9, Tryd.ntmps9
  go_wp2_with fail
  refine (H1.out _).mono ?_
  rintro e w1 ⟨rfl, h1⟩
  have HS1 := hid (HS0.out.trans h1)
  clear h1 HS0 p0 c0 c1 c2 c3 c4 c5 c6 c7 cf
  cases a with
  | false =>
    go_wp2_with fail
    go_ret
    exact ⟨by rw [HC.out]; rfl, HS1.out⟩
  | true =>
    go_wp2_with fail
    go_ret
    exact ⟨by rw [HC.out]; rfl, HS1.out⟩
theorem dmgs_any (p : Int) (w : World) : Calls Tryd.prog 11 #[.int .i64 p] w fun e w' => e = .returned (.int .i64 (dmg p)) ∧ w' = w := by
  have H1 := hid (fun w => ispow_any p w)
  cases ha : amg p 1 3 with
  | false =>
    have e : dmg p = 0 := by
      unfold dmg
      by_cases h : 1 ≤ p ∧ p ≤ 3
      · rw [amg_iff.2 h] at ha; cases ha
      · rw [if_pos (by omega)]
    rw [e]
    rw [ha] at H1
    clear ha e
    go_enter Tryd.func11, Tryd.ntmps11
    go_wp2_with fail
    refine (H1.out _).mono ?_
    rintro e w2 ⟨he, hw⟩
    rw [he, hw]
    clear he hw w2
    go_wp2_with fail
    go_ret
    exact ⟨rfl, rfl⟩
  | true =>
    obtain ⟨h1, h2⟩ := amg_iff.1 ha
    have e : dmg p = 15 * p := by unfold dmg; rw [if_neg (by omega)]
    rw [e]
    rw [ha] at H1
    clear ha e
    go_enter Tryd.func11, Tryd.ntmps11
    go_wp2_with fail
    refine (H1.out _).mono ?_
    rintro e w2 ⟨he, hw⟩
    rw [he, hw]
    clear he hw w2
    go_wp2_with fail
    go_ret
    exact ⟨rfl, rfl⟩
set_option maxHeartbeats 1000000 in
theorem fire_may (m : Mv) (ow pw no : Int) (hm : mayB m = false) (w : World) : Calls Tryd.prog 13 #[mv m, .int .i64 ow, .int .i64 pw, .int .i64 no] w fun e w' => e = .returned (.tuple #[sv zS, .int .i64 80]) ∧ Still w w' := by
  have A0 := Still.alloc w (.cells (mcs m) 32)
  have A1 := Still.alloc (newM w m) (.cells (scs zS) 25)
  have p0 := (newM_mb w m).still A1
  have q0 := newS_sb (newM w m) zS
  simp only [size_alloc] at q0
  have HS0 := hid (A0.trans A1)
  clear A0 A1
  obtain ⟨c0, c1, c2, c3, c4, c5, c6, c7, c8, c9, c10, c11, c12, cf⟩ := p0.cells
  have H := hid (fun w => check8_any m w)
  rw [show chkM m = 80 by unfold chkM; rw [hm]; rfl] at H
  clear hm
  go_enter Tryd.func13, Tryd.ntmps13
  go_wp2_with fail
  refine (H.out _).mono ?_
  rintro e w1 ⟨rfl, h1⟩
  have p1 := p0.still h1
  have q1 := q0.still h1
  have HS1 := hid (HS0.out.trans h1)
  clear h1 HS0 p0 q0 c0 c1 c2 c3 c4 c5 c6 c7 c8 c9 c10 c11 c12 cf H
  obtain ⟨c0, c1, c2, c3, c4, c5, c6, c7, c8, c9, c10, c11, c12, cf⟩ := p1.cells
  obtain ⟨k0, k1, k2, k3, k4, k5, k6, k7, kf⟩ := q1.cells
  go_wp2_with fail
  refine bodyPost_ret (Sb.rest (Sb.put q1 _ _ _ _ _ _ _ _) rfl _ _ rfl rfl) rfl ⟨rfl, ?_⟩
  repeat (first | refine setC_fr ?_ _ _ _ (by omega) | with_reducible exact HS1.out)
set_option maxHeartbeats 1000000 in
theorem fire_arg (m : Mv) (ow pw no : Int) (hm : mayB m = true) (ha : argB ow pw no = false) (w : World) : Calls Tryd.prog 13 #[mv m, .int .i64 ow, .int .i64 pw, .int .i64 no] w fun e w' => e = .returned (.tuple #[sv zS, .int .i64 1]) ∧ Still w w' := by
  have HO := hid (fun w => isown_any ow w)
  have HP := hid (fun w => ispow_any pw w)
  have HN := hid (fun w => isno9_any no w)
  have e0 : (amg ow 0 5 && amg pw 1 3 && amg no 1 1099511627776) = false := by
    rw [← ha]; unfold argB amg; simp only [Bool.and_assoc]
  obtain ⟨bo, eo⟩ : ∃ b, amg ow 0 5 = b := ⟨_, rfl⟩
  obtain ⟨bp, ep⟩ : ∃ b, amg pw 1 3 = b := ⟨_, rfl⟩
  obtain ⟨bn, en⟩ : ∃ b, amg no 1 1099511627776 = b := ⟨_, rfl⟩
  rw [eo] at HO e0
  rw [ep] at HP e0
  rw [en] at HN e0
  clear eo ep en ha
  have A0 := Still.alloc w (.cells (mcs m) 32)
  have A1 := Still.alloc (newM w m) (.cells (scs zS) 25)
  have p0 := (newM_mb w m).still A1
  have q0 := newS_sb (newM w m) zS
  simp only [size_alloc] at q0
  have HS0 := hid (A0.trans A1)
  clear A0 A1
  obtain ⟨c0, c1, c2, c3, c4, c5, c6, c7, c8, c9, c10, c11, c12, cf⟩ := p0.cells
  have H := hid (fun w => check8_any m w)
  rw [show chkM m = 0 by unfold chkM; rw [hm]; rfl] at H
  clear hm
  have HB := hid e0
  clear e0
  go_enter Tryd.func13, Tryd.ntmps13
  go_wp2_with fail
  refine (H.out _).mono ?_
  rintro e w1 ⟨rfl, h1⟩
  have p1 := p0.still h1
  have q1 := q0.still h1
  have HS1 := hid (HS0.out.trans h1)
  clear h1 HS0 p0 q0 c0 c1 c2 c3 c4 c5 c6 c7 c8 c9 c10 c11 c12 cf H
  obtain ⟨c0, c1, c2, c3, c4, c5, c6, c7, c8, c9, c10, c11, c12, cf⟩ := p1.cells
  obtain ⟨k0, k1, k2, k3, k4, k5, k6, k7, kf⟩ := q1.cells
  go_wp2_with fail
  refine (HO.out _).mono ?_
  rintro e w2 ⟨he, hw⟩
  rw [he, hw]
  clear he hw w2
  cases bo with
  | false =>
    go_wp2_with fail
    refine bodyPost_ret (Sb.rest (Sb.put q1 _ _ _ _ _ _ _ _) rfl _ _ rfl rfl) rfl ⟨rfl, ?_⟩
    repeat (first | refine setC_fr ?_ _ _ _ (by omega) | with_reducible exact HS1.out)
  | true =>
    go_wp2_with fail
    refine (HP.out _).mono ?_
    rintro e w2 ⟨he, hw⟩
    rw [he, hw]
    clear he hw w2
    cases bp with
    | false =>
      go_wp2_with fail
      refine bodyPost_ret (Sb.rest (Sb.put q1 _ _ _ _ _ _ _ _) rfl _ _ rfl rfl) rfl ⟨rfl, ?_⟩
      repeat (first | refine setC_fr ?_ _ _ _ (by omega) | with_reducible exact HS1.out)
    | true =>
      cases bn with
      | true => exact absurd HB.out (by decide)
      | false =>
        go_wp2_with fail
        refine (HN.out _).mono ?_
        rintro e w2 ⟨he, hw⟩
        rw [he, hw]
        clear he hw w2
        go_wp2_with fail
        refine bodyPost_ret (Sb.rest (Sb.put q1 _ _ _ _ _ _ _ _) rfl _ _ rfl rfl) rfl ⟨rfl, ?_⟩
        repeat (first | refine setC_fr ?_ _ _ _ (by omega) | with_reducible exact HS1.out)
set_option maxHeartbeats 2000000 in
theorem fire_ok (m : Mv) (ow pw no : Int) (hm : mayB m = true) (ha : argB ow pw no = true) (U V : Int) (eU : ux (dir m.fc) = U) (eV : uy (dir m.fc) = V) (w : World) (ht : Tab w) : Calls Tryd.prog 13 #[mv m, .int .i64 ow, .int .i64 pw, .int .i64 no] w fun e w' => e = .returned (.tuple #[sv ⟨no, ow, pw, addf m.ax (mulf U 1792), addf m.ay (mulf V 1792), mulf U (256 * (7 - pw)), mulf V (256 * (7 - pw)), 40⟩, .int .i64 0]) ∧ Still w w' := by
  have ha2 := argB_iff.1 ha
  have HO := hid (fun w => isown_any ow w)
  have HP := hid (fun w => ispow_any pw w)
  have HN := hid (fun w => isno9_any no w)
  rw [amg_iff.2 ha2.1] at HO
  rw [amg_iff.2 ha2.2.1] at HP
  rw [amg_iff.2 ha2.2.2] at HN
  obtain ⟨a2, a3⟩ := ha2.2.1
  clear ha ha2
  obtain ⟨X, eX⟩ : ∃ X, addf m.ax (mulf U 1792) = X := ⟨_, rfl⟩
  obtain ⟨Y, eY⟩ : ∃ Y, addf m.ay (mulf V 1792) = Y := ⟨_, rfl⟩
  obtain ⟨P, eP⟩ : ∃ P, mulf U (256 * (7 - pw)) = P := ⟨_, rfl⟩
  obtain ⟨Q, eQ⟩ : ∃ Q, mulf V (256 * (7 - pw)) = Q := ⟨_, rfl⟩
  have HAd := hid (fun u => gadd_any m.ax m.ay (mulf U 1792) (mulf V 1792) u)
  have HSa := hid (fun u => gscale_any U V 1792 u)
  have HSb := hid (fun u => gscale_any U V ((7 - pw) * 256) u)
  rw [Int.mul_comm] at eP eQ
  rw [eX, eY] at HAd
  rw [eP, eQ] at HSb
  rw [eX, eY, show mulf U (256 * (7 - pw)) = P from by rw [Int.mul_comm]; exact eP, show mulf V (256 * (7 - pw)) = Q from by rw [Int.mul_comm]; exact eQ]
  clear eX eY eP eQ
  have A0 := Still.alloc w (.cells (mcs m) 32)
  have A1 := Still.alloc (newM w m) (.cells (scs zS) 25)
  have p0 := (newM_mb w m).still A1
  have q0 := newS_sb (newM w m) zS
  simp only [size_alloc] at q0
  have HS0 := hid (A0.trans A1)
  clear A0 A1
  obtain ⟨c0, c1, c2, c3, c4, c5, c6, c7, c8, c9, c10, c11, c12, cf⟩ := p0.cells
  have H := hid (fun w => check8_any m w)
  rw [show chkM m = 0 by unfold chkM; rw [hm]; rfl] at H
  have HU := hid (fun u (hu : Still w u) => unit_any m.fc u (ht.still hu))
  rw [eU, eV] at HU
  clear hm ht eU eV
  go_enter Tryd.func13, Tryd.ntmps13
  go_wp2_with fail
  refine (H.out _).mono ?_
  rintro e w1 ⟨rfl, h1⟩
  have p1 := p0.still h1
  have q1 := q0.still h1
  have HS1 := hid (HS0.out.trans h1)
  clear h1 HS0 p0 q0 c0 c1 c2 c3 c4 c5 c6 c7 c8 c9 c10 c11 c12 cf H
  obtain ⟨c0, c1, c2, c3, c4, c5, c6, c7, c8, c9, c10, c11, c12, cf⟩ := p1.cells
  obtain ⟨k0, k1, k2, k3, k4, k5, k6, k7, kf⟩ := q1.cells
  go_wp2_with fail
  refine (HO.out _).mono ?_
  rintro e w2 ⟨he, hw⟩
  rw [he, hw]
  clear he hw w2
  go_wp2_with fail
  refine (HP.out _).mono ?_
  rintro e w2 ⟨he, hw⟩
  rw [he, hw]
  clear he hw w2
  go_wp2_with fail
  refine (HN.out _).mono ?_
  rintro e w2 ⟨he, hw⟩
  rw [he, hw]
  clear he hw w2
  go_wp2_with fail
  refine (HU.out _ HS1.out).mono ?_
  rintro e w2 ⟨rfl, h2⟩
  have A2 := Still.alloc w2 (.cells #[.int .i64 U, .int .i64 V] 23)
  have p2 := (p1.still h2).still A2
  have q2 := (q1.still h2).still A2
  have u2 : Pb (w2.alloc (.cells #[.int .i64 U, .int .i64 V] 23)) w2.heap.size U V := newP_pb w2 U V
  have HS2 := hid ((HS1.out.trans h2).trans A2)
  clear h2 A2 HS1 p1 q1 HU c0 c1 c2 c3 c4 c5 c6 c7 c8 c9 c10 c11 c12 cf k0 k1 k2 k3 k4 k5 k6 k7 kf
  obtain ⟨W, eW⟩ : ∃ W, w2.alloc (.cells #[.int .i64 U, .int .i64 V] 23) = W := ⟨_, rfl⟩
  rw [eW] at p2 q2 u2 HS2
  go_upto_region 7 with fail
  clear eW
  obtain ⟨c0, c1, c2, c3, c4, c5, c6, c7, c8, c9, c10, c11, c12, cf⟩ := p2.cells
  obtain ⟨d0, d1, df⟩ := u2.cells
  have k0 := Cl.cell c0
  have k1 := Cl.cell c1
  have k2 := Cl.cell d0
  have k3 := Cl.cell d1
  have hne := Aft.here W
  clear d0 d1 df c0 c1 c2 c3 c4 c5 c6 c7 c8 c9 c10 c11 c12 cf
  refine region_rest 14 (by kernel_rfl) (by kernel_rfl) ?_
  simp only [List.take_succ_cons, List.take_zero, List.drop_succ_cons, List.drop_zero]
  repeat (go_big_quiet_step ((first | (go_at_call 27; with_reducible exact Calls.cl (HSa.out _)) | (go_at_call 27; with_reducible exact Calls.cl (HSb.out _)) | (go_at_call 26; with_reducible exact Calls.cl (HAd.out _)))))
  refine wpQuiet_nil ?_
  intro w6 hs
  clear hne k0 k1 k2 k3
  have q6 := q2.still hs
  have HS6 := hid (HS2.out.trans hs)
  clear hs q2 HS2 p2 u2
  obtain ⟨k0, k1, k2, k3, k4, k5, k6, k7, kf⟩ := q6.cells
  go_wp2_with fail
  (try simp only [Exit.inBlock, Exit.then])
  refine bodyPost_ret (Sb.rest (Sb.put q6 _ _ _ _ _ _ _ _) rfl _ _ rfl rfl) rfl ⟨rfl, ?_⟩
  repeat (first | refine setC_fr ?_ _ _ _ (by omega) | with_reducible exact HS6.out)
theorem fire_any (m : Mv) (ow pw no : Int) (w : World) (ht : Tab w) : Calls Tryd.prog 13 #[mv m, .int .i64 ow, .int .i64 pw, .int .i64 no] w fun e w' => e = .returned (.tuple #[sv (firS m ow pw no), .int .i64 (errF m ow pw no)]) ∧ Still w w' := by
  cases hm : mayB m with
  | false =>
    have e : errF m ow pw no = 80 := by unfold errF; rw [hm]; rfl
    have e2 : firS m ow pw no = zS := by unfold firS; rw [e]; rfl
    rw [e, e2]
    exact fire_may m ow pw no hm w
  | true =>
    cases ha : argB ow pw no with
    | false =>
      have e : errF m ow pw no = 1 := by unfold errF; rw [hm, ha]; rfl
      have e2 : firS m ow pw no = zS := by unfold firS; rw [e]; rfl
      rw [e, e2]
      exact fire_arg m ow pw no hm ha w
    | true =>
      have e : errF m ow pw no = 0 := by unfold errF; rw [hm, ha]; rfl
      have e2 : firS m ow pw no = fired m ow pw no := by unfold firS; rw [e]; rfl
      rw [e, e2]
      exact fire_ok m ow pw no hm ha _ _ rfl rfl w ht
end Go.Proofs.YtmbllkkoanjghaaDoor
