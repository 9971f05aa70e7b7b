/- Parts of the proof, laid end to end. -/
import Derived.Test.YthcjckgmdokmdaaGreatDoorXS06
import Derived.Test.YthcjckgmdokmdaaGreatDoorXS01
import Derived.Deep.RegionHeld3
import Derived.Deep.DeepCutAuto
namespace Go.Proofs.YthcjckgmdokmdaaGreatDoor
open Go.RowKit
open Pu Gp Ap Vp Np Za
set_option maxRecDepth 100000
theorem swithin_any (n l h : Int) (w : World) : Calls Tryz.prog 199 #[.int .i64 n, .int .i64 l, .int .i64 h] w fun e w' => e = .returned (.bool (amg n l h)) /\ w' = w := by
 unfold amg
 by_cases h1 : l <= n
 ·go_enter Tryz.func199, Tryz.ntmps199
  go_wp2_with fail
  go_ret
  exact ⟨by simp [h1], rfl⟩
 ·have e : decide (l <= n) = false := by simpa using h1
  rw [e]
  go_enter Tryz.func199, Tryz.ntmps199
  go_wp2_with fail
  go_ret
  exact ⟨rfl, rfl⟩
theorem ispow_any (n : Int) (w : World) : Calls Tryz.prog 198 #[.int .i64 n] w fun e w' => e = .returned (.bool (amg n 1 3)) /\ w' = w := by
 have H := hid (fun w => swithin_any n 1 3 w)
 obtain ⟨b, eb⟩ : ∃ b, amg n 1 3 = b := ⟨_, rfl⟩
 rw [eb] at H ⊢
 clear eb
 go_enter Tryz.func198, Tryz.ntmps198
 go_wp2_with fail
 refine (H.out _).mono ?_
 rintro e w2 ⟨he, hw⟩
 rw [he, hw]
 clear he hw w2
 go_wp2_with fail
 go_ret
 exact ⟨rfl, rfl⟩
theorem isown_any (n : Int) (w : World) : Calls Tryz.prog 197 #[.int .i64 n] w fun e w' => e = .returned (.bool (amg n 0 5)) /\ w' = w := by
 have H := hid (fun w => swithin_any n 0 5 w)
 obtain ⟨b, eb⟩ : ∃ b, amg n 0 5 = b := ⟨_, rfl⟩
 rw [eb] at H ⊢
 clear eb
 go_enter Tryz.func197, Tryz.ntmps197
 go_wp2_with fail
 refine (H.out _).mono ?_
 rintro e w2 ⟨he, hw⟩
 rw [he, hw]
 clear he hw w2
 go_wp2_with fail
 go_ret
 exact ⟨rfl, rfl⟩
theorem isno9_any (n : Int) (w : World) : Calls Tryz.prog 196 #[.int .i64 n] w fun e w' => e = .returned (.bool (amg n 1 1099511627776)) /\ w' = w := by
 have H := hid (fun w => swithin_any n 1 1099511627776 w)
 obtain ⟨b, eb⟩ : ∃ b, amg n 1 1099511627776 = b := ⟨_, rfl⟩
 rw [eb] at H ⊢
 clear eb
 go_enter Tryz.func196, Tryz.ntmps196
 go_wp2_with fail
 refine (H.out _).mono ?_
 rintro e w2 ⟨he, hw⟩
 rw [he, hw]
 clear he hw w2
 go_wp2_with fail
 go_ret
 exact ⟨rfl, rfl⟩
def Pl (w : World) (g : Nat) (m : Sh) : Prop := w.heap[g]? = some (.cells (scs m) 240 (0, 0))
theorem Pl.cells {w : World} {g : Nat} {m : Sh} (h : Pl w g m) : w.cell? ⟨g, 0, none⟩ = some (.int .i64 m.no) /\ w.cell? ⟨g, 1, none⟩ = some (.int .i64 m.ow) /\ w.cell? ⟨g, 2, none⟩ = some (.int .i64 m.pw) /\ w.cell? ⟨g, 3, none⟩ = some (.int .i64 m.ax) /\ w.cell? ⟨g, 4, none⟩ = some (.int .i64 m.ay) /\ w.cell? ⟨g, 5, none⟩ = some (.int .i64 m.sx) /\ w.cell? ⟨g, 6, none⟩ = some (.int .i64 m.sy) /\ w.cell? ⟨g, 7, none⟩ = some (.int .i64 m.lf) /\ ∀ o, w.frozen? ⟨g, o, none⟩ = false := by
 refine ⟨?_, ?_, ?_, ?_, ?_, ?_, ?_, ?_, fun o => frozen_of_row w g o _ _ h⟩ <;> (rw [cell_of_row _ _ _ _ _ _ h]; rfl)
abbrev newL (w : World) (m : Sh) : World := w.alloc (.cells (scs m) 240)
theorem newL_pl (w : World) (m : Sh) : Pl (newL w m) w.heap.size m := heap_alloc_new w _
theorem mayS_amg (s : Sh) : maySB s = (amg s.no 1 1099511627776 && amg s.ow 0 5 && amg s.pw 1 3 && (bnd s.ax == s.ax && bnd s.ay == s.ay) && amg s.sx (-1536) 1536 && amg s.sy (-1536) 1536 && amg s.lf 1 40) := by
 rw [Bool.eq_iff_iff, maySB_iff]
 unfold amg MayS
 simp only [Bool.and_eq_true, beq_iff_eq, bnd_is, decide_eq_true_eq]
 omega
set_option maxHeartbeats 4000000 in
theorem mayBe_at (s : Sh) (b0 b1 b2 b3 b4 b5 b6 r : Bool) (HE : ∀ w, (binOp .eql 54 (pt (bnd s.ax) (bnd s.ay)) (pt s.ax s.ay)).run Tryz.prog w = .ok (.bool b3) w)
  (H0 : Hid (∀ w, Calls Tryz.prog 196 #[.int .i64 s.no] w fun e w' => e = .returned (.bool b0) /\ w' = w))
  (H1 : Hid (∀ w, Calls Tryz.prog 197 #[.int .i64 s.ow] w fun e w' => e = .returned (.bool b1) /\ w' = w))
  (H2 : Hid (∀ w, Calls Tryz.prog 198 #[.int .i64 s.pw] w fun e w' => e = .returned (.bool b2) /\ w' = w))
  (H4 : Hid (∀ w, Calls Tryz.prog 199 #[.int .i64 s.sx, .int .i64 (-1536), .int .i64 1536] w fun e w' => e = .returned (.bool b4) /\ w' = w))
  (H5 : Hid (∀ w, Calls Tryz.prog 199 #[.int .i64 s.sy, .int .i64 (-1536), .int .i64 1536] w fun e w' => e = .returned (.bool b5) /\ w' = w))
  (H6 : Hid (∀ w, Calls Tryz.prog 199 #[.int .i64 s.lf, .int .i64 1, .int .i64 40] w fun e w' => e = .returned (.bool b6) /\ w' = w))
  (h : (b0 = false /\ r = false) \/ (b0 = true /\ b1 = false /\ r = false) \/ (b0 = true /\ b1 = true /\ b2 = false /\ r = false) \/ (b0 = true /\ b1 = true /\ b2 = true /\ b3 = false /\ r = false) \/ (b0 = true /\ b1 = true /\ b2 = true /\ b3 = true /\ b4 = false /\ r = false) \/ (b0 = true /\ b1 = true /\ b2 = true /\ b3 = true /\ b4 = true /\ b5 = false /\ r = false) \/ (b0 = true /\ b1 = true /\ b2 = true /\ b3 = true /\ b4 = true /\ b5 = true /\ r = b6)) (w : World) :
  Calls Tryz.prog 173 #[sv s] w fun e w' => e = .returned (.bool r) /\ Still w w' := by
 obtain ⟨W, eW⟩ : ∃ W, W = newL w s := ⟨_, rfl⟩
 have p : Pl W w.heap.size s := by rw [eW]; exact newL_pl w s
 have HS0 := hid (show Still w W by rw [eW]; exact Still.alloc w _)
 have HW := hid eW
 clear eW
 have G1 := guard_pt
 have HG := hid (fun w => gbound_any s.ax s.ay w)
 obtain ⟨c0, c1, c2, c3, c4, c5, c6, c7, cf⟩ := p.cells
 have k0 := Cl.cell c0
 have k1 := Cl.cell c1
 have k2 := Cl.cell c2
 have k3 := Cl.cell c3
 have k4 := Cl.cell c4
 have k5 := Cl.cell c5
 have k6 := Cl.cell c6
 have k7 := Cl.cell c7
 have hne := Aft.here W
 clear c0 c1 c2 c3 c4 c5 c6 c7 cf p
 rcases h with ⟨rfl, rfl⟩ | ⟨rfl, rfl, rfl⟩ | ⟨rfl, rfl, rfl, rfl⟩ | ⟨rfl, rfl, rfl, rfl, rfl⟩ | ⟨rfl, rfl, rfl, rfl, rfl, rfl⟩ | ⟨rfl, rfl, rfl, rfl, rfl, rfl, rfl⟩ | ⟨rfl, rfl, rfl, rfl, rfl, rfl, rfl⟩
 all_goals
  go_enter Tryz.func173, Tryz.ntmps173
  go_wp2_with fail
  have e := HW.out
  simp only [newL] at e
  rw [<- e]
  clear e HW
  refine region_all (by kernel_rfl) (by kernel_rfl) ?_
  repeat (go_big_quiet_step ((first | (go_at_call 189; exact Calls.cl (HG.out _)) | (go_at_call 196; with_reducible exact Calls.cl_same (H0.out _)) | (go_at_call 197; with_reducible exact Calls.cl_same (H1.out _)) | (go_at_call 198; with_reducible exact Calls.cl_same (H2.out _)) | (go_at_call 199; with_reducible exact Calls.cl_same (H4.out _)) | (go_at_call 199; with_reducible exact Calls.cl_same (H5.out _)) | (go_at_call 199; with_reducible exact Calls.cl_same (H6.out _)))))
  refine wpQuiet_nil ?_
  intro w1 hs
  go_wp2_with fail
  go_ret
  exact ⟨rfl, HS0.out.trans hs⟩
theorem mayBe_any (s : Sh) (w : World) : Calls Tryz.prog 173 #[sv s] w fun e w' => e = .returned (.bool (maySB s)) /\ Still w w' := by
 refine mayBe_at s (amg s.no 1 1099511627776) (amg s.ow 0 5) (amg s.pw 1 3) ((bnd s.ax == s.ax && bnd s.ay == s.ay)) (amg s.sx (-1536) 1536) (amg s.sy (-1536) 1536) (amg s.lf 1 40) (maySB s) (eql_pt (bnd s.ax) (bnd s.ay) s.ax s.ay) (hid (isno9_any _)) (hid (isown_any _)) (hid (ispow_any _)) (hid (swithin_any _ _ _)) (hid (swithin_any _ _ _)) (hid (swithin_any _ _ _)) ?_ w
 rw [mayS_amg]
 generalize amg s.no 1 1099511627776 = b0
 generalize amg s.ow 0 5 = b1
 generalize amg s.pw 1 3 = b2
 generalize (bnd s.ax == s.ax && bnd s.ay == s.ay) = b3
 generalize amg s.sx (-1536) 1536 = b4
 generalize amg s.sy (-1536) 1536 = b5
 generalize amg s.lf 1 40 = b6
 revert b0 b1 b2 b3 b4 b5 b6
 decide
theorem chks_any (s : Sh) (w : World) : Calls Tryz.prog 138 #[sv s] w fun e w' => e = .returned (.int .i64 (chkS s)) /\ Still w w' := by
 have p0 := newS_sb w s
 have HS0 := hid (Still.alloc w (.cells (scs s) 122))
 have H1 := hid (fun w => mayBe_any s w)
 have HC : Hid (chkS s = if maySB s then 0 else 90) := hid rfl
 obtain ⟨a, ea⟩ : ∃ b, maySB s = b := ⟨_, rfl⟩
 rw [ea] at H1 HC
 clear ea
 obtain ⟨c0, c1, c2, c3, c4, c5, c6, c7, cf⟩ := p0.cells
 go_enter Tryz.func138, Tryz.ntmps138
 go_wp2_with fail
 refine (H1.out _).mono ?_
 rintro e w1 ⟨rfl, h1⟩
 have HS1 := hid (HS0.out.trans h1)
 clear h1 HS0 p0 c0 c1 c2 c3 c4 c5 c6 c7 cf
 cases a with
 | false =>
  go_wp2_with fail
  go_ret
  exact ⟨by rw [HC.out]; rfl, HS1.out⟩
 | true =>
  go_wp2_with fail
  go_ret
  exact ⟨by rw [HC.out]; rfl, HS1.out⟩
end Go.Proofs.YthcjckgmdokmdaaGreatDoor
namespace Go.Proofs.YthcjckgmdokmdaaGreatDoor
open Go.RowKit
open Pu Gp Ap Vp Np Za
set_option maxRecDepth 100000
end Go.Proofs.YthcjckgmdokmdaaGreatDoor
namespace Go.Proofs.YthcjckgmdokmdaaGreatDoor
open Go.RowKit
open Pu Gp Ap Vp Np Za
set_option maxRecDepth 100000
end Go.Proofs.YthcjckgmdokmdaaGreatDoor
