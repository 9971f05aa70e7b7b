/- The law on bodies. -/
import Derived.Test.YtpohikhiekmfgaaJi
import Derived.Deep.RegionHeld3
import Derived.Deep.DeepCutAuto
namespace Go.Proofs.Ytpohikhiekmfgaa
open Go.RowKit
open Pu Gp Ap Vp Np Za Ka Ja
set_option maxRecDepth 100000

theorem new2 (w : World) : Mb (newM (newM w zM) zM) (w.heap.size + 1) zM := by
  have h := newM_mb (newM w zM) zM
  rw [size_alloc] at h
  exact h
theorem pair_close {wr b : World} {g1 g2 : Nat} (X Y : Mv) (h1 : Mb b g1 zM) (h2 : Mb b g2 zM) (hne : g1 ≠ g2) (hs : Still wr b) (l1 : wr.heap.size ≤ g1) (l2 : wr.heap.size ≤ g2) : Mb ((((((((((((((((((((((((((b.setCell ⟨g1, 0, none⟩ (.int .i64 X.ax)).setCell ⟨g1, 1, none⟩ (.int .i64 X.ay)).setCell ⟨g1, 2, none⟩ (.int .i64 X.sx)).setCell ⟨g1, 3, none⟩ (.int .i64 X.sy)).setCell ⟨g1, 4, none⟩ (.int .i64 X.px)).setCell ⟨g1, 5, none⟩ (.int .i64 X.py)).setCell ⟨g1, 6, none⟩ (.int .i64 X.fc)).setCell ⟨g1, 7, none⟩ (.int .i64 X.hl)).setCell ⟨g1, 8, none⟩ (.int .i64 X.en)).setCell ⟨g1, 9, none⟩ (.bool X.sh)).setCell ⟨g1, 10, none⟩ (.int .i64 X.co)).setCell ⟨g1, 11, none⟩ (.int .i64 X.ou)).setCell ⟨g1, 12, none⟩ (.int .i64 X.sd)).setCell ⟨g2, 0, none⟩ (.int .i64 Y.ax)).setCell ⟨g2, 1, none⟩ (.int .i64 Y.ay)).setCell ⟨g2, 2, none⟩ (.int .i64 Y.sx)).setCell ⟨g2, 3, none⟩ (.int .i64 Y.sy)).setCell ⟨g2, 4, none⟩ (.int .i64 Y.px)).setCell ⟨g2, 5, none⟩ (.int .i64 Y.py)).setCell ⟨g2, 6, none⟩ (.int .i64 Y.fc)).setCell ⟨g2, 7, none⟩ (.int .i64 Y.hl)).setCell ⟨g2, 8, none⟩ (.int .i64 Y.en)).setCell ⟨g2, 9, none⟩ (.bool Y.sh)).setCell ⟨g2, 10, none⟩ (.int .i64 Y.co)).setCell ⟨g2, 11, none⟩ (.int .i64 Y.ou)).setCell ⟨g2, 12, none⟩ (.int .i64 Y.sd)) g1 X ∧ Mb ((((((((((((((((((((((((((b.setCell ⟨g1, 0, none⟩ (.int .i64 X.ax)).setCell ⟨g1, 1, none⟩ (.int .i64 X.ay)).setCell ⟨g1, 2, none⟩ (.int .i64 X.sx)).setCell ⟨g1, 3, none⟩ (.int .i64 X.sy)).setCell ⟨g1, 4, none⟩ (.int .i64 X.px)).setCell ⟨g1, 5, none⟩ (.int .i64 X.py)).setCell ⟨g1, 6, none⟩ (.int .i64 X.fc)).setCell ⟨g1, 7, none⟩ (.int .i64 X.hl)).setCell ⟨g1, 8, none⟩ (.int .i64 X.en)).setCell ⟨g1, 9, none⟩ (.bool X.sh)).setCell ⟨g1, 10, none⟩ (.int .i64 X.co)).setCell ⟨g1, 11, none⟩ (.int .i64 X.ou)).setCell ⟨g1, 12, none⟩ (.int .i64 X.sd)).setCell ⟨g2, 0, none⟩ (.int .i64 Y.ax)).setCell ⟨g2, 1, none⟩ (.int .i64 Y.ay)).setCell ⟨g2, 2, none⟩ (.int .i64 Y.sx)).setCell ⟨g2, 3, none⟩ (.int .i64 Y.sy)).setCell ⟨g2, 4, none⟩ (.int .i64 Y.px)).setCell ⟨g2, 5, none⟩ (.int .i64 Y.py)).setCell ⟨g2, 6, none⟩ (.int .i64 Y.fc)).setCell ⟨g2, 7, none⟩ (.int .i64 Y.hl)).setCell ⟨g2, 8, none⟩ (.int .i64 Y.en)).setCell ⟨g2, 9, none⟩ (.bool Y.sh)).setCell ⟨g2, 10, none⟩ (.int .i64 Y.co)).setCell ⟨g2, 11, none⟩ (.int .i64 Y.ou)).setCell ⟨g2, 12, none⟩ (.int .i64 Y.sd)) g2 Y ∧ Still wr ((((((((((((((((((((((((((b.setCell ⟨g1, 0, none⟩ (.int .i64 X.ax)).setCell ⟨g1, 1, none⟩ (.int .i64 X.ay)).setCell ⟨g1, 2, none⟩ (.int .i64 X.sx)).setCell ⟨g1, 3, none⟩ (.int .i64 X.sy)).setCell ⟨g1, 4, none⟩ (.int .i64 X.px)).setCell ⟨g1, 5, none⟩ (.int .i64 X.py)).setCell ⟨g1, 6, none⟩ (.int .i64 X.fc)).setCell ⟨g1, 7, none⟩ (.int .i64 X.hl)).setCell ⟨g1, 8, none⟩ (.int .i64 X.en)).setCell ⟨g1, 9, none⟩ (.bool X.sh)).setCell ⟨g1, 10, none⟩ (.int .i64 X.co)).setCell ⟨g1, 11, none⟩ (.int .i64 X.ou)).setCell ⟨g1, 12, none⟩ (.int .i64 X.sd)).setCell ⟨g2, 0, none⟩ (.int .i64 Y.ax)).setCell ⟨g2, 1, none⟩ (.int .i64 Y.ay)).setCell ⟨g2, 2, none⟩ (.int .i64 Y.sx)).setCell ⟨g2, 3, none⟩ (.int .i64 Y.sy)).setCell ⟨g2, 4, none⟩ (.int .i64 Y.px)).setCell ⟨g2, 5, none⟩ (.int .i64 Y.py)).setCell ⟨g2, 6, none⟩ (.int .i64 Y.fc)).setCell ⟨g2, 7, none⟩ (.int .i64 Y.hl)).setCell ⟨g2, 8, none⟩ (.int .i64 Y.en)).setCell ⟨g2, 9, none⟩ (.bool Y.sh)).setCell ⟨g2, 10, none⟩ (.int .i64 Y.co)).setCell ⟨g2, 11, none⟩ (.int .i64 Y.ou)).setCell ⟨g2, 12, none⟩ (.int .i64 Y.sd)) := by
  have r2 := h1.put (X.ax) (X.ay) (X.sx) (X.sy) (X.px) (X.py) (X.fc) (X.hl) (X.en) (X.sh) (X.co) (X.ou) (X.sd)
  have s2 := h2.others (k := g1) (fun e => hne e.symm) (X.ax) (X.ay) (X.sx) (X.sy) (X.px) (X.py) (X.fc) (X.hl) (X.en) (X.sh) (X.co) (X.ou) (X.sd)
  have k2 := setC_fr (setC_fr (setC_fr (setC_fr (setC_fr (setC_fr (setC_fr (setC_fr (setC_fr (setC_fr (setC_fr (setC_fr (setC_fr (hs) (g1) 0 (.int .i64 X.ax) (l1)) (g1) 1 (.int .i64 X.ay) (l1)) (g1) 2 (.int .i64 X.sx) (l1)) (g1) 3 (.int .i64 X.sy) (l1)) (g1) 4 (.int .i64 X.px) (l1)) (g1) 5 (.int .i64 X.py) (l1)) (g1) 6 (.int .i64 X.fc) (l1)) (g1) 7 (.int .i64 X.hl) (l1)) (g1) 8 (.int .i64 X.en) (l1)) (g1) 9 (.bool X.sh) (l1)) (g1) 10 (.int .i64 X.co) (l1)) (g1) 11 (.int .i64 X.ou) (l1)) (g1) 12 (.int .i64 X.sd) (l1)
  exact ⟨r2.others (k := g2) hne (Y.ax) (Y.ay) (Y.sx) (Y.sy) (Y.px) (Y.py) (Y.fc) (Y.hl) (Y.en) (Y.sh) (Y.co) (Y.ou) (Y.sd), s2.put (Y.ax) (Y.ay) (Y.sx) (Y.sy) (Y.px) (Y.py) (Y.fc) (Y.hl) (Y.en) (Y.sh) (Y.co) (Y.ou) (Y.sd), setC_fr (setC_fr (setC_fr (setC_fr (setC_fr (setC_fr (setC_fr (setC_fr (setC_fr (setC_fr (setC_fr (setC_fr (setC_fr (k2) (g2) 0 (.int .i64 Y.ax) (l2)) (g2) 1 (.int .i64 Y.ay) (l2)) (g2) 2 (.int .i64 Y.sx) (l2)) (g2) 3 (.int .i64 Y.sy) (l2)) (g2) 4 (.int .i64 Y.px) (l2)) (g2) 5 (.int .i64 Y.py) (l2)) (g2) 6 (.int .i64 Y.fc) (l2)) (g2) 7 (.int .i64 Y.hl) (l2)) (g2) 8 (.int .i64 Y.en) (l2)) (g2) 9 (.bool Y.sh) (l2)) (g2) 10 (.int .i64 Y.co) (l2)) (g2) 11 (.int .i64 Y.ou) (l2)) (g2) 12 (.int .i64 Y.sd) (l2)⟩
theorem pairA (w wr : World) (X Y : Mv) (h : Still wr w) : Mb ((w.alloc (.cells #[.int .i64 X.ax, .int .i64 X.ay, .int .i64 X.sx, .int .i64 X.sy, .int .i64 X.px, .int .i64 X.py, .int .i64 X.fc, .int .i64 X.hl, .int .i64 X.en, .bool X.sh, .int .i64 X.co, .int .i64 X.ou, .int .i64 X.sd] 35)).alloc (.cells #[.int .i64 Y.ax, .int .i64 Y.ay, .int .i64 Y.sx, .int .i64 Y.sy, .int .i64 Y.px, .int .i64 Y.py, .int .i64 Y.fc, .int .i64 Y.hl, .int .i64 Y.en, .bool Y.sh, .int .i64 Y.co, .int .i64 Y.ou, .int .i64 Y.sd] 35)) w.heap.size X ∧ Mb ((w.alloc (.cells #[.int .i64 X.ax, .int .i64 X.ay, .int .i64 X.sx, .int .i64 X.sy, .int .i64 X.px, .int .i64 X.py, .int .i64 X.fc, .int .i64 X.hl, .int .i64 X.en, .bool X.sh, .int .i64 X.co, .int .i64 X.ou, .int .i64 X.sd] 35)).alloc (.cells #[.int .i64 Y.ax, .int .i64 Y.ay, .int .i64 Y.sx, .int .i64 Y.sy, .int .i64 Y.px, .int .i64 Y.py, .int .i64 Y.fc, .int .i64 Y.hl, .int .i64 Y.en, .bool Y.sh, .int .i64 Y.co, .int .i64 Y.ou, .int .i64 Y.sd] 35)) (w.heap.size + 1) Y ∧ Still wr ((w.alloc (.cells #[.int .i64 X.ax, .int .i64 X.ay, .int .i64 X.sx, .int .i64 X.sy, .int .i64 X.px, .int .i64 X.py, .int .i64 X.fc, .int .i64 X.hl, .int .i64 X.en, .bool X.sh, .int .i64 X.co, .int .i64 X.ou, .int .i64 X.sd] 35)).alloc (.cells #[.int .i64 Y.ax, .int .i64 Y.ay, .int .i64 Y.sx, .int .i64 Y.sy, .int .i64 Y.px, .int .i64 Y.py, .int .i64 Y.fc, .int .i64 Y.hl, .int .i64 Y.en, .bool Y.sh, .int .i64 Y.co, .int .i64 Y.ou, .int .i64 Y.sd] 35)) := by
  refine ⟨(newM_mb w X).still (Still.alloc _ _), ?_, (h.trans (Still.alloc _ _)).trans (Still.alloc _ _)⟩
  have h2 := newM_mb (newM w X) Y
  rw [size_alloc] at h2
  exact h2
theorem pairC (w wr : World) (g : Nat) (X Y : Mv) (r : Mb w g zM) (h : Still wr w) (l : wr.heap.size ≤ g) : Mb ((((((((((((((w.setCell ⟨g, 0, none⟩ (.int .i64 X.ax)).setCell ⟨g, 1, none⟩ (.int .i64 X.ay)).setCell ⟨g, 2, none⟩ (.int .i64 X.sx)).setCell ⟨g, 3, none⟩ (.int .i64 X.sy)).setCell ⟨g, 4, none⟩ (.int .i64 X.px)).setCell ⟨g, 5, none⟩ (.int .i64 X.py)).setCell ⟨g, 6, none⟩ (.int .i64 X.fc)).setCell ⟨g, 7, none⟩ (.int .i64 X.hl)).setCell ⟨g, 8, none⟩ (.int .i64 X.en)).setCell ⟨g, 9, none⟩ (.bool X.sh)).setCell ⟨g, 10, none⟩ (.int .i64 X.co)).setCell ⟨g, 11, none⟩ (.int .i64 X.ou)).setCell ⟨g, 12, none⟩ (.int .i64 X.sd)).alloc (.cells #[.int .i64 Y.ax, .int .i64 Y.ay, .int .i64 Y.sx, .int .i64 Y.sy, .int .i64 Y.px, .int .i64 Y.py, .int .i64 Y.fc, .int .i64 Y.hl, .int .i64 Y.en, .bool Y.sh, .int .i64 Y.co, .int .i64 Y.ou, .int .i64 Y.sd] 35)) g X ∧ Mb ((((((((((((((w.setCell ⟨g, 0, none⟩ (.int .i64 X.ax)).setCell ⟨g, 1, none⟩ (.int .i64 X.ay)).setCell ⟨g, 2, none⟩ (.int .i64 X.sx)).setCell ⟨g, 3, none⟩ (.int .i64 X.sy)).setCell ⟨g, 4, none⟩ (.int .i64 X.px)).setCell ⟨g, 5, none⟩ (.int .i64 X.py)).setCell ⟨g, 6, none⟩ (.int .i64 X.fc)).setCell ⟨g, 7, none⟩ (.int .i64 X.hl)).setCell ⟨g, 8, none⟩ (.int .i64 X.en)).setCell ⟨g, 9, none⟩ (.bool X.sh)).setCell ⟨g, 10, none⟩ (.int .i64 X.co)).setCell ⟨g, 11, none⟩ (.int .i64 X.ou)).setCell ⟨g, 12, none⟩ (.int .i64 X.sd)).alloc (.cells #[.int .i64 Y.ax, .int .i64 Y.ay, .int .i64 Y.sx, .int .i64 Y.sy, .int .i64 Y.px, .int .i64 Y.py, .int .i64 Y.fc, .int .i64 Y.hl, .int .i64 Y.en, .bool Y.sh, .int .i64 Y.co, .int .i64 Y.ou, .int .i64 Y.sd] 35)) w.heap.size Y ∧ Still wr ((((((((((((((w.setCell ⟨g, 0, none⟩ (.int .i64 X.ax)).setCell ⟨g, 1, none⟩ (.int .i64 X.ay)).setCell ⟨g, 2, none⟩ (.int .i64 X.sx)).setCell ⟨g, 3, none⟩ (.int .i64 X.sy)).setCell ⟨g, 4, none⟩ (.int .i64 X.px)).setCell ⟨g, 5, none⟩ (.int .i64 X.py)).setCell ⟨g, 6, none⟩ (.int .i64 X.fc)).setCell ⟨g, 7, none⟩ (.int .i64 X.hl)).setCell ⟨g, 8, none⟩ (.int .i64 X.en)).setCell ⟨g, 9, none⟩ (.bool X.sh)).setCell ⟨g, 10, none⟩ (.int .i64 X.co)).setCell ⟨g, 11, none⟩ (.int .i64 X.ou)).setCell ⟨g, 12, none⟩ (.int .i64 X.sd)).alloc (.cells #[.int .i64 Y.ax, .int .i64 Y.ay, .int .i64 Y.sx, .int .i64 Y.sy, .int .i64 Y.px, .int .i64 Y.py, .int .i64 Y.fc, .int .i64 Y.hl, .int .i64 Y.en, .bool Y.sh, .int .i64 Y.co, .int .i64 Y.ou, .int .i64 Y.sd] 35)) := by
  have r2 := r.put (X.ax) (X.ay) (X.sx) (X.sy) (X.px) (X.py) (X.fc) (X.hl) (X.en) (X.sh) (X.co) (X.ou) (X.sd)
  have k2 := setC_fr (setC_fr (setC_fr (setC_fr (setC_fr (setC_fr (setC_fr (setC_fr (setC_fr (setC_fr (setC_fr (setC_fr (setC_fr (h) (g) 0 (.int .i64 X.ax) (l)) (g) 1 (.int .i64 X.ay) (l)) (g) 2 (.int .i64 X.sx) (l)) (g) 3 (.int .i64 X.sy) (l)) (g) 4 (.int .i64 X.px) (l)) (g) 5 (.int .i64 X.py) (l)) (g) 6 (.int .i64 X.fc) (l)) (g) 7 (.int .i64 X.hl) (l)) (g) 8 (.int .i64 X.en) (l)) (g) 9 (.bool X.sh) (l)) (g) 10 (.int .i64 X.co) (l)) (g) 11 (.int .i64 X.ou) (l)) (g) 12 (.int .i64 X.sd) (l)
  have e : (((((((((((((w.setCell ⟨g, 0, none⟩ (.int .i64 X.ax)).setCell ⟨g, 1, none⟩ (.int .i64 X.ay)).setCell ⟨g, 2, none⟩ (.int .i64 X.sx)).setCell ⟨g, 3, none⟩ (.int .i64 X.sy)).setCell ⟨g, 4, none⟩ (.int .i64 X.px)).setCell ⟨g, 5, none⟩ (.int .i64 X.py)).setCell ⟨g, 6, none⟩ (.int .i64 X.fc)).setCell ⟨g, 7, none⟩ (.int .i64 X.hl)).setCell ⟨g, 8, none⟩ (.int .i64 X.en)).setCell ⟨g, 9, none⟩ (.bool X.sh)).setCell ⟨g, 10, none⟩ (.int .i64 X.co)).setCell ⟨g, 11, none⟩ (.int .i64 X.ou)).setCell ⟨g, 12, none⟩ (.int .i64 X.sd)).heap.size = w.heap.size := by simp
  refine ⟨r2.still (Still.alloc _ _), ?_, k2.trans (Still.alloc _ _)⟩
  have h2 := newM_mb (((((((((((((w.setCell ⟨g, 0, none⟩ (.int .i64 X.ax)).setCell ⟨g, 1, none⟩ (.int .i64 X.ay)).setCell ⟨g, 2, none⟩ (.int .i64 X.sx)).setCell ⟨g, 3, none⟩ (.int .i64 X.sy)).setCell ⟨g, 4, none⟩ (.int .i64 X.px)).setCell ⟨g, 5, none⟩ (.int .i64 X.py)).setCell ⟨g, 6, none⟩ (.int .i64 X.fc)).setCell ⟨g, 7, none⟩ (.int .i64 X.hl)).setCell ⟨g, 8, none⟩ (.int .i64 X.en)).setCell ⟨g, 9, none⟩ (.bool X.sh)).setCell ⟨g, 10, none⟩ (.int .i64 X.co)).setCell ⟨g, 11, none⟩ (.int .i64 X.ou)).setCell ⟨g, 12, none⟩ (.int .i64 X.sd)) Y
  rw [e] at h2
  exact h2
set_option maxHeartbeats 16000000 in
theorem bodies_law (so : Option Addr) (n c : Nat) (L : List Mv) (hc : so = none → c = 0) (h47 : 104 * (n + 1) ≤ 281474976710656) (w : World) (hr : RdG KM w so n L) (C : Cts11 w) (U : Awake w) : Calls Try.prog 3 #[.slice so n c] w fun e w' => e = .returned (.bool true) ∧ Still w w' := by
  have HH := hid (And.intro hc h47)
  have HR := hid hr
  have HVl := hid (show (bod L).length ≤ 1000 by have := bod_len (L := L); omega)
  clear hc h47 hr
  obtain ⟨V, eV⟩ : ∃ V, bod L = V := ⟨_, rfl⟩
  obtain ⟨E, eE⟩ : ∃ E, err11 (togB L) = E := ⟨_, rfl⟩
  have HC := hid (fun ao cap u hu hcp hs => C.bod L ao n cap u hu hcp hs)
  have HF := hid (fun u hu => rbodies_any L so n c u hu)
  rw [eV] at HC HF HVl
  rw [eE] at HC HF
  clear eV eE
  obtain ⟨m, em⟩ : ∃ m, V.length = m := ⟨_, rfl⟩
  rw [em] at HVl
  have HEm := hid em
  have hm1 : m ≤ 1000 := HVl.out
  clear em
  go_enter Try.func3, Try.ntmps3
  go_wp2_with fail
  refine (U _ (Fr.refl _ _)).mono ?_
  rintro e w1 ⟨rfl, h1⟩
  have HS1 := hid h1
  clear h1
  go_wp2_with fail
  refine (lentM_any so n c L _ (HR.out.still HS1.out) HH.out.1 HH.out.2).mono ?_
  rintro e w2 ⟨g, rfl, ho, h2⟩
  have HS2 := hid (HS1.out.trans h2)
  have HO2 := hid ho
  have HG := hid (show g < w2.heap.size from (ho.block (k := g) rfl).2)
  clear h2 ho HS1
  go_wp2_with fail
  have HRo : Hid (∀ u, Still w2 u → RdG KM u (some ⟨g, 0, none⟩) n L) := hid (fun u hu => by
    have h := OwG.rd (HO2.out.still hu) (by rw [HR.out.1]; exact HR.out.2.1)
    rw [HR.out.1] at h
    exact h)
  refine (HC.out (some ⟨g, 0, none⟩) (n + 1) _ (HRo.out _ (Fr.refl _ _)) (Nat.le_succ n) HS2.out).mono ?_
  rintro e w3 ⟨v1, rfl, oa, h3⟩
  obtain ⟨ao1, cap1, rfl, _⟩ := oa.slice
  rw [HEm.out] at oa ⊢
  have HOA3 := hid oa
  have HS3 := hid (HS2.out.trans h3)
  have HT3 := hid h3
  clear oa h3
  go_wp2_with fail
  refine (HF.out _ (HR.out.still HS3.out)).mono ?_
  rintro e w4 ⟨v2, rfl, ob, h4⟩
  obtain ⟨ao2, cap2, rfl, _⟩ := ob.slice
  rw [HEm.out] at ob ⊢
  have HOB4 := hid ob
  have HS4 := hid (HS3.out.trans h4)
  have HT4 := hid (HT3.out.trans h4)
  have HOA4 := hid (HOA3.out.still h4)
  have HA3 := hid (fun k (hk : (Value.slice ao1 m cap1).ownBlock = some k) => HOA3.out.block hk)
  clear ob h4 HF HS3 HT3 HOA3
  go_wp2_with fail
  refine (same_any ao1 ao2 m cap1 cap2 V _ (HOA4.out.rd0 HEm.out (by omega)) (HOB4.out.rd0 HEm.out (by omega))).mono ?_
  rintro e w5 ⟨rfl, h5⟩
  have HS5 := hid (HS4.out.trans h5)
  have HT5 := hid (HT4.out.trans h5)
  have HOA5 := hid (HOA4.out.still h5)
  have HOB5 := hid (HOB4.out.still h5)
  clear h5 HS4 HT4 HOA4 HOB4
  go_wp2_with fail
  refine (full_any _ _ V _ HOA5.out HT5.out.size (by rw [HEm.out]; exact HVl.out)).mono ?_
  rintro e w6 ⟨he, h6⟩
  rw [HEm.out] at he
  rw [he]
  have HS6 : Hid (Still w w6) := hid (Fr.trans HS5.out h6 (fun k hk e => by have := (HA3.out k e).1; have := HS2.out.size; omega))
  have HO6 := hid ((HO2.out.still HT5.out).keep h6 (fun k hk e => by
    have h1 := (HA3.out k hk).1
    have h2 := HG.out
    have h3 : g = k := Option.some.inj e
    omega))
  have HOB6 := hid (HOB5.out.keep h6 (fun k hk e => by
    have h1 := (HA3.out k hk).2
    have h2 := (HOB5.out.block e).1
    omega))
  clear h6 he HS5 HT5 HOA5 HOB5 HA3 HO2 HRo
  go_wp2_with fail
  have HR7 : Hid (RdG KM w6 (some ⟨g, 0, none⟩) n L) := hid (by
    have h := OwG.rd HO6.out (by rw [HR.out.1]; exact HR.out.2.1)
    rw [HR.out.1] at h
    exact h)
  refine (HC.out (some ⟨g, 0, none⟩) (n + 1) _ HR7.out (Nat.le_succ n) HS6.out).mono ?_
  rintro e w8 ⟨v3, rfl, oc, h8⟩
  obtain ⟨ao3, cap3, rfl, _⟩ := oc.slice
  rw [HEm.out] at oc ⊢
  have HOC8 := hid oc
  have HOB8 := hid (HOB6.out.still h8)
  have HS8 := hid (HS6.out.trans h8)
  have HO8 := hid (HO6.out.still h8)
  clear oc h8 HC HS6 HO6 HOB6 HR7
  go_wp2_with fail
  refine (same_any ao3 ao2 m cap3 cap2 V _ (HOC8.out.rd0 HEm.out (by omega)) (HOB8.out.rd0 HEm.out (by omega))).mono ?_
  rintro e w9 ⟨rfl, h9⟩
  have HS9 := hid (HS8.out.trans h9)
  have HO9 := hid (HO8.out.still h9)
  clear h9 HS8 HOC8 HOB8 HO8
  go_wp2_with fail
  refine (stillM_any g so n c L _ _ (HR.out.still HS9.out) HO9.out HH.out.2).mono ?_
  rintro e w10 ⟨rfl, h10⟩
  have HS10 := hid (HS9.out.trans h10)
  clear h10 HS9 HO9
  have hn48 : n ≤ 281474976710656 := HR.out.2.1
  go_wp2_with fail
  go_loopw [15] (fun u wr => ∃ i : Nat, i ≤ n ∧ u = .int .i64 (i : Int) ∧ Still w10 wr) (fun u _ => n - (intOf u).toNat)
  case atStart => exact ⟨0, by omega, rfl, Fr.refl _ _⟩
  case round =>
    obtain ⟨i, hi, rfl, hs⟩ := hrel
    have HSr := hid hs
    clear hs
    obtain ⟨i1, hi1⟩ : ∃ i1, i1 = i + 1 := ⟨_, rfl⟩
    have he1 : (i : Int) + 1 = (i1 : Int) := by omega
    have HI1 := hid hi1
    have hi48 : i ≤ 281474976710656 := by omega
    clear hi1
    by_cases hin : i1 < n
    · have hlt : (i1 : Int) < (n : Int) := by omega
      have HRr := hid ((HR.out.still HS10.out).still HSr.out)
      obtain ⟨B, o, rfl⟩ := HRr.out.at (by omega)
      have HRc := hid (fun u (hu : Still wr u) => And.intro (rdM (HRr.out.still hu) (i := i) (by have := HI1.out; omega)) (rdM (HRr.out.still hu) (i := i1) hin))
      obtain ⟨x, ex⟩ : ∃ x, mm L i = x := ⟨_, rfl⟩
      obtain ⟨y, ey⟩ : ∃ x, mm L i1 = x := ⟨_, rfl⟩
      rw [ex, ey] at HRc
      clear ex ey
      obtain ⟨⟨c0, c1, c2, c3, c4, c5, c6, c7, c8, c9, c10, c11, c12⟩, d0, d1, d2, d3, d4, d5, d6, d7, d8, d9, d10, d11, d12⟩ := HRc.out wr (Fr.refl _ _)
      have HSw := hid (HS10.out.trans HSr.out)
      have HA := hid (fun u (hu : Still w u) => C.apt x y u hu)
      have HB := hid (fun u => rapart_any x y u)
      obtain ⟨X, eX⟩ : ∃ X, aptA x y = X := ⟨_, rfl⟩
      obtain ⟨Y, eY⟩ : ∃ X, aptA y x = X := ⟨_, rfl⟩
      obtain ⟨E2, eE2⟩ : ∃ X, err11 (aptE x y) = X := ⟨_, rfl⟩
      rw [eX, eY, eE2] at HA HB
      clear eX eY eE2
      have hBl : B < wr.heap.size := World.block_lt_of_cell? wr _ c0
      have nB : wr.heap.size ≠ B := by omega
      have nB1 : wr.heap.size + 1 ≠ B := by omega
      have hin1 : (i : Int) < (n : Int) := by have := HI1.out; omega
      have hin2 : i < n := by omega
      have hw1 : wrap64 ((i : Int) + 1) = (i1 : Int) := by unfold wrap64; omega
      have hw2 : wrap64 (i1 : Int) = (i1 : Int) := by unfold wrap64; omega
      have hi0 : 0 ≤ (i1 : Int) := by omega
      have hw3 : IntKind.i64.wrap ((i : Int) + 1) = (i1 : Int) := by rw [IntKind.wrap_i64]; omega
      have hw4 : IntKind.i64.wrap (i1 : Int) = (i1 : Int) := by rw [IntKind.wrap_i64]; omega
      go_wp2_with fail
      go_cut [16, 17, 18] from 82 to 129 (fun v16 v17 v18 wx => ∃ g1 g2, v16 = .pointer (some ⟨g1, 0, none⟩) ∧ v17 = .pointer (some ⟨g2, 0, none⟩) ∧ v18 = .int .i64 E2 ∧ Mb wx g1 X ∧ Mb wx g2 Y ∧ Still wr wx)
      case first =>
        go_region_held3 (fun w' => w'.cell? ⟨B, o + i * 13, none⟩ = some (.int .i64 x.ax) ∧ w'.cell? ⟨B, o + i * 13 + 1, none⟩ = some (.int .i64 x.ay) ∧ w'.cell? ⟨B, o + i * 13 + 2, none⟩ = some (.int .i64 x.sx) ∧ w'.cell? ⟨B, o + i * 13 + 3, none⟩ = some (.int .i64 x.sy) ∧ w'.cell? ⟨B, o + i * 13 + 4, none⟩ = some (.int .i64 x.px) ∧ w'.cell? ⟨B, o + i * 13 + 5, none⟩ = some (.int .i64 x.py) ∧ w'.cell? ⟨B, o + i * 13 + 6, none⟩ = some (.int .i64 x.fc) ∧ w'.cell? ⟨B, o + i * 13 + 7, none⟩ = some (.int .i64 x.hl) ∧ w'.cell? ⟨B, o + i * 13 + 8, none⟩ = some (.int .i64 x.en) ∧ w'.cell? ⟨B, o + i * 13 + 9, none⟩ = some (.bool x.sh) ∧ w'.cell? ⟨B, o + i * 13 + 10, none⟩ = some (.int .i64 x.co) ∧ w'.cell? ⟨B, o + i * 13 + 11, none⟩ = some (.int .i64 x.ou) ∧ w'.cell? ⟨B, o + i * 13 + 12, none⟩ = some (.int .i64 x.sd) ∧ w'.cell? ⟨B, o + i1 * 13, none⟩ = some (.int .i64 y.ax) ∧ w'.cell? ⟨B, o + i1 * 13 + 1, none⟩ = some (.int .i64 y.ay) ∧ w'.cell? ⟨B, o + i1 * 13 + 2, none⟩ = some (.int .i64 y.sx) ∧ w'.cell? ⟨B, o + i1 * 13 + 3, none⟩ = some (.int .i64 y.sy) ∧ w'.cell? ⟨B, o + i1 * 13 + 4, none⟩ = some (.int .i64 y.px) ∧ w'.cell? ⟨B, o + i1 * 13 + 5, none⟩ = some (.int .i64 y.py) ∧ w'.cell? ⟨B, o + i1 * 13 + 6, none⟩ = some (.int .i64 y.fc) ∧ w'.cell? ⟨B, o + i1 * 13 + 7, none⟩ = some (.int .i64 y.hl) ∧ w'.cell? ⟨B, o + i1 * 13 + 8, none⟩ = some (.int .i64 y.en) ∧ w'.cell? ⟨B, o + i1 * 13 + 9, none⟩ = some (.bool y.sh) ∧ w'.cell? ⟨B, o + i1 * 13 + 10, none⟩ = some (.int .i64 y.co) ∧ w'.cell? ⟨B, o + i1 * 13 + 11, none⟩ = some (.int .i64 y.ou) ∧ w'.cell? ⟨B, o + i1 * 13 + 12, none⟩ = some (.int .i64 y.sd)) (go_keep)
          (first
            | (go_at_call 15
               refine (HA.out _ (by repeat (first | exact HSw.out | refine Fr.drew ?_ | refine Fr.alloc ?_ _))).mono ?_
               rintro e w5 ⟨rfl, h5⟩
               have hX : Still wr w5 := by
                 refine Still.trans ?_ h5
                 repeat (first | exact Fr.refl _ _ | refine Fr.drew ?_ | refine Fr.alloc ?_ _)
               obtain ⟨⟨y0, y1, y2, y3, y4, y5, y6, y7, y8, y9, y10, y11, y12⟩, z0, z1, z2, z3, z4, z5, z6, z7, z8, z9, z10, z11, z12⟩ := HRc.out w5 hX
               have HX := hid hX
               have n3 : w5.heap.size ≠ B := by have := hX.size; omega
               have n4 : w5.heap.size + 1 ≠ B := by have := hX.size; omega
               (try have r5 : Mb w5 wr.heap.size zM := by first | exact (newM_mb wr zM).still (Still.undrew h5) | exact ((newM_mb wr zM).still (Still.alloc _ _)).still (Still.undrew h5))
               (try have s5 : Mb w5 (wr.heap.size + 1) zM := (new2 wr).still (Still.undrew h5))
               (try have n5 : w5.heap.size ≠ wr.heap.size := by have := r5.lt; omega)
               (try have n5' : wr.heap.size ≠ w5.heap.size := n5.symm)
               (try have n7 : wr.heap.size < w5.heap.size := r5.lt)
               (try have n6 : w5.heap.size ≠ wr.heap.size + 1 := by have := s5.lt; omega)
               (try obtain ⟨u0, u1, u2, u3, u4, u5, u6, u7, u8, u9, u10, u11, u12, uf⟩ := r5.cells)
               (try obtain ⟨v0, v1, v2, v3, v4, v5, v6, v7, v8, v9, v10, v11, v12, vf⟩ := s5.cells)
               clear hX h5))
        · go_wp2_with fail
          go_meet
          exact ⟨_, _, rfl, rfl, rfl, pairA w5 wr X Y HX.out⟩
        · go_wp2_with fail
          go_meet
          exact ⟨_, _, rfl, rfl, rfl, (pairA w5 wr Y X HX.out).2.1, (pairA w5 wr Y X HX.out).1, (pairA w5 wr Y X HX.out).2.2⟩
        · go_wp2_with fail
          go_meet
          exact ⟨_, _, rfl, rfl, rfl, pairC w5 wr wr.heap.size X Y r5 HX.out (Nat.le_refl _)⟩
        · go_wp2_with fail
          go_meet
          exact ⟨_, _, rfl, rfl, rfl, pair_close X Y r5 s5 (by omega) HX.out (Nat.le_refl _) (by omega)⟩
        · go_wp2_with fail
          go_meet
          exact ⟨_, _, rfl, rfl, rfl, (pairC w5 wr wr.heap.size Y X r5 HX.out (Nat.le_refl _)).2.1, (pairC w5 wr wr.heap.size Y X r5 HX.out (Nat.le_refl _)).1, (pairC w5 wr wr.heap.size Y X r5 HX.out (Nat.le_refl _)).2.2⟩
        · go_wp2_with fail
          go_meet
          exact ⟨_, _, rfl, rfl, rfl, pair_close X Y s5 r5 (by omega) HX.out (by omega) (Nat.le_refl _)⟩
      case rest =>
        obtain ⟨g1, g2, rfl, rfl, rfl, r6, s6, hs6⟩ := hcut
        have HSc := hid hs6
        clear hs6 HA c0 c1 c2 c3 c4 c5 c6 c7 c8 c9 c10 c11 c12 d0 d1 d2 d3 d4 d5 d6 d7 d8 d9 d10 d11 d12 nB nB1 hBl
        obtain ⟨⟨c0, c1, c2, c3, c4, c5, c6, c7, c8, c9, c10, c11, c12⟩, d0, d1, d2, d3, d4, d5, d6, d7, d8, d9, d10, d11, d12⟩ := HRc.out wc HSc.out
        have hBl : B < wc.heap.size := World.block_lt_of_cell? wc _ c0
        have nB : wc.heap.size ≠ B := by omega
        have nB1 : wc.heap.size + 1 ≠ B := by omega
        go_wp2_with fail
        go_cut [19, 20, 21] from 82 to 129 (fun v19 v20 v21 wx => ∃ g3 g4, v19 = .pointer (some ⟨g3, 0, none⟩) ∧ v20 = .pointer (some ⟨g4, 0, none⟩) ∧ v21 = .int .i64 E2 ∧ Mb wx g3 X ∧ Mb wx g4 Y ∧ Still wc wx)
        case first =>
          go_region_held3 (fun w' => w'.cell? ⟨B, o + i * 13, none⟩ = some (.int .i64 x.ax) ∧ w'.cell? ⟨B, o + i * 13 + 1, none⟩ = some (.int .i64 x.ay) ∧ w'.cell? ⟨B, o + i * 13 + 2, none⟩ = some (.int .i64 x.sx) ∧ w'.cell? ⟨B, o + i * 13 + 3, none⟩ = some (.int .i64 x.sy) ∧ w'.cell? ⟨B, o + i * 13 + 4, none⟩ = some (.int .i64 x.px) ∧ w'.cell? ⟨B, o + i * 13 + 5, none⟩ = some (.int .i64 x.py) ∧ w'.cell? ⟨B, o + i * 13 + 6, none⟩ = some (.int .i64 x.fc) ∧ w'.cell? ⟨B, o + i * 13 + 7, none⟩ = some (.int .i64 x.hl) ∧ w'.cell? ⟨B, o + i * 13 + 8, none⟩ = some (.int .i64 x.en) ∧ w'.cell? ⟨B, o + i * 13 + 9, none⟩ = some (.bool x.sh) ∧ w'.cell? ⟨B, o + i * 13 + 10, none⟩ = some (.int .i64 x.co) ∧ w'.cell? ⟨B, o + i * 13 + 11, none⟩ = some (.int .i64 x.ou) ∧ w'.cell? ⟨B, o + i * 13 + 12, none⟩ = some (.int .i64 x.sd) ∧ w'.cell? ⟨B, o + i1 * 13, none⟩ = some (.int .i64 y.ax) ∧ w'.cell? ⟨B, o + i1 * 13 + 1, none⟩ = some (.int .i64 y.ay) ∧ w'.cell? ⟨B, o + i1 * 13 + 2, none⟩ = some (.int .i64 y.sx) ∧ w'.cell? ⟨B, o + i1 * 13 + 3, none⟩ = some (.int .i64 y.sy) ∧ w'.cell? ⟨B, o + i1 * 13 + 4, none⟩ = some (.int .i64 y.px) ∧ w'.cell? ⟨B, o + i1 * 13 + 5, none⟩ = some (.int .i64 y.py) ∧ w'.cell? ⟨B, o + i1 * 13 + 6, none⟩ = some (.int .i64 y.fc) ∧ w'.cell? ⟨B, o + i1 * 13 + 7, none⟩ = some (.int .i64 y.hl) ∧ w'.cell? ⟨B, o + i1 * 13 + 8, none⟩ = some (.int .i64 y.en) ∧ w'.cell? ⟨B, o + i1 * 13 + 9, none⟩ = some (.bool y.sh) ∧ w'.cell? ⟨B, o + i1 * 13 + 10, none⟩ = some (.int .i64 y.co) ∧ w'.cell? ⟨B, o + i1 * 13 + 11, none⟩ = some (.int .i64 y.ou) ∧ w'.cell? ⟨B, o + i1 * 13 + 12, none⟩ = some (.int .i64 y.sd)) (go_keep)
            (first
              | (go_at_call 16
                 refine (HB.out _).mono ?_
                 rintro e w5 ⟨rfl, h5⟩
                 have hX : Still wc w5 := by
                   refine Still.trans ?_ h5
                   repeat (first | exact Fr.refl _ _ | refine Fr.drew ?_ | refine Fr.alloc ?_ _)
                 obtain ⟨⟨y0, y1, y2, y3, y4, y5, y6, y7, y8, y9, y10, y11, y12⟩, z0, z1, z2, z3, z4, z5, z6, z7, z8, z9, z10, z11, z12⟩ := HRc.out w5 (HSc.out.trans hX)
                 have HX := hid hX
                 have n3 : w5.heap.size ≠ B := by have := hX.size; omega
                 have n4 : w5.heap.size + 1 ≠ B := by have := hX.size; omega
                 (try have r5 : Mb w5 wc.heap.size zM := by first | exact (newM_mb wc zM).still (Still.undrew h5) | exact ((newM_mb wc zM).still (Still.alloc _ _)).still (Still.undrew h5))
                 (try have s5 : Mb w5 (wc.heap.size + 1) zM := (new2 wc).still (Still.undrew h5))
                 (try have n5 : w5.heap.size ≠ wc.heap.size := by have := r5.lt; omega)
                 (try have n5' : wc.heap.size ≠ w5.heap.size := n5.symm)
                 (try have n7 : wc.heap.size < w5.heap.size := r5.lt)
                 (try have n6 : w5.heap.size ≠ wc.heap.size + 1 := by have := s5.lt; omega)
                 (try obtain ⟨u0, u1, u2, u3, u4, u5, u6, u7, u8, u9, u10, u11, u12, uf⟩ := r5.cells)
                 (try obtain ⟨v0, v1, v2, v3, v4, v5, v6, v7, v8, v9, v10, v11, v12, vf⟩ := s5.cells)
                 clear hX h5))
          · go_wp2_with fail
            go_meet
            exact ⟨_, _, rfl, rfl, rfl, pairA w5 wc X Y HX.out⟩
          · go_wp2_with fail
            go_meet
            exact ⟨_, _, rfl, rfl, rfl, (pairA w5 wc Y X HX.out).2.1, (pairA w5 wc Y X HX.out).1, (pairA w5 wc Y X HX.out).2.2⟩
          · go_wp2_with fail
            go_meet
            exact ⟨_, _, rfl, rfl, rfl, pairC w5 wc wc.heap.size X Y r5 HX.out (Nat.le_refl _)⟩
          · go_wp2_with fail
            go_meet
            exact ⟨_, _, rfl, rfl, rfl, pair_close X Y r5 s5 (by omega) HX.out (Nat.le_refl _) (by omega)⟩
          · go_wp2_with fail
            go_meet
            exact ⟨_, _, rfl, rfl, rfl, (pairC w5 wc wc.heap.size Y X r5 HX.out (Nat.le_refl _)).2.1, (pairC w5 wc wc.heap.size Y X r5 HX.out (Nat.le_refl _)).1, (pairC w5 wc wc.heap.size Y X r5 HX.out (Nat.le_refl _)).2.2⟩
          · go_wp2_with fail
            go_meet
            exact ⟨_, _, rfl, rfl, rfl, pair_close X Y s5 r5 (by omega) HX.out (by omega) (Nat.le_refl _)⟩
        case rest =>
          obtain ⟨g3, g4, rfl, rfl, rfl, r7, s7, hs7⟩ := hcut
          have HS7 := hid ((HSr.out.trans HSc.out).trans hs7)
          have r8 := r6.still hs7
          have s8 := s6.still hs7
          clear hs7 HSc r6 s6 HB c0 c1 c2 c3 c4 c5 c6 c7 c8 c9 c10 c11 c12 d0 d1 d2 d3 d4 d5 d6 d7 d8 d9 d10 d11 d12 nB nB1 hBl HRc HRr
          obtain ⟨c0, c1, c2, c3, c4, c5, c6, c7, c8, c9, c10, c11, c12, cf⟩ := r8.cells
          obtain ⟨d0, d1, d2, d3, d4, d5, d6, d7, d8, d9, d10, d11, d12, df⟩ := s8.cells
          obtain ⟨k0, k1, k2, k3, k4, k5, k6, k7, k8, k9, k10, k11, k12, kf⟩ := r7.cells
          obtain ⟨l0, l1, l2, l3, l4, l5, l6, l7, l8, l9, l10, l11, l12, lf⟩ := s7.cells
          have F1 := neq_mv_f X
          have F2 := neq_mv_f Y
          have G2 := guard_mv
          go_wp2_with fail
          go_roundw
          case rel => exact ⟨i1, by omega, by go_num, HS7.out⟩
          case measure => simp [intOf]; have := HI1.out; omega
    · have hge : ¬ (i1 : Int) < (n : Int) := by omega
      clear hin hi
      go_wp2_with fail
      go_ret
      exact ⟨rfl, HS10.out.trans HSr.out⟩
end Go.Proofs.Ytpohikhiekmfgaa
