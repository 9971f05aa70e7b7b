/- A mover that is worked on, in memory; the small functions of the program. -/
import Derived.Test.YtaalbkmdmocdeaaDoorNc
import Derived.Test.YtaalbkmdmocdeaaDoorBd
namespace Go.Proofs.YtaalbkmdmocdeaaDoor
open Go.RowKit
open Pu Gp Ap Vp Np
set_option maxRecDepth 100000

/-- block g holds a mover that is worked on -/
def Wb (w : World) (g : Nat) (m : Mv) : Prop := w.heap[g]? = some (.cells (mcs m) 57 (0, 0))
theorem Wb.still {w w' : World} {g : Nat} {m : Mv} (h : Wb w g m) (hs : Still w w') : Wb w' g m := hs.kept_still h
theorem Wb.lt {w : World} {g : Nat} {m : Mv} (h : Wb w g m) : g < w.heap.size := block_lt h
theorem Wb.cells {w : World} {g : Nat} {m : Mv} (h : Wb w g m) : w.cell? ⟨g, 0, none⟩ = some (.int .i64 m.ax) ∧ w.cell? ⟨g, 1, none⟩ = some (.int .i64 m.ay) ∧ w.cell? ⟨g, 2, none⟩ = some (.int .i64 m.sx) ∧ w.cell? ⟨g, 3, none⟩ = some (.int .i64 m.sy) ∧ w.cell? ⟨g, 4, none⟩ = some (.int .i64 m.px) ∧ w.cell? ⟨g, 5, none⟩ = some (.int .i64 m.py) ∧ w.cell? ⟨g, 6, none⟩ = some (.int .i64 m.fc) ∧ w.cell? ⟨g, 7, none⟩ = some (.int .i64 m.hl) ∧ w.cell? ⟨g, 8, none⟩ = some (.int .i64 m.en) ∧ w.cell? ⟨g, 9, none⟩ = some (.bool m.sh) ∧ w.cell? ⟨g, 10, none⟩ = some (.int .i64 m.co) ∧ w.cell? ⟨g, 11, none⟩ = some (.int .i64 m.ou) ∧ w.cell? ⟨g, 12, none⟩ = some (.int .i64 m.sd) ∧ ∀ o, w.frozen? ⟨g, o, none⟩ = false := by
  refine ⟨?_, ?_, ?_, ?_, ?_, ?_, ?_, ?_, ?_, ?_, ?_, ?_, ?_, fun o => frozen_of_row w g o _ _ h⟩ <;> (rw [cell_of_row _ _ _ _ _ _ h]; rfl)
abbrev newW (w : World) (m : Mv) : World := w.alloc (.cells (mcs m) 57)
theorem newW_wb (w : World) (m : Mv) : Wb (newW w m) w.heap.size m := heap_alloc_new w _
theorem Wb.other {w : World} {g : Nat} {m : Mv} (h : Wb w g m) (k o : Nat) (v : Value) (hk : g ≠ k) : Wb (w.setCell ⟨k, o, none⟩ v) g m := by
  unfold Wb at h ⊢
  rw [heap_setCell_other _ _ _ _ hk]
  exact h
theorem Wb.ax {w : World} {g : Nat} {m : Mv} (h : Wb w g m) (x : Int) : Wb (w.setCell ⟨g, 0, none⟩ (.int .i64 x)) g { m with ax := x } := (heap_setCell_same w g 0 _ _ (.int .i64 x) h).trans (by kernel_rfl)
theorem Wb.ay {w : World} {g : Nat} {m : Mv} (h : Wb w g m) (x : Int) : Wb (w.setCell ⟨g, 1, none⟩ (.int .i64 x)) g { m with ay := x } := (heap_setCell_same w g 1 _ _ (.int .i64 x) h).trans (by kernel_rfl)
theorem Wb.sx {w : World} {g : Nat} {m : Mv} (h : Wb w g m) (x : Int) : Wb (w.setCell ⟨g, 2, none⟩ (.int .i64 x)) g { m with sx := x } := (heap_setCell_same w g 2 _ _ (.int .i64 x) h).trans (by kernel_rfl)
theorem Wb.sy {w : World} {g : Nat} {m : Mv} (h : Wb w g m) (x : Int) : Wb (w.setCell ⟨g, 3, none⟩ (.int .i64 x)) g { m with sy := x } := (heap_setCell_same w g 3 _ _ (.int .i64 x) h).trans (by kernel_rfl)
theorem Wb.px {w : World} {g : Nat} {m : Mv} (h : Wb w g m) (x : Int) : Wb (w.setCell ⟨g, 4, none⟩ (.int .i64 x)) g { m with px := x } := (heap_setCell_same w g 4 _ _ (.int .i64 x) h).trans (by kernel_rfl)
theorem Wb.py {w : World} {g : Nat} {m : Mv} (h : Wb w g m) (x : Int) : Wb (w.setCell ⟨g, 5, none⟩ (.int .i64 x)) g { m with py := x } := (heap_setCell_same w g 5 _ _ (.int .i64 x) h).trans (by kernel_rfl)
theorem Wb.fc {w : World} {g : Nat} {m : Mv} (h : Wb w g m) (x : Int) : Wb (w.setCell ⟨g, 6, none⟩ (.int .i64 x)) g { m with fc := x } := (heap_setCell_same w g 6 _ _ (.int .i64 x) h).trans (by kernel_rfl)
theorem Wb.hl {w : World} {g : Nat} {m : Mv} (h : Wb w g m) (x : Int) : Wb (w.setCell ⟨g, 7, none⟩ (.int .i64 x)) g { m with hl := x } := (heap_setCell_same w g 7 _ _ (.int .i64 x) h).trans (by kernel_rfl)
theorem Wb.en {w : World} {g : Nat} {m : Mv} (h : Wb w g m) (x : Int) : Wb (w.setCell ⟨g, 8, none⟩ (.int .i64 x)) g { m with en := x } := (heap_setCell_same w g 8 _ _ (.int .i64 x) h).trans (by kernel_rfl)
theorem Wb.sh {w : World} {g : Nat} {m : Mv} (h : Wb w g m) (x : Bool) : Wb (w.setCell ⟨g, 9, none⟩ (.bool x)) g { m with sh := x } := (heap_setCell_same w g 9 _ _ (.bool x) h).trans (by kernel_rfl)
theorem Wb.co {w : World} {g : Nat} {m : Mv} (h : Wb w g m) (x : Int) : Wb (w.setCell ⟨g, 10, none⟩ (.int .i64 x)) g { m with co := x } := (heap_setCell_same w g 10 _ _ (.int .i64 x) h).trans (by kernel_rfl)
theorem Wb.ou {w : World} {g : Nat} {m : Mv} (h : Wb w g m) (x : Int) : Wb (w.setCell ⟨g, 11, none⟩ (.int .i64 x)) g { m with ou := x } := (heap_setCell_same w g 11 _ _ (.int .i64 x) h).trans (by kernel_rfl)
theorem Wb.sd {w : World} {g : Nat} {m : Mv} (h : Wb w g m) (x : Int) : Wb (w.setCell ⟨g, 12, none⟩ (.int .i64 x)) g { m with sd := x } := (heap_setCell_same w g 12 _ _ (.int .i64 x) h).trans (by kernel_rfl)
theorem Wb.put {w : World} {g : Nat} {m : Mv} (h : Wb w g m) (ax : Int) (ay : Int) (sx : Int) (sy : Int) (px : Int) (py : Int) (fc : Int) (hl : Int) (en : Int) (sh : Bool) (co : Int) (ou : Int) (sd : Int) : Wb (((((((((((((w.setCell ⟨g, 0, none⟩ (.int .i64 ax)).setCell ⟨g, 1, none⟩ (.int .i64 ay)).setCell ⟨g, 2, none⟩ (.int .i64 sx)).setCell ⟨g, 3, none⟩ (.int .i64 sy)).setCell ⟨g, 4, none⟩ (.int .i64 px)).setCell ⟨g, 5, none⟩ (.int .i64 py)).setCell ⟨g, 6, none⟩ (.int .i64 fc)).setCell ⟨g, 7, none⟩ (.int .i64 hl)).setCell ⟨g, 8, none⟩ (.int .i64 en)).setCell ⟨g, 9, none⟩ (.bool sh)).setCell ⟨g, 10, none⟩ (.int .i64 co)).setCell ⟨g, 11, none⟩ (.int .i64 ou)).setCell ⟨g, 12, none⟩ (.int .i64 sd)) g ⟨ax, ay, sx, sy, px, py, fc, hl, en, sh, co, ou, sd⟩ := (Wb.sd (Wb.ou (Wb.co (Wb.sh (Wb.en (Wb.hl (Wb.fc (Wb.py (Wb.px (Wb.sy (Wb.sx (Wb.ay (Wb.ax h ax) ay) sx) sy) px) py) fc) hl) en) sh) co) ou) sd)
theorem load_wb (w : World) (g : Nat) (m : Mv) (h : Wb w g m) : (loadVar 57 ⟨g, 0, none⟩).run Tryd.prog w = .ok (mv m) w := by
  obtain ⟨c0, c1, c2, c3, c4, c5, c6, c7, c8, c9, c10, c11, c12, cf⟩ := h.cells
  go_simp
theorem within_any (n l h : Int) (w : World) : Calls Tryd.prog 40 #[.int .i64 n, .int .i64 l, .int .i64 h] w fun e w' => e = .returned (.bool (amg n l h)) ∧ w' = w := by
  unfold amg
  by_cases h1 : l ≤ n
  · go_enter Tryd.func40, Tryd.ntmps40
    go_wp2_with fail
    go_ret
    exact ⟨by simp [h1], rfl⟩
  · have e : decide (l ≤ n) = false := by simpa using h1
    rw [e]
    go_enter Tryd.func40, Tryd.ntmps40
    go_wp2_with fail
    go_ret
    exact ⟨rfl, rfl⟩
/-- both numbers of a way -/
def bw (x y k : Int) : Bool := amg x (-k) k && amg y (-k) k
theorem both_any (x y k : Int) (h1 : 0 ≤ k) (h2 : k ≤ 1024) (w : World) : Calls Tryd.prog 53 #[pt x y, .int .i64 k] w fun e w' => e = .returned (.bool (bw x y k)) ∧ Still w w' := by
  have p := newP_pb w x y
  have HS0 := hid (Still.alloc w (.cells #[.int .i64 x, .int .i64 y] 23))
  obtain ⟨c0, c1, cf⟩ := p.cells
  have HB : Hid (bw x y k = (amg x (-k) k && amg y (-k) k)) := hid rfl
  have HM := hid (fun (n l h : Int) (w : World) => within_any n l h w)
  go_enter Tryd.func53, Tryd.ntmps53
  go_wp2_with fail
  refine (HM.out _ _ _ _).mono ?_
  rintro e w2 ⟨he, hw⟩
  rw [he, hw]
  clear he hw w2
  obtain ⟨b1, eb1⟩ : ∃ b, amg x (-k) k = b := ⟨_, rfl⟩
  rw [eb1] at HB ⊢
  clear eb1
  cases b1 with
  | false =>
    go_wp2_with fail
    go_ret
    exact ⟨by rw [HB.out]; rfl, HS0.out⟩
  | true =>
    go_wp2_with fail
    refine (HM.out _ _ _ _).mono ?_
    rintro e w2 ⟨he, hw⟩
    rw [he, hw]
    clear he hw w2
    go_wp2_with fail
    go_ret
    exact ⟨by rw [HB.out]; rfl, HS0.out⟩
/-- what stays of one that is out -/
def goneM (m : Mv) (f : Int) : Mv := ⟨m.ax, m.ay, 0, 0, 0, 0, m.fc, 0, 0, false, 0, f, m.sd⟩
theorem gone_any (m : Mv) (f : Int) (w : World) : Calls Tryd.prog 54 #[mv m, .int .i64 f] w fun e w' => e = .returned (mv (goneM m f)) ∧ Still w w' := by
  have p := newM_mb w m
  have HS0 := hid (Still.alloc w (.cells (mcs m) 25))
  obtain ⟨c0, c1, c2, c3, c4, c5, c6, c7, c8, c9, c10, c11, c12, cf⟩ := p.cells
  go_enter Tryd.func54, Tryd.ntmps54
  go_wp2_with fail
  have h := newM_mb (newM w m) (goneM m f)
  rw [size_alloc] at h
  exact bodyPost_ret (h.res rfl _ rfl) rfl ⟨rfl, HS0.out.trans (Still.alloc _ _)⟩
theorem inplay_any (m : Mv) (w : World) : Calls Tryd.prog 32 #[mv m] w fun e w' => e = .returned (.bool (m.ou == 0)) ∧ Still w w' := by
  have p := newW_wb w m
  have HS0 := hid (Still.alloc w (.cells (mcs m) 57))
  obtain ⟨c0, c1, c2, c3, c4, c5, c6, c7, c8, c9, c10, c11, c12, cf⟩ := p.cells
  go_enter Tryd.func32, Tryd.ntmps32
  go_wp2_with fail
  go_ret
  exact ⟨rfl, HS0.out⟩
end Go.Proofs.YtaalbkmdmocdeaaDoor
