/- A mover that is worked on, in memory; the small functions of the program. What verbs do to a mover that is worked on: the program's methods. The program's Check. The program's map from verbs to what does them. -/
import Derived.Test.YtaalbkmdmocdeaaDoorNc
import Derived.Test.YtaalbkmdmocdeaaDoorBd
import Derived.Test.YtaalbkmdmocdeaaDoorUn
import Derived.Test.YtaalbkmdmocdeaaDoorVt
import Derived.Test.YtaalbkmdmocdeaaDoorEq
import Derived.Test.YtaalbkmdmocdeaaDoorQt
import Derived.Test.YtaalbkmdmocdeaaDoorYk
namespace Go.Proofs.YtaalbkmdmocdeaaDoor
open Go.RowKit
open Pu Gp Ap Vp Np
set_option maxRecDepth 100000

/-- block g holds a mover that is worked on -/
def Wb (w : World) (g : Nat) (m : Mv) : Prop := w.heap[g]? = some (.cells (mcs m) 57 (0, 0))
theorem Wb.still {w w' : World} {g : Nat} {m : Mv} (h : Wb w g m) (hs : Still w w') : Wb w' g m := hs.kept_still h
theorem Wb.lt {w : World} {g : Nat} {m : Mv} (h : Wb w g m) : g < w.heap.size := block_lt h
theorem Wb.cells {w : World} {g : Nat} {m : Mv} (h : Wb w g m) : w.cell? ⟨g, 0, none⟩ = some (.int .i64 m.ax) ∧ w.cell? ⟨g, 1, none⟩ = some (.int .i64 m.ay) ∧ w.cell? ⟨g, 2, none⟩ = some (.int .i64 m.sx) ∧ w.cell? ⟨g, 3, none⟩ = some (.int .i64 m.sy) ∧ w.cell? ⟨g, 4, none⟩ = some (.int .i64 m.px) ∧ w.cell? ⟨g, 5, none⟩ = some (.int .i64 m.py) ∧ w.cell? ⟨g, 6, none⟩ = some (.int .i64 m.fc) ∧ w.cell? ⟨g, 7, none⟩ = some (.int .i64 m.hl) ∧ w.cell? ⟨g, 8, none⟩ = some (.int .i64 m.en) ∧ w.cell? ⟨g, 9, none⟩ = some (.bool m.sh) ∧ w.cell? ⟨g, 10, none⟩ = some (.int .i64 m.co) ∧ w.cell? ⟨g, 11, none⟩ = some (.int .i64 m.ou) ∧ w.cell? ⟨g, 12, none⟩ = some (.int .i64 m.sd) ∧ ∀ o, w.frozen? ⟨g, o, none⟩ = false := by
  refine ⟨?_, ?_, ?_, ?_, ?_, ?_, ?_, ?_, ?_, ?_, ?_, ?_, ?_, fun o => frozen_of_row w g o _ _ h⟩ <;> (rw [cell_of_row _ _ _ _ _ _ h]; rfl)
abbrev newW (w : World) (m : Mv) : World := w.alloc (.cells (mcs m) 57)
theorem newW_wb (w : World) (m : Mv) : Wb (newW w m) w.heap.size m := heap_alloc_new w _
theorem Wb.other {w : World} {g : Nat} {m : Mv} (h : Wb w g m) (k o : Nat) (v : Value) (hk : g ≠ k) : Wb (w.setCell ⟨k, o, none⟩ v) g m := by
  unfold Wb at h ⊢
  rw [heap_setCell_other _ _ _ _ hk]
  exact h
theorem Wb.ax {w : World} {g : Nat} {m : Mv} (h : Wb w g m) (x : Int) : Wb (w.setCell ⟨g, 0, none⟩ (.int .i64 x)) g { m with ax := x } := (heap_setCell_same w g 0 _ _ (.int .i64 x) h).trans (by kernel_rfl)
theorem Wb.ay {w : World} {g : Nat} {m : Mv} (h : Wb w g m) (x : Int) : Wb (w.setCell ⟨g, 1, none⟩ (.int .i64 x)) g { m with ay := x } := (heap_setCell_same w g 1 _ _ (.int .i64 x) h).trans (by kernel_rfl)
theorem Wb.sx {w : World} {g : Nat} {m : Mv} (h : Wb w g m) (x : Int) : Wb (w.setCell ⟨g, 2, none⟩ (.int .i64 x)) g { m with sx := x } := (heap_setCell_same w g 2 _ _ (.int .i64 x) h).trans (by kernel_rfl)
theorem Wb.sy {w : World} {g : Nat} {m : Mv} (h : Wb w g m) (x : Int) : Wb (w.setCell ⟨g, 3, none⟩ (.int .i64 x)) g { m with sy := x } := (heap_setCell_same w g 3 _ _ (.int .i64 x) h).trans (by kernel_rfl)
theorem Wb.px {w : World} {g : Nat} {m : Mv} (h : Wb w g m) (x : Int) : Wb (w.setCell ⟨g, 4, none⟩ (.int .i64 x)) g { m with px := x } := (heap_setCell_same w g 4 _ _ (.int .i64 x) h).trans (by kernel_rfl)
theorem Wb.py {w : World} {g : Nat} {m : Mv} (h : Wb w g m) (x : Int) : Wb (w.setCell ⟨g, 5, none⟩ (.int .i64 x)) g { m with py := x } := (heap_setCell_same w g 5 _ _ (.int .i64 x) h).trans (by kernel_rfl)
theorem Wb.fc {w : World} {g : Nat} {m : Mv} (h : Wb w g m) (x : Int) : Wb (w.setCell ⟨g, 6, none⟩ (.int .i64 x)) g { m with fc := x } := (heap_setCell_same w g 6 _ _ (.int .i64 x) h).trans (by kernel_rfl)
theorem Wb.hl {w : World} {g : Nat} {m : Mv} (h : Wb w g m) (x : Int) : Wb (w.setCell ⟨g, 7, none⟩ (.int .i64 x)) g { m with hl := x } := (heap_setCell_same w g 7 _ _ (.int .i64 x) h).trans (by kernel_rfl)
theorem Wb.en {w : World} {g : Nat} {m : Mv} (h : Wb w g m) (x : Int) : Wb (w.setCell ⟨g, 8, none⟩ (.int .i64 x)) g { m with en := x } := (heap_setCell_same w g 8 _ _ (.int .i64 x) h).trans (by kernel_rfl)
theorem Wb.sh {w : World} {g : Nat} {m : Mv} (h : Wb w g m) (x : Bool) : Wb (w.setCell ⟨g, 9, none⟩ (.bool x)) g { m with sh := x } := (heap_setCell_same w g 9 _ _ (.bool x) h).trans (by kernel_rfl)
theorem Wb.co {w : World} {g : Nat} {m : Mv} (h : Wb w g m) (x : Int) : Wb (w.setCell ⟨g, 10, none⟩ (.int .i64 x)) g { m with co := x } := (heap_setCell_same w g 10 _ _ (.int .i64 x) h).trans (by kernel_rfl)
theorem Wb.ou {w : World} {g : Nat} {m : Mv} (h : Wb w g m) (x : Int) : Wb (w.setCell ⟨g, 11, none⟩ (.int .i64 x)) g { m with ou := x } := (heap_setCell_same w g 11 _ _ (.int .i64 x) h).trans (by kernel_rfl)
theorem Wb.sd {w : World} {g : Nat} {m : Mv} (h : Wb w g m) (x : Int) : Wb (w.setCell ⟨g, 12, none⟩ (.int .i64 x)) g { m with sd := x } := (heap_setCell_same w g 12 _ _ (.int .i64 x) h).trans (by kernel_rfl)
theorem Wb.put {w : World} {g : Nat} {m : Mv} (h : Wb w g m) (ax : Int) (ay : Int) (sx : Int) (sy : Int) (px : Int) (py : Int) (fc : Int) (hl : Int) (en : Int) (sh : Bool) (co : Int) (ou : Int) (sd : Int) : Wb (((((((((((((w.setCell ⟨g, 0, none⟩ (.int .i64 ax)).setCell ⟨g, 1, none⟩ (.int .i64 ay)).setCell ⟨g, 2, none⟩ (.int .i64 sx)).setCell ⟨g, 3, none⟩ (.int .i64 sy)).setCell ⟨g, 4, none⟩ (.int .i64 px)).setCell ⟨g, 5, none⟩ (.int .i64 py)).setCell ⟨g, 6, none⟩ (.int .i64 fc)).setCell ⟨g, 7, none⟩ (.int .i64 hl)).setCell ⟨g, 8, none⟩ (.int .i64 en)).setCell ⟨g, 9, none⟩ (.bool sh)).setCell ⟨g, 10, none⟩ (.int .i64 co)).setCell ⟨g, 11, none⟩ (.int .i64 ou)).setCell ⟨g, 12, none⟩ (.int .i64 sd)) g ⟨ax, ay, sx, sy, px, py, fc, hl, en, sh, co, ou, sd⟩ := (Wb.sd (Wb.ou (Wb.co (Wb.sh (Wb.en (Wb.hl (Wb.fc (Wb.py (Wb.px (Wb.sy (Wb.sx (Wb.ay (Wb.ax h ax) ay) sx) sy) px) py) fc) hl) en) sh) co) ou) sd)
theorem load_wb (w : World) (g : Nat) (m : Mv) (h : Wb w g m) : (loadVar 57 ⟨g, 0, none⟩).run Tryd.prog w = .ok (mv m) w := by
  obtain ⟨c0, c1, c2, c3, c4, c5, c6, c7, c8, c9, c10, c11, c12, cf⟩ := h.cells
  go_simp
theorem within_any (n l h : Int) (w : World) : Calls Tryd.prog 40 #[.int .i64 n, .int .i64 l, .int .i64 h] w fun e w' => e = .returned (.bool (amg n l h)) ∧ w' = w := by
  unfold amg
  by_cases h1 : l ≤ n
  · go_enter Tryd.func40, Tryd.ntmps40
    go_wp2_with fail
    go_ret
    exact ⟨by simp [h1], rfl⟩
  · have e : decide (l ≤ n) = false := by simpa using h1
    rw [e]
    go_enter Tryd.func40, Tryd.ntmps40
    go_wp2_with fail
    go_ret
    exact ⟨rfl, rfl⟩
/-- both numbers of a way -/
def bw (x y k : Int) : Bool := amg x (-k) k && amg y (-k) k
theorem both_any (x y k : Int) (h1 : 0 ≤ k) (h2 : k ≤ 1024) (w : World) : Calls Tryd.prog 53 #[pt x y, .int .i64 k] w fun e w' => e = .returned (.bool (bw x y k)) ∧ Still w w' := by
  have p := newP_pb w x y
  have HS0 := hid (Still.alloc w (.cells #[.int .i64 x, .int .i64 y] 23))
  obtain ⟨c0, c1, cf⟩ := p.cells
  have HB : Hid (bw x y k = (amg x (-k) k && amg y (-k) k)) := hid rfl
  have HM := hid (fun (n l h : Int) (w : World) => within_any n l h w)
  go_enter Tryd.func53, Tryd.ntmps53
  go_wp2_with fail
  refine (HM.out _ _ _ _).mono ?_
  rintro e w2 ⟨he, hw⟩
  rw [he, hw]
  clear he hw w2
  obtain ⟨b1, eb1⟩ : ∃ b, amg x (-k) k = b := ⟨_, rfl⟩
  rw [eb1] at HB ⊢
  clear eb1
  cases b1 with
  | false =>
    go_wp2_with fail
    go_ret
    exact ⟨by rw [HB.out]; rfl, HS0.out⟩
  | true =>
    go_wp2_with fail
    refine (HM.out _ _ _ _).mono ?_
    rintro e w2 ⟨he, hw⟩
    rw [he, hw]
    clear he hw w2
    go_wp2_with fail
    go_ret
    exact ⟨by rw [HB.out]; rfl, HS0.out⟩
/-- what stays of one that is out -/
def goneM (m : Mv) (f : Int) : Mv := ⟨m.ax, m.ay, 0, 0, 0, 0, m.fc, 0, 0, false, 0, f, m.sd⟩
theorem gone_any (m : Mv) (f : Int) (w : World) : Calls Tryd.prog 54 #[mv m, .int .i64 f] w fun e w' => e = .returned (mv (goneM m f)) ∧ Still w w' := by
  have p := newM_mb w m
  have HS0 := hid (Still.alloc w (.cells (mcs m) 25))
  obtain ⟨c0, c1, c2, c3, c4, c5, c6, c7, c8, c9, c10, c11, c12, cf⟩ := p.cells
  go_enter Tryd.func54, Tryd.ntmps54
  go_wp2_with fail
  have h := newM_mb (newM w m) (goneM m f)
  rw [size_alloc] at h
  exact bodyPost_ret (h.res rfl _ rfl) rfl ⟨rfl, HS0.out.trans (Still.alloc _ _)⟩
theorem inplay_any (m : Mv) (w : World) : Calls Tryd.prog 32 #[mv m] w fun e w' => e = .returned (.bool (m.ou == 0)) ∧ Still w w' := by
  have p := newW_wb w m
  have HS0 := hid (Still.alloc w (.cells (mcs m) 57))
  obtain ⟨c0, c1, c2, c3, c4, c5, c6, c7, c8, c9, c10, c11, c12, cf⟩ := p.cells
  go_enter Tryd.func32, Tryd.ntmps32
  go_wp2_with fail
  go_ret
  exact ⟨rfl, HS0.out⟩
end Go.Proofs.YtaalbkmdmocdeaaDoor
namespace Go.Proofs.YtaalbkmdmocdeaaDoor
open Go.RowKit
open Pu Gp Ap Vp Np
set_option maxRecDepth 100000

/-- block g holds another mover now, all else is as it was -/
def Dn (g : Nat) (w w' : World) (n : Mv) : Prop := Wb w' g n ∧ Fr (fun k => k = g) w w'
theorem Dn.same {g : Nat} {w w' : World} {m : Mv} (h : Wb w g m) (hs : Still w w') : Dn g w w' m := ⟨h.still hs, hs.to⟩
/-- the worker of a new block leaves all that was -/
theorem Dn.over {x w w' : World} {g : Nat} {n : Mv} (h : Dn g w w' n) (hs : Still x w) (hg : x.heap.size ≤ g) : Still x w' := Fr.trans hs h.2 fun k hk e => by subst e; omega
theorem Dn.trans {g : Nat} {a b c : World} {m n : Mv} (h : Dn g a b m) (k : Dn g b c n) : Dn g a c n := ⟨k.1, Fr.trans h.2 k.2 fun _ _ e => e⟩
theorem wsteer (g : Nat) (m : Mv) (v a b c : Int) (ha1 : -8 ≤ a) (ha2 : a ≤ 8) (hb1 : -8 ≤ b) (hb2 : b ≤ 8) (w : World) (h : Wb w g m) : Calls Tryd.prog 59 #[.pointer (some ⟨g, 0, none⟩), od v a b c] w fun e w' => e = .returned (.bool true) ∧ Dn g w w' { m with px := 32 * a, py := 32 * b } := by
  have A0 := Still.alloc w (.cells #[.int .i64 v, .int .i64 a, .int .i64 b, .int .i64 c] 32)
  have p0 := h.still A0
  have o0 := newO_orb w v a b c
  have HF := hid (Still.to (F := fun k => k = g) A0)
  clear A0
  obtain ⟨c0, c1, c2, c3, c4, c5, c6, c7, c8, c9, c10, c11, c12, cf⟩ := p0.cells
  obtain ⟨d0, d1, d2, d3, df⟩ := o0.cells
  go_enter Tryd.func59, Tryd.ntmps59
  go_wp2_with fail
  go_ret
  exact ⟨rfl, (p0.px _).py _, (HF.out.setCell _ _ (.inl rfl)).setCell _ _ (.inl rfl)⟩
theorem whalt (g : Nat) (m : Mv) (v a b c : Int) (w : World) (h : Wb w g m) : Calls Tryd.prog 60 #[.pointer (some ⟨g, 0, none⟩), od v a b c] w fun e w' => e = .returned (.bool true) ∧ Dn g w w' { m with px := 0, py := 0 } := by
  have A0 := Still.alloc w (.cells #[.int .i64 v, .int .i64 a, .int .i64 b, .int .i64 c] 32)
  have p0 := h.still A0
  have o0 := newO_orb w v a b c
  have HF := hid (Still.to (F := fun k => k = g) A0)
  clear A0
  obtain ⟨c0, c1, c2, c3, c4, c5, c6, c7, c8, c9, c10, c11, c12, cf⟩ := p0.cells
  obtain ⟨d0, d1, d2, d3, df⟩ := o0.cells
  go_enter Tryd.func60, Tryd.ntmps60
  go_wp2_with fail
  go_ret
  exact ⟨rfl, (p0.px _).py _, (HF.out.setCell _ _ (.inl rfl)).setCell _ _ (.inl rfl)⟩
theorem waim (g : Nat) (m : Mv) (v a b c : Int) (w : World) (h : Wb w g m) : Calls Tryd.prog 61 #[.pointer (some ⟨g, 0, none⟩), od v a b c] w fun e w' => e = .returned (.bool true) ∧ Dn g w w' { m with fc := a } := by
  have A0 := Still.alloc w (.cells #[.int .i64 v, .int .i64 a, .int .i64 b, .int .i64 c] 32)
  have p0 := h.still A0
  have o0 := newO_orb w v a b c
  have HF := hid (Still.to (F := fun k => k = g) A0)
  clear A0
  obtain ⟨c0, c1, c2, c3, c4, c5, c6, c7, c8, c9, c10, c11, c12, cf⟩ := p0.cells
  obtain ⟨d0, d1, d2, d3, df⟩ := o0.cells
  go_enter Tryd.func61, Tryd.ntmps61
  go_wp2_with fail
  go_ret
  exact ⟨rfl, p0.fc _, HF.out.setCell _ _ (.inl rfl)⟩
theorem wsay (g : Nat) (m : Mv) (v a b c : Int) (w : World) (h : Wb w g m) : Calls Tryd.prog 65 #[.pointer (some ⟨g, 0, none⟩), od v a b c] w fun e w' => e = .returned (.bool true) ∧ Dn g w w' { m with sd := a } := by
  have A0 := Still.alloc w (.cells #[.int .i64 v, .int .i64 a, .int .i64 b, .int .i64 c] 32)
  have p0 := h.still A0
  have o0 := newO_orb w v a b c
  have HF := hid (Still.to (F := fun k => k = g) A0)
  clear A0
  obtain ⟨c0, c1, c2, c3, c4, c5, c6, c7, c8, c9, c10, c11, c12, cf⟩ := p0.cells
  obtain ⟨d0, d1, d2, d3, df⟩ := o0.cells
  go_enter Tryd.func65, Tryd.ntmps65
  go_wp2_with fail
  go_ret
  exact ⟨rfl, p0.sd _, HF.out.setCell _ _ (.inl rfl)⟩
theorem wshield0 (g : Nat) (m : Mv) (v a b c : Int) (ha : (a == 0) = true) (w : World) (h : Wb w g m) : Calls Tryd.prog 63 #[.pointer (some ⟨g, 0, none⟩), od v a b c] w fun e w' => e = .returned (.bool true) ∧ Dn g w w' { m with sh := false } := by
  have A0 := Still.alloc w (.cells #[.int .i64 v, .int .i64 a, .int .i64 b, .int .i64 c] 32)
  have p0 := h.still A0
  have o0 := newO_orb w v a b c
  have HF := hid (Still.to (F := fun k => k = g) A0)
  clear A0
  obtain ⟨c0, c1, c2, c3, c4, c5, c6, c7, c8, c9, c10, c11, c12, cf⟩ := p0.cells
  obtain ⟨d0, d1, d2, d3, df⟩ := o0.cells
  go_enter Tryd.func63, Tryd.ntmps63
  go_wp2_with fail
  go_ret
  exact ⟨rfl, p0.sh _, HF.out.setCell _ _ (.inl rfl)⟩
theorem wshield1 (g : Nat) (m : Mv) (v a b c : Int) (ha : (a == 0) = false) (he : (m.en == 0) = false) (w : World) (h : Wb w g m) : Calls Tryd.prog 63 #[.pointer (some ⟨g, 0, none⟩), od v a b c] w fun e w' => e = .returned (.bool true) ∧ Dn g w w' { m with sh := true } := by
  have A0 := Still.alloc w (.cells #[.int .i64 v, .int .i64 a, .int .i64 b, .int .i64 c] 32)
  have p0 := h.still A0
  have o0 := newO_orb w v a b c
  have HF := hid (Still.to (F := fun k => k = g) A0)
  clear A0
  obtain ⟨c0, c1, c2, c3, c4, c5, c6, c7, c8, c9, c10, c11, c12, cf⟩ := p0.cells
  obtain ⟨d0, d1, d2, d3, df⟩ := o0.cells
  go_enter Tryd.func63, Tryd.ntmps63
  go_wp2_with fail
  go_ret
  exact ⟨rfl, p0.sh _, HF.out.setCell _ _ (.inl rfl)⟩
theorem wshield2 (g : Nat) (m : Mv) (v a b c : Int) (ha : (a == 0) = false) (he : (m.en == 0) = true) (w : World) (h : Wb w g m) : Calls Tryd.prog 63 #[.pointer (some ⟨g, 0, none⟩), od v a b c] w fun e w' => e = .returned (.bool false) ∧ Dn g w w' m := by
  have A0 := Still.alloc w (.cells #[.int .i64 v, .int .i64 a, .int .i64 b, .int .i64 c] 32)
  have p0 := h.still A0
  have o0 := newO_orb w v a b c
  have HF := hid (Still.to (F := fun k => k = g) A0)
  clear A0
  obtain ⟨c0, c1, c2, c3, c4, c5, c6, c7, c8, c9, c10, c11, c12, cf⟩ := p0.cells
  obtain ⟨d0, d1, d2, d3, df⟩ := o0.cells
  go_enter Tryd.func63, Tryd.ntmps63
  go_wp2_with fail
  go_ret
  exact ⟨rfl, p0, HF.out⟩
theorem wspend_no (g : Nat) (m : Mv) (k : Int) (hk : m.en < k) (w : World) (h : Wb w g m) : Calls Tryd.prog 84 #[.pointer (some ⟨g, 0, none⟩), .int .i64 k] w fun e w' => e = .returned (.bool false) ∧ w' = w := by
  obtain ⟨c0, c1, c2, c3, c4, c5, c6, c7, c8, c9, c10, c11, c12, cf⟩ := h.cells
  go_enter Tryd.func84, Tryd.ntmps84
  go_wp2_with fail
  go_ret
  exact ⟨rfl, rfl⟩
theorem wspend_yes (g : Nat) (m : Mv) (k : Int) (h0 : 0 ≤ k) (h1 : m.en ≤ 100) (hk : ¬ m.en < k) (w : World) (h : Wb w g m) : Calls Tryd.prog 84 #[.pointer (some ⟨g, 0, none⟩), .int .i64 k] w fun e w' => e = .returned (.bool true) ∧ w' = w.setCell ⟨g, 8, none⟩ (.int .i64 (m.en - k)) := by
  obtain ⟨c0, c1, c2, c3, c4, c5, c6, c7, c8, c9, c10, c11, c12, cf⟩ := h.cells
  go_enter Tryd.func84, Tryd.ntmps84
  go_wp2_with fail
  go_ret
  exact ⟨rfl, rfl⟩
theorem wfire_cool (g : Nat) (m : Mv) (v a b c : Int) (hc : m.co > 0) (w : World) (h : Wb w g m) : Calls Tryd.prog 62 #[.pointer (some ⟨g, 0, none⟩), od v a b c] w fun e w' => e = .returned (.bool false) ∧ Dn g w w' m := by
  have A0 := Still.alloc w (.cells #[.int .i64 v, .int .i64 a, .int .i64 b, .int .i64 c] 32)
  have p0 := h.still A0
  have o0 := newO_orb w v a b c
  have HF := hid (Still.to (F := fun k => k = g) A0)
  clear A0
  obtain ⟨c0, c1, c2, c3, c4, c5, c6, c7, c8, c9, c10, c11, c12, cf⟩ := p0.cells
  obtain ⟨d0, d1, d2, d3, df⟩ := o0.cells
  go_enter Tryd.func62, Tryd.ntmps62
  go_wp2_with fail
  go_ret
  exact ⟨rfl, p0, HF.out⟩
theorem wfire_poor (g : Nat) (m : Mv) (v a b c : Int) (h1 : 0 ≤ a) (h2 : a ≤ 3) (hc : ¬ m.co > 0) (hp : m.en < 10 * a) (w : World) (h : Wb w g m) : Calls Tryd.prog 62 #[.pointer (some ⟨g, 0, none⟩), od v a b c] w fun e w' => e = .returned (.bool false) ∧ Dn g w w' m := by
  have A0 := Still.alloc w (.cells #[.int .i64 v, .int .i64 a, .int .i64 b, .int .i64 c] 32)
  have p0 := h.still A0
  have o0 := newO_orb w v a b c
  have HF := hid (Still.to (F := fun k => k = g) A0)
  clear A0
  obtain ⟨c0, c1, c2, c3, c4, c5, c6, c7, c8, c9, c10, c11, c12, cf⟩ := p0.cells
  obtain ⟨d0, d1, d2, d3, df⟩ := o0.cells
  go_enter Tryd.func62, Tryd.ntmps62
  go_wp2_with fail
  refine (wspend_no g m (10 * a) hp _ p0).mono ?_
  rintro e w2 ⟨he, hw⟩
  rw [he, hw]
  clear he hw w2
  go_wp2_with fail
  go_ret
  exact ⟨rfl, p0, HF.out⟩
theorem wfire_yes (g : Nat) (m : Mv) (v a b c : Int) (h1 : 0 ≤ a) (h2 : a ≤ 3) (hc : ¬ m.co > 0) (he : m.en ≤ 100) (hp : ¬ m.en < 10 * a) (w : World) (h : Wb w g m) : Calls Tryd.prog 62 #[.pointer (some ⟨g, 0, none⟩), od v a b c] w fun e w' => e = .returned (.bool true) ∧ Dn g w w' { m with en := m.en - 10 * a, co := 4 * a } := by
  have A0 := Still.alloc w (.cells #[.int .i64 v, .int .i64 a, .int .i64 b, .int .i64 c] 32)
  have p0 := h.still A0
  have o0 := newO_orb w v a b c
  have HF := hid (Still.to (F := fun k => k = g) A0)
  clear A0
  obtain ⟨c0, c1, c2, c3, c4, c5, c6, c7, c8, c9, c10, c11, c12, cf⟩ := p0.cells
  obtain ⟨d0, d1, d2, d3, df⟩ := o0.cells
  go_enter Tryd.func62, Tryd.ntmps62
  go_wp2_with fail
  refine (wspend_yes g m (10 * a) (by omega) he (by omega) _ p0).mono ?_
  rintro e w2 ⟨he, hw⟩
  rw [he, hw]
  clear he hw w2
  obtain ⟨k0, k1, c2, c3, c4, c5, c6, c7, c8, c9, c10, c11, c12, cf⟩ := (p0.en (m.en - 10 * a)).cells
  go_wp2_with fail
  go_ret
  exact ⟨rfl, (p0.en _).co _, (HF.out.setCell _ _ (.inl rfl)).setCell _ _ (.inl rfl)⟩
theorem wdash_poor (g : Nat) (m : Mv) (v a b c : Int) (hp : m.en < 20) (w : World) (h : Wb w g m) : Calls Tryd.prog 64 #[.pointer (some ⟨g, 0, none⟩), od v a b c] w fun e w' => e = .returned (.bool false) ∧ Dn g w w' m := by
  have A0 := Still.alloc w (.cells #[.int .i64 v, .int .i64 a, .int .i64 b, .int .i64 c] 32)
  have p0 := h.still A0
  have o0 := newO_orb w v a b c
  have HF := hid (Still.to (F := fun k => k = g) A0)
  clear A0
  obtain ⟨c0, c1, c2, c3, c4, c5, c6, c7, c8, c9, c10, c11, c12, cf⟩ := p0.cells
  obtain ⟨d0, d1, d2, d3, df⟩ := o0.cells
  go_enter Tryd.func64, Tryd.ntmps64
  go_wp2_with fail
  refine (wspend_no g m 20 hp _ p0).mono ?_
  rintro e w2 ⟨he, hw⟩
  rw [he, hw]
  clear he hw w2
  go_wp2_with fail
  go_ret
  exact ⟨rfl, p0, HF.out⟩
set_option maxHeartbeats 1000000 in
theorem wdash_yes (g : Nat) (m : Mv) (v a b c : Int) (he : m.en ≤ 100) (hp : ¬ m.en < 20) (x w : World) (ht : Tab x) (hs : Still x w) (hg : x.heap.size ≤ g) (h : Wb w g m) : Calls Tryd.prog 64 #[.pointer (some ⟨g, 0, none⟩), od v a b c] w fun e w' => e = .returned (.bool true) ∧ Dn g w w' { m with en := m.en - 20, sx := mulf (ux (dir a)) 1024, sy := mulf (uy (dir a)) 1024 } := by
  have A0 := Still.alloc w (.cells #[.int .i64 v, .int .i64 a, .int .i64 b, .int .i64 c] 32)
  have p0 := h.still A0
  have o0 := newO_orb w v a b c
  have HF := hid (Still.to (F := fun k => k = g) A0)
  have HX := hid (And.intro ht (And.intro (hs.trans A0) hg))
  have HU := hid (fun n w ht => unit_any n w ht)
  clear A0 ht hs hg
  have hne : w.heap.size ≠ g := by have := h.lt; omega
  obtain ⟨c0, c1, c2, c3, c4, c5, c6, c7, c8, c9, c10, c11, c12, cf⟩ := p0.cells
  obtain ⟨d0, d1, d2, d3, df⟩ := o0.cells
  go_enter Tryd.func64, Tryd.ntmps64
  go_wp2_with fail
  refine (wspend_yes g m 20 (by omega) he (by omega) _ p0).mono ?_
  rintro e w2 ⟨he, hw⟩
  rw [he, hw]
  clear he hw w2
  have p1 := p0.en (m.en - 20)
  have HF1 := hid (HF.out.setCell ⟨g, 8, none⟩ (.int .i64 (m.en - 20)) (.inl rfl))
  have HT := hid (HX.out.1.still (HX.out.2.1.setCell ⟨g, 8, none⟩ (.int .i64 (m.en - 20)) (.inr HX.out.2.2)))
  clear p0 o0 HF HX
  obtain ⟨k0, k1, k2, k3, k4, k5, k6, k7, k8, k9, k10, k11, k12, kf⟩ := p1.cells
  go_wp2_with fail
  refine (HU.out a _ HT.out).mono ?_
  rintro e w2 ⟨rfl, h2⟩
  have p2 := p1.still h2
  have HF2 := hid (Fr.trans HF1.out (Still.to (F := fun k => k = g) h2) fun _ _ e => e)
  clear h2 p1 HF1 HT HU c0 c1 c2 c3 c4 c5 c6 c7 c8 c9 c10 c11 c12 cf k0 k1 k2 k3 k4 k5 k6 k7 k8 k9 k10 k11 k12 kf d0 d1 d2 d3 df
  go_wp2_with fail
  refine (gscale_any _ _ _ _).mono ?_
  rintro e w3 ⟨rfl, h3⟩
  have p3 := p2.still h3
  have HF3 := hid (Fr.trans HF2.out (Still.to (F := fun k => k = g) h3) fun _ _ e => e)
  clear h3 p2 HF2
  obtain ⟨c0, c1, c2, c3, c4, c5, c6, c7, c8, c9, c10, c11, c12, cf⟩ := p3.cells
  go_wp2_with fail
  go_ret
  exact ⟨rfl, (p3.sx _).sy _, (HF3.out.setCell _ _ (.inl rfl)).setCell _ _ (.inl rfl)⟩
theorem wdrain (g : Nat) (m : Mv) (k : Int) (h1 : 0 ≤ m.en) (h2 : m.en ≤ 100) (h3 : 0 ≤ k) (h4 : k ≤ 100) (w : World) (h : Wb w g m) : Calls Tryd.prog 77 #[.pointer (some ⟨g, 0, none⟩), .int .i64 k] w fun e w' => e = .returned (.int .i64 (min k m.en)) ∧ Dn g w w' { m with en := m.en - min k m.en, sh := decide (min k m.en < m.en) } := by
  have HF := hid (Fr.refl (fun k => k = g) w)
  obtain ⟨c0, c1, c2, c3, c4, c5, c6, c7, c8, c9, c10, c11, c12, cf⟩ := h.cells
  go_enter Tryd.func77, Tryd.ntmps77
  go_wp2_with fail
  go_ret
  exact ⟨rfl, (h.en _).sh _, (HF.out.setCell _ _ (.inl rfl)).setCell _ _ (.inl rfl)⟩
end Go.Proofs.YtaalbkmdmocdeaaDoor
namespace Go.Proofs.YtaalbkmdmocdeaaDoor
open Go.RowKit
open Pu Gp Ap Vp Np
set_option maxRecDepth 100000

/-- each number lies where it may -/
def rB (m : Mv) : Bool := (bnd m.ax == m.ax && bnd m.ay == m.ay) && bw m.sx m.sy 1024 && bw m.px m.py 256 && amg m.fc 0 15 && amg m.hl 0 100 && amg m.en 0 100 && amg m.co 0 12 && amg m.ou 0 30 && amg m.sd 0 255
theorem rB_may (m : Mv) : (rB m && mD m) = mayB m := by
  rw [may_parts]
  unfold rB mA mB mC bw
  simp only [Bool.and_assoc]
set_option maxHeartbeats 4000000 in
theorem inranges_at (m : Mv) (b0 b1 b2 b3 b4 b5 b6 b7 b8 r : Bool) (HE : ∀ w, (binOp .eql 23 (pt (bnd m.ax) (bnd m.ay)) (pt m.ax m.ay)).run Tryd.prog w = .ok (.bool b0) w)
    (H1 : Hid (∀ w, Calls Tryd.prog 53 #[pt m.sx m.sy, .int .i64 1024] w fun e w' => e = .returned (.bool b1) ∧ Still w w'))
    (H2 : Hid (∀ w, Calls Tryd.prog 53 #[pt m.px m.py, .int .i64 256] w fun e w' => e = .returned (.bool b2) ∧ Still w w'))
    (H3 : Hid (∀ w, Calls Tryd.prog 40 #[.int .i64 m.fc, .int .i64 0, .int .i64 15] w fun e w' => e = .returned (.bool b3) ∧ w' = w))
    (H4 : Hid (∀ w, Calls Tryd.prog 40 #[.int .i64 m.hl, .int .i64 0, .int .i64 100] w fun e w' => e = .returned (.bool b4) ∧ w' = w))
    (H5 : Hid (∀ w, Calls Tryd.prog 40 #[.int .i64 m.en, .int .i64 0, .int .i64 100] w fun e w' => e = .returned (.bool b5) ∧ w' = w))
    (H6 : Hid (∀ w, Calls Tryd.prog 40 #[.int .i64 m.co, .int .i64 0, .int .i64 12] w fun e w' => e = .returned (.bool b6) ∧ w' = w))
    (H7 : Hid (∀ w, Calls Tryd.prog 40 #[.int .i64 m.ou, .int .i64 0, .int .i64 30] w fun e w' => e = .returned (.bool b7) ∧ w' = w))
    (H8 : Hid (∀ w, Calls Tryd.prog 40 #[.int .i64 m.sd, .int .i64 0, .int .i64 255] w fun e w' => e = .returned (.bool b8) ∧ w' = w))
    (h : (b0 = false ∧ r = false) ∨ (b0 = true ∧ b1 = false ∧ r = false) ∨ (b0 = true ∧ b1 = true ∧ b2 = false ∧ r = false) ∨ (b0 = true ∧ b1 = true ∧ b2 = true ∧ b3 = false ∧ r = false) ∨ (b0 = true ∧ b1 = true ∧ b2 = true ∧ b3 = true ∧ b4 = false ∧ r = false) ∨ (b0 = true ∧ b1 = true ∧ b2 = true ∧ b3 = true ∧ b4 = true ∧ b5 = false ∧ r = false) ∨ (b0 = true ∧ b1 = true ∧ b2 = true ∧ b3 = true ∧ b4 = true ∧ b5 = true ∧ b6 = false ∧ r = false) ∨ (b0 = true ∧ b1 = true ∧ b2 = true ∧ b3 = true ∧ b4 = true ∧ b5 = true ∧ b6 = true ∧ b7 = false ∧ r = false) ∨ (b0 = true ∧ b1 = true ∧ b2 = true ∧ b3 = true ∧ b4 = true ∧ b5 = true ∧ b6 = true ∧ b7 = true ∧ r = b8)) (w : World) :
    Calls Tryd.prog 28 #[mv m] w fun e w' => e = .returned (.bool r) ∧ Still w w' := by
  obtain ⟨W, eW⟩ : ∃ W, W = newW w m := ⟨_, rfl⟩
  have p : Wb W w.heap.size m := by rw [eW]; exact newW_wb w m
  have HS0 := hid (show Still w W by rw [eW]; exact Still.alloc w _)
  have HW := hid eW
  clear eW
  have G1 := guard_pt
  have HG := hid (fun w => gbound_any m.ax m.ay w)
  obtain ⟨c0, c1, c2, c3, c4, c5, c6, c7, c8, c9, c10, c11, c12, cf⟩ := p.cells
  have k0 := Cl.cell c0
  have k1 := Cl.cell c1
  have k2 := Cl.cell c2
  have k3 := Cl.cell c3
  have k4 := Cl.cell c4
  have k5 := Cl.cell c5
  have k6 := Cl.cell c6
  have k7 := Cl.cell c7
  have k8 := Cl.cell c8
  have k9 := Cl.cell c9
  have k10 := Cl.cell c10
  have k11 := Cl.cell c11
  have k12 := Cl.cell c12
  have hne := Aft.here W
  clear c0 c1 c2 c3 c4 c5 c6 c7 c8 c9 c10 c11 c12 cf p
  rcases h with ⟨rfl, rfl⟩ | ⟨rfl, rfl, rfl⟩ | ⟨rfl, rfl, rfl, rfl⟩ | ⟨rfl, rfl, rfl, rfl, rfl⟩ | ⟨rfl, rfl, rfl, rfl, rfl, rfl⟩ | ⟨rfl, rfl, rfl, rfl, rfl, rfl, rfl⟩ | ⟨rfl, rfl, rfl, rfl, rfl, rfl, rfl, rfl⟩ | ⟨rfl, rfl, rfl, rfl, rfl, rfl, rfl, rfl, rfl⟩ | ⟨rfl, rfl, rfl, rfl, rfl, rfl, rfl, rfl, rfl⟩
  all_goals
    go_enter Tryd.func28, Tryd.ntmps28
    go_wp2_with fail
    have e := HW.out
    simp only [newW] at e
    rw [← e]
    clear e HW
    refine region_all (by kernel_rfl) (by kernel_rfl) ?_
    repeat (go_big_quiet_step ((first | (go_at_call 24; exact Calls.cl (HG.out _)) | (go_at_call 53; with_reducible exact Calls.cl (H1.out _)) | (go_at_call 53; with_reducible exact Calls.cl (H2.out _)) | (go_at_call 40; with_reducible exact Calls.cl_same (H3.out _)) | (go_at_call 40; with_reducible exact Calls.cl_same (H4.out _)) | (go_at_call 40; with_reducible exact Calls.cl_same (H5.out _)) | (go_at_call 40; with_reducible exact Calls.cl_same (H6.out _)) | (go_at_call 40; with_reducible exact Calls.cl_same (H7.out _)) | (go_at_call 40; with_reducible exact Calls.cl_same (H8.out _)))))
    refine wpQuiet_nil ?_
    intro w1 hs
    go_wp2_with fail
    go_ret
    exact ⟨rfl, HS0.out.trans hs⟩
theorem inranges_any (m : Mv) (w : World) : Calls Tryd.prog 28 #[mv m] w fun e w' => e = .returned (.bool (rB m)) ∧ Still w w' := by
  refine inranges_at m (bnd m.ax == m.ax && bnd m.ay == m.ay) (bw m.sx m.sy 1024) (bw m.px m.py 256) (amg m.fc 0 15) (amg m.hl 0 100) (amg m.en 0 100) (amg m.co 0 12) (amg m.ou 0 30) (amg m.sd 0 255) (rB m) (eql_pt (bnd m.ax) (bnd m.ay) m.ax m.ay) (hid (both_any _ _ _ (by decide) (by decide))) (hid (both_any _ _ _ (by decide) (by decide))) (hid (within_any _ _ _)) (hid (within_any _ _ _)) (hid (within_any _ _ _)) (hid (within_any _ _ _)) (hid (within_any _ _ _)) (hid (within_any _ _ _)) ?_ w
  unfold rB
  generalize (bnd m.ax == m.ax && bnd m.ay == m.ay) = b0
  generalize bw m.sx m.sy 1024 = b1
  generalize bw m.px m.py 256 = b2
  generalize amg m.fc 0 15 = b3
  generalize amg m.hl 0 100 = b4
  generalize amg m.en 0 100 = b5
  generalize amg m.co 0 12 = b6
  generalize amg m.ou 0 30 = b7
  generalize amg m.sd 0 255 = b8
  revert b0 b1 b2 b3 b4 b5 b6 b7 b8
  decide
theorem suits_in (m : Mv) (h0 : m.ou = 0) (w : World) : Calls Tryd.prog 29 #[mv m] w fun e w' => e = .returned (.bool (mD m)) ∧ Still w w' := by
  have p := newW_wb w m
  have HS0 := hid (Still.alloc w (.cells (mcs m) 57))
  have HP := hid (fun w => inplay_any m w)
  obtain ⟨c0, c1, c2, c3, c4, c5, c6, c7, c8, c9, c10, c11, c12, cf⟩ := p.cells
  rw [show (m.ou == 0) = true by simpa using h0] at HP
  have HQ : Hid (mD m = decide (1 ≤ m.hl)) := hid (by unfold mD; rw [if_pos h0])
  clear h0
  go_enter Tryd.func29, Tryd.ntmps29
  go_wp2_with fail
  refine (HP.out _).mono ?_
  rintro e w1 ⟨rfl, h1⟩
  have p1 := p.still h1
  have HS1 := hid (HS0.out.trans h1)
  clear h1 p HS0 c0 c1 c2 c3 c4 c5 c6 c7 c8 c9 c10 c11 c12 cf
  obtain ⟨c0, c1, c2, c3, c4, c5, c6, c7, c8, c9, c10, c11, c12, cf⟩ := p1.cells
  go_wp2_with fail
  go_ret
  exact ⟨by rw [HQ.out]; rfl, HS1.out⟩
set_option maxHeartbeats 1000000 in
theorem suits_out (m : Mv) (h0 : ¬ m.ou = 0) (w : World) : Calls Tryd.prog 29 #[mv m] w fun e w' => e = .returned (.bool (mD m)) ∧ Still w w' := by
  have p := newW_wb w m
  have HS0 := hid (Still.alloc w (.cells (mcs m) 57))
  have HP := hid (fun w => inplay_any m w)
  have G2 := guard_mv
  obtain ⟨c0, c1, c2, c3, c4, c5, c6, c7, c8, c9, c10, c11, c12, cf⟩ := p.cells
  rw [show (m.ou == 0) = false by simpa using h0] at HP
  have HQ : Hid (mD m = eqM m (outN m)) := hid (by unfold mD; rw [if_neg h0])
  have E2 := eql_mv m (outN m)
  have HG := hid (fun w => gone_any m m.ou w)
  rw [show goneM m m.ou = outN m from rfl] at HG
  obtain ⟨q, eq⟩ : ∃ q, outN m = q := ⟨_, rfl⟩
  rw [eq] at HG E2 HQ
  obtain ⟨bb, ebb⟩ : ∃ b, eqM m q = b := ⟨_, rfl⟩
  rw [ebb] at E2 HQ
  clear h0 eq ebb
  go_enter Tryd.func29, Tryd.ntmps29
  go_wp2_with fail
  refine (HP.out _).mono ?_
  rintro e w1 ⟨rfl, h1⟩
  have p1 := p.still h1
  have HS1 := hid (HS0.out.trans h1)
  clear h1 p HS0 c0 c1 c2 c3 c4 c5 c6 c7 c8 c9 c10 c11 c12 cf
  obtain ⟨c0, c1, c2, c3, c4, c5, c6, c7, c8, c9, c10, c11, c12, cf⟩ := p1.cells
  have k0 := Cl.cell c0
  have k1 := Cl.cell c1
  have k2 := Cl.cell c2
  have k3 := Cl.cell c3
  have k4 := Cl.cell c4
  have k5 := Cl.cell c5
  have k6 := Cl.cell c6
  have k7 := Cl.cell c7
  have k8 := Cl.cell c8
  have k9 := Cl.cell c9
  have k10 := Cl.cell c10
  have k11 := Cl.cell c11
  have k12 := Cl.cell c12
  have hne := Aft.here w1
  clear c0 c1 c2 c3 c4 c5 c6 c7 c8 c9 c10 c11 c12 cf p1
  go_wp2_with fail
  refine region_all (by kernel_rfl) (by kernel_rfl) ?_
  repeat (go_big_quiet_step ((go_at_call 54; exact Calls.cl (HG.out _))))
  refine wpQuiet_nil ?_
  intro w2 hs
  go_wp2_with fail
  go_ret
  exact ⟨by rw [HQ.out]; rfl, HS1.out.trans hs⟩
theorem suits_any (m : Mv) (w : World) : Calls Tryd.prog 29 #[mv m] w fun e w' => e = .returned (.bool (mD m)) ∧ Still w w' := by
  by_cases h0 : m.ou = 0
  · exact suits_in m h0 w
  · exact suits_out m h0 w
theorem check8_any (m : Mv) (w : World) : Calls Tryd.prog 12 #[mv m] w fun e w' => e = .returned (.int .i64 (chkM m)) ∧ Still w w' := by
  have A0 := Still.alloc w (.cells (mcs m) 25)
  have A1 := Still.alloc (newM w m) (.cells (mcs m) 57)
  have p := newW_wb (newM w m) m
  rw [size_alloc] at p
  have p0 := newM_mb w m
  have HS0 := hid (A0.trans A1)
  clear A0 A1
  have H1 := hid (fun w => inranges_any m w)
  have H2 := hid (fun w => suits_any m w)
  have HC : Hid (chkM m = if (rB m && mD m) then 0 else 80) := hid (by rw [rB_may]; rfl)
  obtain ⟨a, ea⟩ : ∃ b, rB m = b := ⟨_, rfl⟩
  obtain ⟨b, eb⟩ : ∃ b, mD m = b := ⟨_, rfl⟩
  rw [ea] at H1
  rw [eb] at H2
  rw [ea, eb] at HC
  clear ea eb
  obtain ⟨d0, d1, d2, d3, d4, d5, d6, d7, d8, d9, d10, d11, d12, df⟩ := p0.cells
  obtain ⟨c0, c1, c2, c3, c4, c5, c6, c7, c8, c9, c10, c11, c12, cf⟩ := p.cells
  go_enter Tryd.func12, Tryd.ntmps12
  go_wp2_with fail
  refine (H1.out _).mono ?_
  rintro e w1 ⟨rfl, h1⟩
  have p1 := p.still h1
  have HS1 := hid (HS0.out.trans h1)
  clear h1 p HS0 p0 d0 d1 d2 d3 d4 d5 d6 d7 d8 d9 d10 d11 d12 df c0 c1 c2 c3 c4 c5 c6 c7 c8 c9 c10 c11 c12 cf
  obtain ⟨c0, c1, c2, c3, c4, c5, c6, c7, c8, c9, c10, c11, c12, cf⟩ := p1.cells
  cases a with
  | false =>
    go_wp2_with fail
    go_ret
    exact ⟨by rw [HC.out]; rfl, HS1.out⟩
  | true =>
    go_wp2_with fail
    refine (H2.out _).mono ?_
    rintro e w2 ⟨rfl, h2⟩
    have HS2 := hid (HS1.out.trans h2)
    clear h2 HS1 p1 c0 c1 c2 c3 c4 c5 c6 c7 c8 c9 c10 c11 c12 cf
    cases b with
    | false =>
      go_wp2_with fail
      go_ret
      exact ⟨by rw [HC.out]; rfl, HS2.out⟩
    | true =>
      go_wp2_with fail
      go_ret
      exact ⟨by rw [HC.out]; rfl, HS2.out⟩
end Go.Proofs.YtaalbkmdmocdeaaDoor
namespace Go.Proofs.YtaalbkmdmocdeaaDoor
open Go.RowKit Go.Shelf
open Pu Gp Ap Vp Np
set_option maxRecDepth 100000
open Go.ChangeMaps (setBlock)

/-- a new key is laid into the newest block -/
theorem upd_new8 (w : World) (es : Array MapEntry) (c : Nat) (x : Int) (v : Value) (hf : Instr.findNow (.int .i64) (.int .i64 x) es.toList 0 = some none) :
    (Instr.mapUpdate 61 (.map (some w.heap.size)) (.int .i64 x) v).run Tryd.prog (w.alloc (.map es c)) = .ok () (w.alloc (.map (es.push ⟨.int .i64 x, v, c⟩) (c + 1))) := by
  have hb : (w.alloc (.map es c)).heap[w.heap.size]? = some (.map es c) := heap_alloc_new w _
  have e := alloc_set w (.map es c) (.map (es.push ⟨.int .i64 x, v, c⟩) (c + 1))
  have k : (Instr.mapUpdate 61 (.map (some w.heap.size)) (.int .i64 x) v).run Tryd.prog (w.alloc (.map es c)) = .ok () (setBlock (w.alloc (.map es c)) w.heap.size (.map (es.push ⟨.int .i64 x, v, c⟩) (c + 1))) := by
    simp [Instr.mapUpdate, run_underlying Tryd.underlying61, MapKept.run_getObj_map hb, chk_key, find_key x _ _ hf, MapKept.run_setObj_map _ hb, Result.andThen, setBlock]
  rw [k, e]
def dsE : Array MapEntry := #[⟨.int .i64 1, mth 59, 0⟩, ⟨.int .i64 2, mth 60, 1⟩, ⟨.int .i64 3, mth 61, 2⟩, ⟨.int .i64 4, mth 62, 3⟩, ⟨.int .i64 5, mth 63, 4⟩, ⟨.int .i64 6, mth 64, 5⟩, ⟨.int .i64 7, mth 65, 6⟩]
/-- block b holds the deeds -/
def Dsb (w : World) (b : Nat) : Prop := w.heap[b]? = some (.map dsE 7)
theorem deeds_any (w : World) : Calls Tryd.prog 33 #[] w fun e w' => ∃ b, e = .returned (.map (some b)) ∧ w.heap.size ≤ b ∧ Dsb w' b ∧ Still w w' := by
  have m0 := run_makeMap (P := Tryd.prog) 61 w
  have u1 := upd_new8 w #[] 0 1 (mth 59) (by kernel_rfl)
  rw [show (#[] : Array MapEntry).push ⟨.int .i64 1, mth 59, 0⟩ = (#[⟨.int .i64 1, mth 59, 0⟩] : Array MapEntry) from rfl] at u1
  have u2 := upd_new8 w #[⟨.int .i64 1, mth 59, 0⟩] 1 2 (mth 60) (by kernel_rfl)
  rw [show #[⟨.int .i64 1, mth 59, 0⟩].push ⟨.int .i64 2, mth 60, 1⟩ = (#[⟨.int .i64 1, mth 59, 0⟩, ⟨.int .i64 2, mth 60, 1⟩] : Array MapEntry) from rfl] at u2
  have u3 := upd_new8 w #[⟨.int .i64 1, mth 59, 0⟩, ⟨.int .i64 2, mth 60, 1⟩] 2 3 (mth 61) (by kernel_rfl)
  rw [show #[⟨.int .i64 1, mth 59, 0⟩, ⟨.int .i64 2, mth 60, 1⟩].push ⟨.int .i64 3, mth 61, 2⟩ = (#[⟨.int .i64 1, mth 59, 0⟩, ⟨.int .i64 2, mth 60, 1⟩, ⟨.int .i64 3, mth 61, 2⟩] : Array MapEntry) from rfl] at u3
  have u4 := upd_new8 w #[⟨.int .i64 1, mth 59, 0⟩, ⟨.int .i64 2, mth 60, 1⟩, ⟨.int .i64 3, mth 61, 2⟩] 3 4 (mth 62) (by kernel_rfl)
  rw [show #[⟨.int .i64 1, mth 59, 0⟩, ⟨.int .i64 2, mth 60, 1⟩, ⟨.int .i64 3, mth 61, 2⟩].push ⟨.int .i64 4, mth 62, 3⟩ = (#[⟨.int .i64 1, mth 59, 0⟩, ⟨.int .i64 2, mth 60, 1⟩, ⟨.int .i64 3, mth 61, 2⟩, ⟨.int .i64 4, mth 62, 3⟩] : Array MapEntry) from rfl] at u4
  have u5 := upd_new8 w #[⟨.int .i64 1, mth 59, 0⟩, ⟨.int .i64 2, mth 60, 1⟩, ⟨.int .i64 3, mth 61, 2⟩, ⟨.int .i64 4, mth 62, 3⟩] 4 5 (mth 63) (by kernel_rfl)
  rw [show #[⟨.int .i64 1, mth 59, 0⟩, ⟨.int .i64 2, mth 60, 1⟩, ⟨.int .i64 3, mth 61, 2⟩, ⟨.int .i64 4, mth 62, 3⟩].push ⟨.int .i64 5, mth 63, 4⟩ = (#[⟨.int .i64 1, mth 59, 0⟩, ⟨.int .i64 2, mth 60, 1⟩, ⟨.int .i64 3, mth 61, 2⟩, ⟨.int .i64 4, mth 62, 3⟩, ⟨.int .i64 5, mth 63, 4⟩] : Array MapEntry) from rfl] at u5
  have u6 := upd_new8 w #[⟨.int .i64 1, mth 59, 0⟩, ⟨.int .i64 2, mth 60, 1⟩, ⟨.int .i64 3, mth 61, 2⟩, ⟨.int .i64 4, mth 62, 3⟩, ⟨.int .i64 5, mth 63, 4⟩] 5 6 (mth 64) (by kernel_rfl)
  rw [show #[⟨.int .i64 1, mth 59, 0⟩, ⟨.int .i64 2, mth 60, 1⟩, ⟨.int .i64 3, mth 61, 2⟩, ⟨.int .i64 4, mth 62, 3⟩, ⟨.int .i64 5, mth 63, 4⟩].push ⟨.int .i64 6, mth 64, 5⟩ = (#[⟨.int .i64 1, mth 59, 0⟩, ⟨.int .i64 2, mth 60, 1⟩, ⟨.int .i64 3, mth 61, 2⟩, ⟨.int .i64 4, mth 62, 3⟩, ⟨.int .i64 5, mth 63, 4⟩, ⟨.int .i64 6, mth 64, 5⟩] : Array MapEntry) from rfl] at u6
  have u7 := upd_new8 w #[⟨.int .i64 1, mth 59, 0⟩, ⟨.int .i64 2, mth 60, 1⟩, ⟨.int .i64 3, mth 61, 2⟩, ⟨.int .i64 4, mth 62, 3⟩, ⟨.int .i64 5, mth 63, 4⟩, ⟨.int .i64 6, mth 64, 5⟩] 6 7 (mth 65) (by kernel_rfl)
  rw [show #[⟨.int .i64 1, mth 59, 0⟩, ⟨.int .i64 2, mth 60, 1⟩, ⟨.int .i64 3, mth 61, 2⟩, ⟨.int .i64 4, mth 62, 3⟩, ⟨.int .i64 5, mth 63, 4⟩, ⟨.int .i64 6, mth 64, 5⟩].push ⟨.int .i64 7, mth 65, 6⟩ = (#[⟨.int .i64 1, mth 59, 0⟩, ⟨.int .i64 2, mth 60, 1⟩, ⟨.int .i64 3, mth 61, 2⟩, ⟨.int .i64 4, mth 62, 3⟩, ⟨.int .i64 5, mth 63, 4⟩, ⟨.int .i64 6, mth 64, 5⟩, ⟨.int .i64 7, mth 65, 6⟩] : Array MapEntry) from rfl] at u7
  go_enter Tryd.func33, Tryd.ntmps33
  go_wp2_with fail
  go_ret
  exact ⟨_, rfl, Nat.le_refl _, heap_alloc_new w _, Still.alloc w _⟩
theorem look_ds {w : World} {b : Nat} (h : Dsb w b) (v : Int) (k : Nat) (z : Value) (hf : Instr.findNow (.int .i64) (.int .i64 v) dsE.toList 0 = some (some (k, z))) :
    (Instr.lookup 61 (.map (some b)) (.int .i64 v) false).run Tryd.prog w = .ok z w := by
  have h' : w.heap[b]? = some (.map dsE 7) := h
  simp [Instr.lookup, run_underlying Tryd.underlying61, MapKept.run_getObj_map h', chk_key, find_key v _ _ hf, Result.andThen]
/-- what an order that may be makes of a mover in play, and whether it is done -/
def dnM (m : Mv) (v a b : Int) : Mv := if doneA m v a then deed m v a b else m
/-- the method of a verb: how it is found, and what it does -/
structure Mth (x : World) (g : Nat) (m : Mv) (v a b c : Int) (f : Nat) : Prop where
  look : ∀ w bl, Dsb w bl → (Instr.lookup 61 (.map (some bl)) (.int .i64 v) false).run Tryd.prog w = .ok (mth f) w
  enter : ∀ args w, (callFunc f args).run Tryd.prog w = .ok (.enter f args) w
  does : ∀ w, Still x w → Wb w g m → Calls Tryd.prog f #[.pointer (some ⟨g, 0, none⟩), od v a b c] w fun e w' => e = .returned (.bool (doneA m v a)) ∧ Dn g w w' (dnM m v a b)
theorem okO_in {v a b c : Int} (h : chkO v a b c = 0) : isV v = true ∧ okO v a b c = true := by
  unfold chkO at h
  cases hv : isV v with
  | false => rw [hv] at h; simp at h
  | true =>
    cases ho : okO v a b c with
    | false => rw [hv, ho] at h; simp at h
    | true => exact ⟨rfl, rfl⟩
theorem meth8g (x : World) (m : Mv) (v a b c : Int) (ht : Tab x) (h0 : m.ou = 0) (he0 : 0 ≤ m.en) (he : m.en ≤ 100) (hc : 0 ≤ m.co) (ho : chkO v a b c = 0) : ∃ f, ∀ g, x.heap.size ≤ g → Mth x g m v a b c f := by
  obtain ⟨hv, hk⟩ := okO_in ho
  have hz : (m.ou == 0) = true := by simpa using h0
  rcases verbs hv with rfl | rfl | rfl | rfl | rfl | rfl | rfl
  · refine ⟨59, fun g hx => ⟨fun w bl h => look_ds h 1 0 _ rfl, enters_of Tryd.func59 (by kernel_rfl) rfl, fun w hs hw => ?_⟩⟩
    have hr : -8 ≤ a ∧ a ≤ 8 ∧ -8 ≤ b ∧ b ≤ 8 := by
      unfold okO at hk
      simp [lo, hi, loL, hiL] at hk
      omega
    have e : dnM m 1 a b = { m with px := 32 * a, py := 32 * b } := by unfold dnM doneA deed; rw [hz]; rfl
    have d : doneA m 1 a = true := by unfold doneA; rw [hz]; rfl
    rw [e, d]
    exact wsteer g m 1 a b c hr.1 hr.2.1 hr.2.2.1 hr.2.2.2 w hw
  · refine ⟨60, fun g hx => ⟨fun w bl h => look_ds h 2 1 _ rfl, enters_of Tryd.func60 (by kernel_rfl) rfl, fun w hs hw => ?_⟩⟩
    have e : dnM m 2 a b = { m with px := 0, py := 0 } := by unfold dnM doneA deed; rw [hz]; rfl
    have d : doneA m 2 a = true := by unfold doneA; rw [hz]; rfl
    rw [e, d]
    exact whalt g m 2 a b c w hw
  · refine ⟨61, fun g hx => ⟨fun w bl h => look_ds h 3 2 _ rfl, enters_of Tryd.func61 (by kernel_rfl) rfl, fun w hs hw => ?_⟩⟩
    have e : dnM m 3 a b = { m with fc := a } := by unfold dnM doneA deed; rw [hz]; rfl
    have d : doneA m 3 a = true := by unfold doneA; rw [hz]; rfl
    rw [e, d]
    exact waim g m 3 a b c w hw
  · refine ⟨62, fun g hx => ⟨fun w bl h => look_ds h 4 3 _ rfl, enters_of Tryd.func62 (by kernel_rfl) rfl, fun w hs hw => ?_⟩⟩
    have hr : 1 ≤ a ∧ a ≤ 3 := by
      unfold okO at hk
      simp [lo, hi, loL, hiL] at hk
      omega
    have d : doneA m 4 a = ((m.co == 0) && decide (10 * a ≤ m.en)) := by unfold doneA; rw [hz]; rfl
    by_cases hq : m.co > 0
    · have d' : doneA m 4 a = false := by rw [d]; simp; omega
      have e : dnM m 4 a b = m := by unfold dnM; rw [d']; rfl
      rw [e, d']
      exact wfire_cool g m 4 a b c hq w hw
    · by_cases hp : m.en < 10 * a
      · have d' : doneA m 4 a = false := by rw [d]; simp; omega
        have e : dnM m 4 a b = m := by unfold dnM; rw [d']; rfl
        rw [e, d']
        exact wfire_poor g m 4 a b c (by omega) hr.2 hq hp w hw
      · have d' : doneA m 4 a = true := by rw [d]; simp; omega
        have e : dnM m 4 a b = { m with en := m.en - 10 * a, co := 4 * a } := by unfold dnM; rw [d']; rfl
        rw [e, d']
        exact wfire_yes g m 4 a b c (by omega) hr.2 hq he hp w hw
  · refine ⟨63, fun g hx => ⟨fun w bl h => look_ds h 5 4 _ rfl, enters_of Tryd.func63 (by kernel_rfl) rfl, fun w hs hw => ?_⟩⟩
    have hr : 0 ≤ a ∧ a ≤ 1 := by
      unfold okO at hk
      simp [lo, hi, loL, hiL] at hk
      omega
    have d : doneA m 5 a = ((a == 0) || decide (0 < m.en)) := by unfold doneA; rw [hz]; rfl
    by_cases ha : a = 0
    · subst ha
      have d' : doneA m 5 0 = true := by rw [d]; rfl
      have e : dnM m 5 0 b = { m with sh := false } := by unfold dnM; rw [d']; rfl
      rw [e, d']
      exact wshield0 g m 5 0 b c rfl w hw
    · obtain rfl : a = 1 := by omega
      by_cases hq : m.en = 0
      · have d' : doneA m 5 1 = false := by rw [d, hq]; rfl
        have e : dnM m 5 1 b = m := by unfold dnM; rw [d']; rfl
        rw [e, d']
        exact wshield2 g m 5 1 b c rfl (by simpa using hq) w hw
      · have d' : doneA m 5 1 = true := by rw [d]; simp; omega
        have e : dnM m 5 1 b = { m with sh := true } := by unfold dnM; rw [d']; rfl
        rw [e, d']
        exact wshield1 g m 5 1 b c rfl (by simpa using hq) w hw
  · refine ⟨64, fun g hx => ⟨fun w bl h => look_ds h 6 5 _ rfl, enters_of Tryd.func64 (by kernel_rfl) rfl, fun w hs hw => ?_⟩⟩
    have d : doneA m 6 a = decide (20 ≤ m.en) := by unfold doneA; rw [hz]; rfl
    by_cases hp : m.en < 20
    · have d' : doneA m 6 a = false := by rw [d]; simp; omega
      have e : dnM m 6 a b = m := by unfold dnM; rw [d']; rfl
      rw [e, d']
      exact wdash_poor g m 6 a b c hp w hw
    · have d' : doneA m 6 a = true := by rw [d]; simp; omega
      have e : dnM m 6 a b = { m with en := m.en - 20, sx := mulf (ux (dir a)) 1024, sy := mulf (uy (dir a)) 1024 } := by unfold dnM; rw [d']; rfl
      rw [e, d']
      exact wdash_yes g m 6 a b c he hp x w ht hs hx hw
  · refine ⟨65, fun g hx => ⟨fun w bl h => look_ds h 7 6 _ rfl, enters_of Tryd.func65 (by kernel_rfl) rfl, fun w hs hw => ?_⟩⟩
    have e : dnM m 7 a b = { m with sd := a } := by unfold dnM doneA deed; rw [hz]; rfl
    have d : doneA m 7 a = true := by unfold doneA; rw [hz]; rfl
    rw [e, d]
    exact wsay g m 7 a b c w hw
end Go.Proofs.YtaalbkmdmocdeaaDoor
