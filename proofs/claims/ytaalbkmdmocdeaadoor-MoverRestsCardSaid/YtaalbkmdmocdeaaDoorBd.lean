/- Points: their blocks; contracts of the functions on points, of the program and of the document's answer. -/
import Derived.Test.YtaalbkmdmocdeaaDoorRt
import Derived.Test.YtaalbkmdmocdeaaDoorQt
import Derived.Deep.QuietTactic
import Derived.BigQuiet
import Derived.Deep.RegionWith
import Derived.BigRegion
import Derived.Laws.ResultCell
import Derived.KernelRfl
namespace Go.Proofs.YtaalbkmdmocdeaaDoor
open Go.RowKit
open Pu Gp

/-- a point as a value -/
abbrev pt (x y : Int) : Value := .agg #[.int .i64 x, .int .i64 y]
/-- a box as a value -/
abbrev bx (a b c d : Int) : Value := .agg #[.int .i64 a, .int .i64 b, .int .i64 c, .int .i64 d]

theorem load_pt (w : World) (g : Nat) (x y : Int) (c0 : w.cell? ⟨g, 0, none⟩ = some (.int .i64 x)) (c1 : w.cell? ⟨g, 1, none⟩ = some (.int .i64 y)) :
    (loadVar 23 ⟨g, 0, none⟩).run Tryd.prog w = .ok (pt x y) w := by
  go_simp
theorem load_bx (w : World) (g : Nat) (x y z u : Int) (c0 : w.cell? ⟨g, 0, none⟩ = some (.int .i64 x)) (c1 : w.cell? ⟨g, 1, none⟩ = some (.int .i64 y)) (c2 : w.cell? ⟨g, 2, none⟩ = some (.int .i64 z)) (c3 : w.cell? ⟨g, 3, none⟩ = some (.int .i64 u)) :
    (loadVar 50 ⟨g, 0, none⟩).run Tryd.prog w = .ok (bx x y z u) w := by
  go_simp
theorem res_pt {fn : Func} {p : Tmp} (h : fn.results = #[.cell p 23]) (tmps : Array Value) (w : World) (g : Nat) (x y : Int) (hp : tmps.getD p undef = .pointer (some ⟨g, 0, none⟩))
    (c0 : w.cell? ⟨g, 0, none⟩ = some (.int .i64 x)) (c1 : w.cell? ⟨g, 1, none⟩ = some (.int .i64 y)) : (results fn tmps).run Tryd.prog w = .ok (pt x y) w := by
  have hp' : tmps[p]?.getD undef = .pointer (some ⟨g, 0, none⟩) := by simpa using hp
  simp [results, h, hp', asAddr, load_pt w g x y c0 c1]
theorem res_bx {fn : Func} {p : Tmp} (h : fn.results = #[.cell p 50]) (tmps : Array Value) (w : World) (g : Nat) (x y z u : Int) (hp : tmps.getD p undef = .pointer (some ⟨g, 0, none⟩))
    (c0 : w.cell? ⟨g, 0, none⟩ = some (.int .i64 x)) (c1 : w.cell? ⟨g, 1, none⟩ = some (.int .i64 y)) (c2 : w.cell? ⟨g, 2, none⟩ = some (.int .i64 z)) (c3 : w.cell? ⟨g, 3, none⟩ = some (.int .i64 u)) :
    (results fn tmps).run Tryd.prog w = .ok (bx x y z u) w := by
  have hp' : tmps[p]?.getD undef = .pointer (some ⟨g, 0, none⟩) := by simpa using hp
  simp [results, h, hp', asAddr, load_bx w g x y z u c0 c1 c2 c3]
theorem res_bxb {fn : Func} {p q : Tmp} (h : fn.results = #[.cell p 50, .tmp q]) (tmps : Array Value) (w : World) (g : Nat) (x y z u : Int) (t : Value) (hp : tmps.getD p undef = .pointer (some ⟨g, 0, none⟩)) (hq : tmps.getD q undef = t)
    (c0 : w.cell? ⟨g, 0, none⟩ = some (.int .i64 x)) (c1 : w.cell? ⟨g, 1, none⟩ = some (.int .i64 y)) (c2 : w.cell? ⟨g, 2, none⟩ = some (.int .i64 z)) (c3 : w.cell? ⟨g, 3, none⟩ = some (.int .i64 u)) :
    (results fn tmps).run Tryd.prog w = .ok (.tuple #[bx x y z u, t]) w := by
  rw [results_cell_tmp h, hp, hq]
  simp [asAddr, Result.andThen, load_bx w g x y z u c0 c1 c2 c3]

/-- block b holds a point, or a box -/
def Pb (w : World) (b : Nat) (x y : Int) : Prop := w.heap[b]? = some (.cells #[.int .i64 x, .int .i64 y] 23 (0, 0))
def Bb (w : World) (b : Nat) (x y z u : Int) : Prop := w.heap[b]? = some (.cells #[.int .i64 x, .int .i64 y, .int .i64 z, .int .i64 u] 50 (0, 0))
theorem Pb.still {w w' : World} {b : Nat} {x y : Int} (h : Pb w b x y) (hs : Still w w') : Pb w' b x y := hs.kept_still h
theorem Bb.still {w w' : World} {b : Nat} {x y z u : Int} (h : Bb w b x y z u) (hs : Still w w') : Bb w' b x y z u := hs.kept_still h
theorem Pb.cells {w : World} {b : Nat} {x y : Int} (h : Pb w b x y) :
    w.cell? ⟨b, 0, none⟩ = some (.int .i64 x) ∧ w.cell? ⟨b, 1, none⟩ = some (.int .i64 y) ∧ ∀ o, w.frozen? ⟨b, o, none⟩ = false := by
  refine ⟨?_, ?_, fun o => frozen_of_row w b o _ _ h⟩ <;> (rw [cell_of_row _ _ _ _ _ _ h]; rfl)
theorem Bb.cells {w : World} {b : Nat} {x y z u : Int} (h : Bb w b x y z u) :
    w.cell? ⟨b, 0, none⟩ = some (.int .i64 x) ∧ w.cell? ⟨b, 1, none⟩ = some (.int .i64 y) ∧ w.cell? ⟨b, 2, none⟩ = some (.int .i64 z) ∧ w.cell? ⟨b, 3, none⟩ = some (.int .i64 u) ∧ ∀ o, w.frozen? ⟨b, o, none⟩ = false := by
  refine ⟨?_, ?_, ?_, ?_, fun o => frozen_of_row w b o _ _ h⟩ <;> (rw [cell_of_row _ _ _ _ _ _ h]; rfl)
/-- a point, a box that is stored -/
abbrev setP (w : World) (b : Nat) (x y : Int) : World := (w.setCell ⟨b, 0, none⟩ (.int .i64 x)).setCell ⟨b, 1, none⟩ (.int .i64 y)
abbrev setB (w : World) (b : Nat) (x y z u : Int) : World := (((w.setCell ⟨b, 0, none⟩ (.int .i64 x)).setCell ⟨b, 1, none⟩ (.int .i64 y)).setCell ⟨b, 2, none⟩ (.int .i64 z)).setCell ⟨b, 3, none⟩ (.int .i64 u)
theorem Pb.set {w : World} {b : Nat} {x y : Int} (h : Pb w b x y) (x' y' : Int) : Pb (setP w b x' y') b x' y' := by
  unfold Pb
  have h1 := heap_setCell_same w b 0 _ _ (.int .i64 x') h
  have h2 := heap_setCell_same _ b 1 _ _ (.int .i64 y') h1
  rw [h2]; rfl
theorem Bb.set {w : World} {b : Nat} {x y z u : Int} (h : Bb w b x y z u) (x' y' z' u' : Int) : Bb (setB w b x' y' z' u') b x' y' z' u' := by
  unfold Bb
  have h1 := heap_setCell_same w b 0 _ _ (.int .i64 x') h
  have h2 := heap_setCell_same _ b 1 _ _ (.int .i64 y') h1
  have h3 := heap_setCell_same _ b 2 _ _ (.int .i64 z') h2
  have h4 := heap_setCell_same _ b 3 _ _ (.int .i64 u') h3
  rw [h4]; rfl
theorem setP_fr {F : Nat → Prop} {a w : World} (h : Fr F a w) (b : Nat) (x y : Int) (hb : F b ∨ a.heap.size ≤ b) : Fr F a (setP w b x y) := (h.setCell _ _ hb).setCell _ _ hb
theorem setB_fr {F : Nat → Prop} {a w : World} (h : Fr F a w) (b : Nat) (x y z u : Int) (hb : F b ∨ a.heap.size ≤ b) : Fr F a (setB w b x y z u) := (((h.setCell _ _ hb).setCell _ _ hb).setCell _ _ hb).setCell _ _ hb
theorem Pb.res {fn : Func} {p : Tmp} {w : World} {g : Nat} {x y : Int} (hb : Pb w g x y) (h : fn.results = #[.cell p 23]) (tmps : Array Value) (hp : tmps.getD p undef = .pointer (some ⟨g, 0, none⟩)) :
    (results fn tmps).run Tryd.prog w = .ok (pt x y) w := res_pt h tmps w g x y hp hb.cells.1 hb.cells.2.1
theorem Bb.res {fn : Func} {p : Tmp} {w : World} {g : Nat} {x y z u : Int} (hb : Bb w g x y z u) (h : fn.results = #[.cell p 50]) (tmps : Array Value) (hp : tmps.getD p undef = .pointer (some ⟨g, 0, none⟩)) :
    (results fn tmps).run Tryd.prog w = .ok (bx x y z u) w := res_bx h tmps w g x y z u hp hb.cells.1 hb.cells.2.1 hb.cells.2.2.1 hb.cells.2.2.2.1
theorem Bb.resb {fn : Func} {p q : Tmp} {w : World} {g : Nat} {x y z u : Int} (hb : Bb w g x y z u) (h : fn.results = #[.cell p 50, .tmp q]) (tmps : Array Value) (t : Value) (hp : tmps.getD p undef = .pointer (some ⟨g, 0, none⟩)) (hq : tmps.getD q undef = t) :
    (results fn tmps).run Tryd.prog w = .ok (.tuple #[bx x y z u, t]) w := res_bxb h tmps w g x y z u t hp hq hb.cells.1 hb.cells.2.1 hb.cells.2.2.1 hb.cells.2.2.2.1
/-- a new block with a point, with a box -/
abbrev newP (w : World) (x y : Int) : World := w.alloc (.cells #[.int .i64 x, .int .i64 y] 23)
abbrev newB (w : World) (x y z u : Int) : World := w.alloc (.cells #[.int .i64 x, .int .i64 y, .int .i64 z, .int .i64 u] 50)
theorem newP_pb (w : World) (x y : Int) : Pb (newP w x y) w.heap.size x y := heap_alloc_new w _
theorem newB_bb (w : World) (x y z u : Int) : Bb (newB w x y z u) w.heap.size x y z u := heap_alloc_new w _
theorem size_alloc (w : World) (o : Obj) : (w.alloc o).heap.size = w.heap.size + 1 := by simp
theorem gbound_any (x y : Int) (w : World) : Calls Tryd.prog 24 #[pt x y] w fun e w' => e = .returned (pt (bnd x) (bnd y)) ∧ Still w w' := by
  obtain ⟨W, eW⟩ : ∃ W, W = (newP (newP w x y) 0 0) := ⟨_, rfl⟩
  have p0 : Pb W (w.heap.size) x y := by rw [eW]; have h := newP_pb w x y; exact (h.still (Still.alloc _ _))
  have c00 := Cl.cell p0.cells.1
  have c01 := Cl.cell p0.cells.2.1
  clear p0
  have r : Pb W (w.heap.size + 1) 0 0 := by rw [eW]; have h := newP_pb (newP w x y) 0 0; simp only [size_alloc] at h; exact h
  have HF := hid (show Still w W by rw [eW]; exact ((Still.alloc w _).trans (Still.alloc _ _)))
  have HW := hid eW
  have hne := Aft.here W
  clear eW
  have HB := hid (show w.heap.size ≤ w.heap.size + 1 by omega)
  go_enter Tryd.func24, Tryd.ntmps24
  go_wp2_with fail
  have e := HW.out
  simp only [newP] at e
  rw [← e]
  clear e HW
  refine region_rest 6 (by kernel_rfl) (by kernel_rfl) ?_
  simp only [List.take_succ_cons, List.take_zero, List.drop_succ_cons, List.drop_zero]
  repeat (go_big_quiet_step ((go_at_call 50; exact Calls.cl_same (bound_any _ _))))
  refine wpQuiet_nil ?_
  intro w1 hs
  clear hne c00 c01
  have q := r.still hs
  obtain ⟨d0, d1, df⟩ := q.cells
  go_wp2_with fail
  (try simp only [Exit.inBlock, Exit.then])
  exact bodyPost_ret ((q.set _ _).res rfl _ rfl) rfl ⟨rfl, setP_fr (HF.out.trans hs) _ _ _ (.inr HB.out)⟩
theorem rgbound_any (x y : Int) (w : World) : Calls Tryd.prog 26 #[pt x y] w fun e w' => e = .returned (pt (bnd x) (bnd y)) ∧ Still w w' := by
  obtain ⟨W, eW⟩ : ∃ W, W = (newP (newP w x y) 0 0) := ⟨_, rfl⟩
  have p0 : Pb W (w.heap.size) x y := by rw [eW]; have h := newP_pb w x y; exact (h.still (Still.alloc _ _))
  have c00 := Cl.cell p0.cells.1
  have c01 := Cl.cell p0.cells.2.1
  clear p0
  have r : Pb W (w.heap.size + 1) 0 0 := by rw [eW]; have h := newP_pb (newP w x y) 0 0; simp only [size_alloc] at h; exact h
  have HF := hid (show Still w W by rw [eW]; exact ((Still.alloc w _).trans (Still.alloc _ _)))
  have HW := hid eW
  have hne := Aft.here W
  clear eW
  have HB := hid (show w.heap.size ≤ w.heap.size + 1 by omega)
  go_enter Tryd.func26, Tryd.ntmps26
  go_wp2_with fail
  have e := HW.out
  simp only [newP] at e
  rw [← e]
  clear e HW
  refine region_rest 6 (by kernel_rfl) (by kernel_rfl) ?_
  simp only [List.take_succ_cons, List.take_zero, List.drop_succ_cons, List.drop_zero]
  repeat (go_big_quiet_step ((go_at_call 52; exact Calls.cl_same (rbound_any _ _))))
  refine wpQuiet_nil ?_
  intro w1 hs
  clear hne c00 c01
  have q := r.still hs
  obtain ⟨d0, d1, df⟩ := q.cells
  go_wp2_with fail
  (try simp only [Exit.inBlock, Exit.then])
  exact bodyPost_ret ((q.set _ _).res rfl _ rfl) rfl ⟨rfl, setP_fr (HF.out.trans hs) _ _ _ (.inr HB.out)⟩
theorem gadd_any (x y z u : Int) (w : World) : Calls Tryd.prog 49 #[pt x y, pt z u] w fun e w' => e = .returned (pt (addf x z) (addf y u)) ∧ Still w w' := by
  obtain ⟨W, eW⟩ : ∃ W, W = (newP (newP (newP w x y) z u) 0 0) := ⟨_, rfl⟩
  have p0 : Pb W (w.heap.size) x y := by rw [eW]; have h := newP_pb w x y; exact ((h.still (Still.alloc _ _)).still (Still.alloc _ _))
  have c00 := Cl.cell p0.cells.1
  have c01 := Cl.cell p0.cells.2.1
  clear p0
  have p1 : Pb W (w.heap.size + 1) z u := by rw [eW]; have h := newP_pb (newP w x y) z u; simp only [size_alloc] at h; exact (h.still (Still.alloc _ _))
  have c10 := Cl.cell p1.cells.1
  have c11 := Cl.cell p1.cells.2.1
  clear p1
  have r : Pb W (w.heap.size + 1 + 1) 0 0 := by rw [eW]; have h := newP_pb (newP (newP w x y) z u) 0 0; simp only [size_alloc] at h; exact h
  have HF := hid (show Still w W by rw [eW]; exact (((Still.alloc w _).trans (Still.alloc _ _)).trans (Still.alloc _ _)))
  have HW := hid eW
  have hne := Aft.here W
  clear eW
  have HB := hid (show w.heap.size ≤ w.heap.size + 1 + 1 by omega)
  go_enter Tryd.func49, Tryd.ntmps49
  go_wp2_with fail
  have e := HW.out
  simp only [newP] at e
  rw [← e]
  clear e HW
  refine region_rest 10 (by kernel_rfl) (by kernel_rfl) ?_
  simp only [List.take_succ_cons, List.take_zero, List.drop_succ_cons, List.drop_zero]
  repeat (go_big_quiet_step ((go_at_call 82; exact Calls.cl_same (add_any _ _ _))))
  refine wpQuiet_nil ?_
  intro w1 hs
  clear hne c00 c01 c10 c11
  have q := r.still hs
  obtain ⟨d0, d1, df⟩ := q.cells
  go_wp2_with fail
  (try simp only [Exit.inBlock, Exit.then])
  exact bodyPost_ret ((q.set _ _).res rfl _ rfl) rfl ⟨rfl, setP_fr (HF.out.trans hs) _ _ _ (.inr HB.out)⟩
theorem rgadd_any (x y z u : Int) (w : World) : Calls Tryd.prog 76 #[pt x y, pt z u] w fun e w' => e = .returned (pt (addf x z) (addf y u)) ∧ Still w w' := by
  obtain ⟨W, eW⟩ : ∃ W, W = (newP (newP (newP w x y) z u) 0 0) := ⟨_, rfl⟩
  have p0 : Pb W (w.heap.size) x y := by rw [eW]; have h := newP_pb w x y; exact ((h.still (Still.alloc _ _)).still (Still.alloc _ _))
  have c00 := Cl.cell p0.cells.1
  have c01 := Cl.cell p0.cells.2.1
  clear p0
  have p1 : Pb W (w.heap.size + 1) z u := by rw [eW]; have h := newP_pb (newP w x y) z u; simp only [size_alloc] at h; exact (h.still (Still.alloc _ _))
  have c10 := Cl.cell p1.cells.1
  have c11 := Cl.cell p1.cells.2.1
  clear p1
  have r : Pb W (w.heap.size + 1 + 1) 0 0 := by rw [eW]; have h := newP_pb (newP (newP w x y) z u) 0 0; simp only [size_alloc] at h; exact h
  have HF := hid (show Still w W by rw [eW]; exact (((Still.alloc w _).trans (Still.alloc _ _)).trans (Still.alloc _ _)))
  have HW := hid eW
  have hne := Aft.here W
  clear eW
  have HB := hid (show w.heap.size ≤ w.heap.size + 1 + 1 by omega)
  go_enter Tryd.func76, Tryd.ntmps76
  go_wp2_with fail
  have e := HW.out
  simp only [newP] at e
  rw [← e]
  clear e HW
  refine region_rest 10 (by kernel_rfl) (by kernel_rfl) ?_
  simp only [List.take_succ_cons, List.take_zero, List.drop_succ_cons, List.drop_zero]
  repeat (go_big_quiet_step ((go_at_call 94; exact Calls.cl_same (radd_any _ _ _))))
  refine wpQuiet_nil ?_
  intro w1 hs
  clear hne c00 c01 c10 c11
  have q := r.still hs
  obtain ⟨d0, d1, df⟩ := q.cells
  go_wp2_with fail
  (try simp only [Exit.inBlock, Exit.then])
  exact bodyPost_ret ((q.set _ _).res rfl _ rfl) rfl ⟨rfl, setP_fr (HF.out.trans hs) _ _ _ (.inr HB.out)⟩
theorem gsub_any (x y z u : Int) (w : World) : Calls Tryd.prog 48 #[pt x y, pt z u] w fun e w' => e = .returned (pt (subf x z) (subf y u)) ∧ Still w w' := by
  obtain ⟨W, eW⟩ : ∃ W, W = (newP (newP (newP w x y) z u) 0 0) := ⟨_, rfl⟩
  have p0 : Pb W (w.heap.size) x y := by rw [eW]; have h := newP_pb w x y; exact ((h.still (Still.alloc _ _)).still (Still.alloc _ _))
  have c00 := Cl.cell p0.cells.1
  have c01 := Cl.cell p0.cells.2.1
  clear p0
  have p1 : Pb W (w.heap.size + 1) z u := by rw [eW]; have h := newP_pb (newP w x y) z u; simp only [size_alloc] at h; exact (h.still (Still.alloc _ _))
  have c10 := Cl.cell p1.cells.1
  have c11 := Cl.cell p1.cells.2.1
  clear p1
  have r : Pb W (w.heap.size + 1 + 1) 0 0 := by rw [eW]; have h := newP_pb (newP (newP w x y) z u) 0 0; simp only [size_alloc] at h; exact h
  have HF := hid (show Still w W by rw [eW]; exact (((Still.alloc w _).trans (Still.alloc _ _)).trans (Still.alloc _ _)))
  have HW := hid eW
  have hne := Aft.here W
  clear eW
  have HB := hid (show w.heap.size ≤ w.heap.size + 1 + 1 by omega)
  go_enter Tryd.func48, Tryd.ntmps48
  go_wp2_with fail
  have e := HW.out
  simp only [newP] at e
  rw [← e]
  clear e HW
  refine region_rest 10 (by kernel_rfl) (by kernel_rfl) ?_
  simp only [List.take_succ_cons, List.take_zero, List.drop_succ_cons, List.drop_zero]
  repeat (go_big_quiet_step ((go_at_call 81; exact Calls.cl_same (sub_any _ _ _))))
  refine wpQuiet_nil ?_
  intro w1 hs
  clear hne c00 c01 c10 c11
  have q := r.still hs
  obtain ⟨d0, d1, df⟩ := q.cells
  go_wp2_with fail
  (try simp only [Exit.inBlock, Exit.then])
  exact bodyPost_ret ((q.set _ _).res rfl _ rfl) rfl ⟨rfl, setP_fr (HF.out.trans hs) _ _ _ (.inr HB.out)⟩
theorem rgsub_any (x y z u : Int) (w : World) : Calls Tryd.prog 108 #[pt x y, pt z u] w fun e w' => e = .returned (pt (subf x z) (subf y u)) ∧ Still w w' := by
  obtain ⟨W, eW⟩ : ∃ W, W = (newP (newP (newP w x y) z u) 0 0) := ⟨_, rfl⟩
  have p0 : Pb W (w.heap.size) x y := by rw [eW]; have h := newP_pb w x y; exact ((h.still (Still.alloc _ _)).still (Still.alloc _ _))
  have c00 := Cl.cell p0.cells.1
  have c01 := Cl.cell p0.cells.2.1
  clear p0
  have p1 : Pb W (w.heap.size + 1) z u := by rw [eW]; have h := newP_pb (newP w x y) z u; simp only [size_alloc] at h; exact (h.still (Still.alloc _ _))
  have c10 := Cl.cell p1.cells.1
  have c11 := Cl.cell p1.cells.2.1
  clear p1
  have r : Pb W (w.heap.size + 1 + 1) 0 0 := by rw [eW]; have h := newP_pb (newP (newP w x y) z u) 0 0; simp only [size_alloc] at h; exact h
  have HF := hid (show Still w W by rw [eW]; exact (((Still.alloc w _).trans (Still.alloc _ _)).trans (Still.alloc _ _)))
  have HW := hid eW
  have hne := Aft.here W
  clear eW
  have HB := hid (show w.heap.size ≤ w.heap.size + 1 + 1 by omega)
  go_enter Tryd.func108, Tryd.ntmps108
  go_wp2_with fail
  have e := HW.out
  simp only [newP] at e
  rw [← e]
  clear e HW
  refine region_rest 10 (by kernel_rfl) (by kernel_rfl) ?_
  simp only [List.take_succ_cons, List.take_zero, List.drop_succ_cons, List.drop_zero]
  repeat (go_big_quiet_step ((go_at_call 112; exact Calls.cl_same (rsub_any _ _ _))))
  refine wpQuiet_nil ?_
  intro w1 hs
  clear hne c00 c01 c10 c11
  have q := r.still hs
  obtain ⟨d0, d1, df⟩ := q.cells
  go_wp2_with fail
  (try simp only [Exit.inBlock, Exit.then])
  exact bodyPost_ret ((q.set _ _).res rfl _ rfl) rfl ⟨rfl, setP_fr (HF.out.trans hs) _ _ _ (.inr HB.out)⟩
theorem gscale_any (x y b : Int) (w : World) : Calls Tryd.prog 85 #[pt x y, .int .i64 b] w fun e w' => e = .returned (pt (mulf x b) (mulf y b)) ∧ Still w w' := by
  obtain ⟨W, eW⟩ : ∃ W, W = (newP (newP w x y) 0 0) := ⟨_, rfl⟩
  have p0 : Pb W (w.heap.size) x y := by rw [eW]; have h := newP_pb w x y; exact (h.still (Still.alloc _ _))
  have c00 := Cl.cell p0.cells.1
  have c01 := Cl.cell p0.cells.2.1
  clear p0
  have r : Pb W (w.heap.size + 1) 0 0 := by rw [eW]; have h := newP_pb (newP w x y) 0 0; simp only [size_alloc] at h; exact h
  have HF := hid (show Still w W by rw [eW]; exact ((Still.alloc w _).trans (Still.alloc _ _)))
  have HW := hid eW
  have hne := Aft.here W
  clear eW
  have HB := hid (show w.heap.size ≤ w.heap.size + 1 by omega)
  go_enter Tryd.func85, Tryd.ntmps85
  go_wp2_with fail
  have e := HW.out
  simp only [newP] at e
  rw [← e]
  clear e HW
  refine region_rest 8 (by kernel_rfl) (by kernel_rfl) ?_
  simp only [List.take_succ_cons, List.take_zero, List.drop_succ_cons, List.drop_zero]
  repeat (go_big_quiet_step ((go_at_call 104; exact Calls.cl_same (mul_any _ _ _))))
  refine wpQuiet_nil ?_
  intro w1 hs
  clear hne c00 c01
  have q := r.still hs
  obtain ⟨d0, d1, df⟩ := q.cells
  go_wp2_with fail
  (try simp only [Exit.inBlock, Exit.then])
  exact bodyPost_ret ((q.set _ _).res rfl _ rfl) rfl ⟨rfl, setP_fr (HF.out.trans hs) _ _ _ (.inr HB.out)⟩
theorem rgscale_any (x y b : Int) (w : World) : Calls Tryd.prog 35 #[pt x y, .int .i64 b] w fun e w' => e = .returned (pt (mulf x b) (mulf y b)) ∧ Still w w' := by
  obtain ⟨W, eW⟩ : ∃ W, W = (newP (newP w x y) 0 0) := ⟨_, rfl⟩
  have p0 : Pb W (w.heap.size) x y := by rw [eW]; have h := newP_pb w x y; exact (h.still (Still.alloc _ _))
  have c00 := Cl.cell p0.cells.1
  have c01 := Cl.cell p0.cells.2.1
  clear p0
  have r : Pb W (w.heap.size + 1) 0 0 := by rw [eW]; have h := newP_pb (newP w x y) 0 0; simp only [size_alloc] at h; exact h
  have HF := hid (show Still w W by rw [eW]; exact ((Still.alloc w _).trans (Still.alloc _ _)))
  have HW := hid eW
  have hne := Aft.here W
  clear eW
  have HB := hid (show w.heap.size ≤ w.heap.size + 1 by omega)
  go_enter Tryd.func35, Tryd.ntmps35
  go_wp2_with fail
  have e := HW.out
  simp only [newP] at e
  rw [← e]
  clear e HW
  refine region_rest 8 (by kernel_rfl) (by kernel_rfl) ?_
  simp only [List.take_succ_cons, List.take_zero, List.drop_succ_cons, List.drop_zero]
  repeat (go_big_quiet_step ((go_at_call 68; exact Calls.cl_same (rmul_any _ _ _))))
  refine wpQuiet_nil ?_
  intro w1 hs
  clear hne c00 c01
  have q := r.still hs
  obtain ⟨d0, d1, df⟩ := q.cells
  go_wp2_with fail
  (try simp only [Exit.inBlock, Exit.then])
  exact bodyPost_ret ((q.set _ _).res rfl _ rfl) rfl ⟨rfl, setP_fr (HF.out.trans hs) _ _ _ (.inr HB.out)⟩
end Go.Proofs.YtaalbkmdmocdeaaDoor
