/- Movers in memory; compared. -/
import Derived.Test.YtaalbkmdmocdeaaDoorNp
import Derived.Test.YtaalbkmdmocdeaaDoorEq
import Derived.Test.YtaalbkmdmocdeaaDoorQn
import Derived.Laws.ResultCell
import Derived.Laws.StructEq
import Derived.KernelRfl
namespace Go.Proofs.YtaalbkmdmocdeaaDoor
open Go.RowKit
open Pu Gp Ap Vp Np
set_option maxRecDepth 100000

/-- a mover's cells -/
abbrev mcs (m : Mv) : Array Value := #[.int .i64 m.ax, .int .i64 m.ay, .int .i64 m.sx, .int .i64 m.sy, .int .i64 m.px, .int .i64 m.py, .int .i64 m.fc, .int .i64 m.hl, .int .i64 m.en, .bool m.sh, .int .i64 m.co, .int .i64 m.ou, .int .i64 m.sd]
/-- a mover as a value -/
abbrev mv (m : Mv) : Value := .agg (mcs m)
/-- block g holds a mover -/
def Mb (w : World) (g : Nat) (m : Mv) : Prop := w.heap[g]? = some (.cells (mcs m) 25 (0, 0))
theorem Mb.still {w w' : World} {g : Nat} {m : Mv} (h : Mb w g m) (hs : Still w w') : Mb w' g m := hs.kept_still h
theorem Mb.lt {w : World} {g : Nat} {m : Mv} (h : Mb w g m) : g < w.heap.size := block_lt h
theorem Mb.cells {w : World} {g : Nat} {m : Mv} (h : Mb w g m) : w.cell? ⟨g, 0, none⟩ = some (.int .i64 m.ax) ∧ w.cell? ⟨g, 1, none⟩ = some (.int .i64 m.ay) ∧ w.cell? ⟨g, 2, none⟩ = some (.int .i64 m.sx) ∧ w.cell? ⟨g, 3, none⟩ = some (.int .i64 m.sy) ∧ w.cell? ⟨g, 4, none⟩ = some (.int .i64 m.px) ∧ w.cell? ⟨g, 5, none⟩ = some (.int .i64 m.py) ∧ w.cell? ⟨g, 6, none⟩ = some (.int .i64 m.fc) ∧ w.cell? ⟨g, 7, none⟩ = some (.int .i64 m.hl) ∧ w.cell? ⟨g, 8, none⟩ = some (.int .i64 m.en) ∧ w.cell? ⟨g, 9, none⟩ = some (.bool m.sh) ∧ w.cell? ⟨g, 10, none⟩ = some (.int .i64 m.co) ∧ w.cell? ⟨g, 11, none⟩ = some (.int .i64 m.ou) ∧ w.cell? ⟨g, 12, none⟩ = some (.int .i64 m.sd) ∧ ∀ o, w.frozen? ⟨g, o, none⟩ = false := by
  refine ⟨?_, ?_, ?_, ?_, ?_, ?_, ?_, ?_, ?_, ?_, ?_, ?_, ?_, fun o => frozen_of_row w g o _ _ h⟩ <;> (rw [cell_of_row _ _ _ _ _ _ h]; rfl)
abbrev newM (w : World) (m : Mv) : World := w.alloc (.cells (mcs m) 25)
theorem newM_mb (w : World) (m : Mv) : Mb (newM w m) w.heap.size m := heap_alloc_new w _
abbrev setM (w : World) (g : Nat) (m : Mv) : World := (((((((((((((w.setCell ⟨g, 0, none⟩ (.int .i64 m.ax)).setCell ⟨g, 1, none⟩ (.int .i64 m.ay)).setCell ⟨g, 2, none⟩ (.int .i64 m.sx)).setCell ⟨g, 3, none⟩ (.int .i64 m.sy)).setCell ⟨g, 4, none⟩ (.int .i64 m.px)).setCell ⟨g, 5, none⟩ (.int .i64 m.py)).setCell ⟨g, 6, none⟩ (.int .i64 m.fc)).setCell ⟨g, 7, none⟩ (.int .i64 m.hl)).setCell ⟨g, 8, none⟩ (.int .i64 m.en)).setCell ⟨g, 9, none⟩ (.bool m.sh)).setCell ⟨g, 10, none⟩ (.int .i64 m.co)).setCell ⟨g, 11, none⟩ (.int .i64 m.ou)).setCell ⟨g, 12, none⟩ (.int .i64 m.sd))
theorem Mb.set {w : World} {g : Nat} {m : Mv} (h0 : Mb w g m) (n : Mv) : Mb (setM w g n) g n := by
  unfold Mb at h0 ⊢
  have h1 := heap_setCell_same _ g 0 _ _ (.int .i64 n.ax) h0
  have h2 := heap_setCell_same _ g 1 _ _ (.int .i64 n.ay) h1
  have h3 := heap_setCell_same _ g 2 _ _ (.int .i64 n.sx) h2
  have h4 := heap_setCell_same _ g 3 _ _ (.int .i64 n.sy) h3
  have h5 := heap_setCell_same _ g 4 _ _ (.int .i64 n.px) h4
  have h6 := heap_setCell_same _ g 5 _ _ (.int .i64 n.py) h5
  have h7 := heap_setCell_same _ g 6 _ _ (.int .i64 n.fc) h6
  have h8 := heap_setCell_same _ g 7 _ _ (.int .i64 n.hl) h7
  have h9 := heap_setCell_same _ g 8 _ _ (.int .i64 n.en) h8
  have h10 := heap_setCell_same _ g 9 _ _ (.bool n.sh) h9
  have h11 := heap_setCell_same _ g 10 _ _ (.int .i64 n.co) h10
  have h12 := heap_setCell_same _ g 11 _ _ (.int .i64 n.ou) h11
  have h13 := heap_setCell_same _ g 12 _ _ (.int .i64 n.sd) h12
  exact h13.trans (by kernel_rfl)
theorem setM_fr {F : Nat → Prop} {x w : World} (h : Fr F x w) (g : Nat) (m : Mv) (hb : F g ∨ x.heap.size ≤ g) : Fr F x (setM w g m) := (((((((((((((h.setCell _ _ hb).setCell _ _ hb).setCell _ _ hb).setCell _ _ hb).setCell _ _ hb).setCell _ _ hb).setCell _ _ hb).setCell _ _ hb).setCell _ _ hb).setCell _ _ hb).setCell _ _ hb).setCell _ _ hb).setCell _ _ hb)
theorem Mb.other {w : World} {g : Nat} {m : Mv} (h : Mb w g m) (k o : Nat) (v : Value) (hk : g ≠ k) : Mb (w.setCell ⟨k, o, none⟩ v) g m := by
  unfold Mb at h ⊢
  rw [heap_setCell_other _ _ _ _ hk]
  exact h
theorem load_mv (w : World) (g : Nat) (m : Mv) (c0 : w.cell? ⟨g, 0, none⟩ = some (.int .i64 m.ax)) (c1 : w.cell? ⟨g, 1, none⟩ = some (.int .i64 m.ay)) (c2 : w.cell? ⟨g, 2, none⟩ = some (.int .i64 m.sx)) (c3 : w.cell? ⟨g, 3, none⟩ = some (.int .i64 m.sy)) (c4 : w.cell? ⟨g, 4, none⟩ = some (.int .i64 m.px)) (c5 : w.cell? ⟨g, 5, none⟩ = some (.int .i64 m.py)) (c6 : w.cell? ⟨g, 6, none⟩ = some (.int .i64 m.fc)) (c7 : w.cell? ⟨g, 7, none⟩ = some (.int .i64 m.hl)) (c8 : w.cell? ⟨g, 8, none⟩ = some (.int .i64 m.en)) (c9 : w.cell? ⟨g, 9, none⟩ = some (.bool m.sh)) (c10 : w.cell? ⟨g, 10, none⟩ = some (.int .i64 m.co)) (c11 : w.cell? ⟨g, 11, none⟩ = some (.int .i64 m.ou)) (c12 : w.cell? ⟨g, 12, none⟩ = some (.int .i64 m.sd)) :
    (loadVar 25 ⟨g, 0, none⟩).run Tryd.prog w = .ok (mv m) w := by
  go_simp
theorem Mb.load {w : World} {g : Nat} {m : Mv} (hb : Mb w g m) : (loadVar 25 ⟨g, 0, none⟩).run Tryd.prog w = .ok (mv m) w := load_mv w g m hb.cells.1 hb.cells.2.1 hb.cells.2.2.1 hb.cells.2.2.2.1 hb.cells.2.2.2.2.1 hb.cells.2.2.2.2.2.1 hb.cells.2.2.2.2.2.2.1 hb.cells.2.2.2.2.2.2.2.1 hb.cells.2.2.2.2.2.2.2.2.1 hb.cells.2.2.2.2.2.2.2.2.2.1 hb.cells.2.2.2.2.2.2.2.2.2.2.1 hb.cells.2.2.2.2.2.2.2.2.2.2.2.1 hb.cells.2.2.2.2.2.2.2.2.2.2.2.2.1
theorem Mb.res {fn : Func} {p : Tmp} {w : World} {g : Nat} {m : Mv} (hb : Mb w g m) (h : fn.results = #[.cell p 25]) (tmps : Array Value) (hp : tmps.getD p undef = .pointer (some ⟨g, 0, none⟩)) :
    (results fn tmps).run Tryd.prog w = .ok (mv m) w := by
  have hp' : tmps[p]?.getD undef = .pointer (some ⟨g, 0, none⟩) := by simpa using hp
  simp [results, h, hp', asAddr, hb.load]
theorem Mb.rest {fn : Func} {p q : Tmp} {w : World} {g : Nat} {m : Mv} (hb : Mb w g m) (h : fn.results = #[.cell p 25, .tmp q]) (tmps : Array Value) (t : Value) (hp : tmps.getD p undef = .pointer (some ⟨g, 0, none⟩)) (hq : tmps.getD q undef = t) :
    (results fn tmps).run Tryd.prog w = .ok (.tuple #[mv m, t]) w := by
  rw [results_cell_tmp h, hp, hq]
  simp [asAddr, Result.andThen, hb.load]
theorem results3 {fn : Func} {p u v : Tmp} {ty : TypeId} (h : fn.results = #[.cell p ty, .tmp u, .tmp v]) (tmps : Array Value) (P : Program) (w : World) :
    (results fn tmps).run P w = ((asAddr (tmps.getD p undef)).run P w).andThen fun a w₁ => ((loadVar ty a).run P w₁).andThen fun x w₂ => .ok (.tuple #[x, tmps.getD u undef, tmps.getD v undef]) w₂ := by
  simp only [results, h]
  simp [Sem.run_bind, Result.andThen]
theorem Mb.rest3 {fn : Func} {p q r : Tmp} {w : World} {g : Nat} {m : Mv} (hb : Mb w g m) (h : fn.results = #[.cell p 25, .tmp q, .tmp r]) (tmps : Array Value) (t s : Value) (hp : tmps.getD p undef = .pointer (some ⟨g, 0, none⟩)) (hq : tmps.getD q undef = t) (hr : tmps.getD r undef = s) :
    (results fn tmps).run Tryd.prog w = .ok (.tuple #[mv m, t, s]) w := by
  rw [results3 h, hp, hq, hr]
  simp [asAddr, Result.andThen, hb.load]
/-- are two movers the same -/
def eqM (m n : Mv) : Bool := (m.ax == n.ax) && (m.ay == n.ay) && (m.sx == n.sx) && (m.sy == n.sy) && (m.px == n.px) && (m.py == n.py) && (m.fc == n.fc) && (m.hl == n.hl) && (m.en == n.en) && (m.sh == n.sh) && (m.co == n.co) && (m.ou == n.ou) && (m.sd == n.sd)
theorem eqM_refl (m : Mv) : eqM m m = true := by unfold eqM; simp
theorem eqM_iff {m n : Mv} : eqM m n = true ↔ m = n := by
  constructor
  · intro h
    unfold eqM at h
    simp only [Bool.and_eq_true, beq_iff_eq] at h
    cases m; cases n
    simp_all
  · rintro rfl; exact eqM_refl m
theorem equal_int (d : Nat) (x y : Int) (w : World) : (Op.equalIn (d + 1) 3 (.int .i64 x) (.int .i64 y)).run Tryd.prog w = .ok (x == y) w := by
  go_simp
theorem equal_bool (d : Nat) (x y : Bool) (w : World) : (Op.equalIn (d + 1) 4 (.bool x) (.bool y)).run Tryd.prog w = .ok (x == y) w := by
  go_simp
theorem part_pt (m : Mv) (w : World) : (part 23 (mcs m) 0).run Tryd.prog w = .ok (pt m.ax m.ay) w ∧ (part 23 (mcs m) 2).run Tryd.prog w = .ok (pt m.sx m.sy) w ∧ (part 23 (mcs m) 4).run Tryd.prog w = .ok (pt m.px m.py) w := by
  refine ⟨?_, ?_, ?_⟩ <;> go_simp
theorem part_in (m : Mv) (w : World) : (part 3 (mcs m) 6).run Tryd.prog w = .ok (.int .i64 m.fc) w ∧ (part 3 (mcs m) 7).run Tryd.prog w = .ok (.int .i64 m.hl) w ∧ (part 3 (mcs m) 8).run Tryd.prog w = .ok (.int .i64 m.en) w ∧ (part 3 (mcs m) 10).run Tryd.prog w = .ok (.int .i64 m.co) w ∧ (part 3 (mcs m) 11).run Tryd.prog w = .ok (.int .i64 m.ou) w ∧ (part 3 (mcs m) 12).run Tryd.prog w = .ok (.int .i64 m.sd) w ∧ (part 4 (mcs m) 9).run Tryd.prog w = .ok (.bool m.sh) w := by
  refine ⟨?_, ?_, ?_, ?_, ?_, ?_, ?_⟩ <;> go_simp
def eqP (m n : Mv) : Bool := (m.ax == n.ax && m.ay == n.ay) && ((m.sx == n.sx && m.sy == n.sy) && ((m.px == n.px && m.py == n.py) && ((m.fc == n.fc) && ((m.hl == n.hl) && ((m.en == n.en) && ((m.sh == n.sh) && ((m.co == n.co) && ((m.ou == n.ou) && (m.sd == n.sd)))))))))
theorem eqP_eq (m n : Mv) : eqP m n = eqM m n := by
  unfold eqP eqM
  simp only [Bool.and_assoc]
theorem st {b c : Bool} {w : World} {R : Result Bool} (h : R = .ok c w) : (if (!b) = true then Result.ok false w else R) = .ok (b && c) w := by
  cases b <;> simp [h]
theorem st1 (b : Bool) {w : World} : (if (!b) = true then Result.ok false w else Result.ok true w) = .ok b w := by
  cases b <;> rfl
theorem equal_mv (m n : Mv) (w : World) : (Op.equalIn 10000 25 (mv m) (mv n)).run Tryd.prog w = .ok (eqM m n) w := by
  have a1 := fun w => (part_pt m w).1
  have a2 := fun w => (part_pt m w).2.1
  have a3 := fun w => (part_pt m w).2.2
  have b1 := fun w => (part_pt n w).1
  have b2 := fun w => (part_pt n w).2.1
  have b3 := fun w => (part_pt n w).2.2
  have q1 := fun w => equal_pt 9997 m.ax m.ay n.ax n.ay w
  have q2 := fun w => equal_pt 9997 m.sx m.sy n.sx n.sy w
  have q3 := fun w => equal_pt 9997 m.px m.py n.px n.py w
  have c0 := fun w => (part_in m w).1
  have d0 := fun w => (part_in n w).1
  have r0 := fun w => equal_int 9998 m.fc n.fc w
  have c1 := fun w => (part_in m w).2.1
  have d1 := fun w => (part_in n w).2.1
  have r1 := fun w => equal_int 9998 m.hl n.hl w
  have c2 := fun w => (part_in m w).2.2.1
  have d2 := fun w => (part_in n w).2.2.1
  have r2 := fun w => equal_int 9998 m.en n.en w
  have c3 := fun w => (part_in m w).2.2.2.1
  have d3 := fun w => (part_in n w).2.2.2.1
  have r3 := fun w => equal_int 9998 m.co n.co w
  have c4 := fun w => (part_in m w).2.2.2.2.1
  have d4 := fun w => (part_in n w).2.2.2.2.1
  have r4 := fun w => equal_int 9998 m.ou n.ou w
  have c5 := fun w => (part_in m w).2.2.2.2.2.1
  have d5 := fun w => (part_in n w).2.2.2.2.2.1
  have r5 := fun w => equal_int 9998 m.sd n.sd w
  have c6 := fun w => (part_in m w).2.2.2.2.2.2
  have d6 := fun w => (part_in n w).2.2.2.2.2.2
  have r6 := fun w => equal_bool 9998 m.sh n.sh w
  rw [run_equalIn_struct w 9999 _ _ _ (by kernel_rfl) (by kernel_rfl)]
  have e : (Tryd.prog.fieldsOf 25) = #[⟨ "At", 23, 0, false, "", "", 0⟩, ⟨ "Speed", 23, 2, false, "", "", 16⟩, ⟨ "Push", 23, 4, false, "", "", 32⟩, ⟨ "Facing", 3, 6, false, "", "", 48⟩, ⟨ "Health", 3, 7, false, "", "", 56⟩, ⟨ "Energy", 3, 8, false, "", "", 64⟩, ⟨ "Shield", 4, 9, false, "", "", 72⟩, ⟨ "Cool", 3, 10, false, "", "", 80⟩, ⟨ "Out", 3, 11, false, "", "", 88⟩, ⟨ "Said", 3, 12, false, "", "", 96⟩] := by kernel_rfl
  rw [e, ← eqP_eq]
  simp only [Op.eqFields, ne_eq, String.reduceEq, not_false_eq_true, if_true, Sem.run_bind, a1, a2, a3, b1, b2, b3, c0, c1, c2, c3, c4, c5, c6, d0, d1, d2, d3, d4, d5, d6, Result.andThen_ok, q1, q2, q3, r0, r1, r2, r3, r4, r5, r6, Sem.run_ite, Sem.run_pure]
  unfold eqP
  exact st (st (st (st (st (st (st (st (st (st1 _)))))))))
theorem eql_mv (m n : Mv) (w : World) : (binOp .eql 25 (mv m) (mv n)).run Tryd.prog w = .ok (.bool (eqM m n)) w := by
  rw [run_eql_struct, equal_mv]; rfl
theorem neq_mv (m n : Mv) (w : World) : (binOp .neq 25 (mv m) (mv n)).run Tryd.prog w = .ok (.bool (!(eqM m n))) w := by
  rw [run_neq_struct, equal_mv]; rfl
theorem eql_mv_t (m : Mv) (w : World) : (binOp .eql 25 (mv m) (mv m)).run Tryd.prog w = .ok (.bool true) w := by
  rw [eql_mv, eqM_refl]
theorem neq_mv_f (m : Mv) (w : World) : (binOp .neq 25 (mv m) (mv m)).run Tryd.prog w = .ok (.bool false) w := by
  rw [neq_mv, eqM_refl]; rfl
theorem guard_mv (op : BinOp) (a b : Operand) (xs ys : Array Value) (w : World) : (eqGuard op 25 a b (.agg xs) (.agg ys)).run Tryd.prog w = .ok () w := run_eqGuard_agg w op _ a b xs ys (by kernel_rfl)
/-- a mover laid over another, cell by cell -/
theorem Mb.put {w : World} {g : Nat} {m : Mv} (h : Mb w g m) (ax : Int) (ay : Int) (sx : Int) (sy : Int) (px : Int) (py : Int) (fc : Int) (hl : Int) (en : Int) (sh : Bool) (co : Int) (ou : Int) (sd : Int) : Mb (((((((((((((w.setCell ⟨g, 0, none⟩ (.int .i64 ax)).setCell ⟨g, 1, none⟩ (.int .i64 ay)).setCell ⟨g, 2, none⟩ (.int .i64 sx)).setCell ⟨g, 3, none⟩ (.int .i64 sy)).setCell ⟨g, 4, none⟩ (.int .i64 px)).setCell ⟨g, 5, none⟩ (.int .i64 py)).setCell ⟨g, 6, none⟩ (.int .i64 fc)).setCell ⟨g, 7, none⟩ (.int .i64 hl)).setCell ⟨g, 8, none⟩ (.int .i64 en)).setCell ⟨g, 9, none⟩ (.bool sh)).setCell ⟨g, 10, none⟩ (.int .i64 co)).setCell ⟨g, 11, none⟩ (.int .i64 ou)).setCell ⟨g, 12, none⟩ (.int .i64 sd)) g ⟨ax, ay, sx, sy, px, py, fc, hl, en, sh, co, ou, sd⟩ := h.set ⟨ax, ay, sx, sy, px, py, fc, hl, en, sh, co, ou, sd⟩
theorem setC_fr {x w : World} (h : Still x w) (g o : Nat) (v : Value) (hb : x.heap.size ≤ g) : Still x (w.setCell ⟨g, o, none⟩ v) := h.setCell _ _ (.inr hb)
end Go.Proofs.YtaalbkmdmocdeaaDoor
