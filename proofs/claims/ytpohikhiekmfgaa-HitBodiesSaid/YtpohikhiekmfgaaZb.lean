/- Shots in memory; compared. -/
import Derived.Test.YtpohikhiekmfgaaZa
import Derived.Test.YtpohikhiekmfgaaK8
namespace Go.Proofs.Ytpohikhiekmfgaa
open Go.RowKit
open Pu Gp Ap Vp Np Za
set_option maxRecDepth 100000

/-- a shot's cells -/
abbrev scs (m : Sh) : Array Value := #[.int .i64 m.no, .int .i64 m.ow, .int .i64 m.pw, .int .i64 m.ax, .int .i64 m.ay, .int .i64 m.sx, .int .i64 m.sy, .int .i64 m.lf]
/-- a shot as a value -/
abbrev sv (m : Sh) : Value := .agg (scs m)
/-- block g holds a shot -/
def Sb (w : World) (g : Nat) (m : Sh) : Prop := w.heap[g]? = some (.cells (scs m) 49 (0, 0))
theorem Sb.still {w w' : World} {g : Nat} {m : Sh} (h : Sb w g m) (hs : Still w w') : Sb w' g m := hs.kept_still h
theorem Sb.lt {w : World} {g : Nat} {m : Sh} (h : Sb w g m) : g < w.heap.size := block_lt h
theorem Sb.cells {w : World} {g : Nat} {m : Sh} (h : Sb w g m) : w.cell? ⟨g, 0, none⟩ = some (.int .i64 m.no) ∧ w.cell? ⟨g, 1, none⟩ = some (.int .i64 m.ow) ∧ w.cell? ⟨g, 2, none⟩ = some (.int .i64 m.pw) ∧ w.cell? ⟨g, 3, none⟩ = some (.int .i64 m.ax) ∧ w.cell? ⟨g, 4, none⟩ = some (.int .i64 m.ay) ∧ w.cell? ⟨g, 5, none⟩ = some (.int .i64 m.sx) ∧ w.cell? ⟨g, 6, none⟩ = some (.int .i64 m.sy) ∧ w.cell? ⟨g, 7, none⟩ = some (.int .i64 m.lf) ∧ ∀ o, w.frozen? ⟨g, o, none⟩ = false := by
  refine ⟨?_, ?_, ?_, ?_, ?_, ?_, ?_, ?_, fun o => frozen_of_row w g o _ _ h⟩ <;> (rw [cell_of_row _ _ _ _ _ _ h]; rfl)
abbrev newS (w : World) (m : Sh) : World := w.alloc (.cells (scs m) 49)
theorem newS_sb (w : World) (m : Sh) : Sb (newS w m) w.heap.size m := heap_alloc_new w _
theorem Sb.put {w : World} {g : Nat} {m : Sh} (h0 : Sb w g m) (no : Int) (ow : Int) (pw : Int) (ax : Int) (ay : Int) (sx : Int) (sy : Int) (lf : Int) : Sb ((((((((w.setCell ⟨g, 0, none⟩ (.int .i64 no)).setCell ⟨g, 1, none⟩ (.int .i64 ow)).setCell ⟨g, 2, none⟩ (.int .i64 pw)).setCell ⟨g, 3, none⟩ (.int .i64 ax)).setCell ⟨g, 4, none⟩ (.int .i64 ay)).setCell ⟨g, 5, none⟩ (.int .i64 sx)).setCell ⟨g, 6, none⟩ (.int .i64 sy)).setCell ⟨g, 7, none⟩ (.int .i64 lf)) g ⟨no, ow, pw, ax, ay, sx, sy, lf⟩ := by
  unfold Sb at h0 ⊢
  have h1 := heap_setCell_same _ g 0 _ _ (.int .i64 no) h0
  have h2 := heap_setCell_same _ g 1 _ _ (.int .i64 ow) h1
  have h3 := heap_setCell_same _ g 2 _ _ (.int .i64 pw) h2
  have h4 := heap_setCell_same _ g 3 _ _ (.int .i64 ax) h3
  have h5 := heap_setCell_same _ g 4 _ _ (.int .i64 ay) h4
  have h6 := heap_setCell_same _ g 5 _ _ (.int .i64 sx) h5
  have h7 := heap_setCell_same _ g 6 _ _ (.int .i64 sy) h6
  have h8 := heap_setCell_same _ g 7 _ _ (.int .i64 lf) h7
  exact h8.trans (by kernel_rfl)
theorem Sb.other {w : World} {g : Nat} {m : Sh} (h : Sb w g m) (k o : Nat) (v : Value) (hk : g ≠ k) : Sb (w.setCell ⟨k, o, none⟩ v) g m := by
  unfold Sb at h ⊢
  rw [heap_setCell_other _ _ _ _ hk]
  exact h
theorem Sb.step {w : World} {g : Nat} {m : Sh} (h : Sb w g m) (x y k : Int) : Sb (((w.setCell ⟨g, 3, none⟩ (.int .i64 x)).setCell ⟨g, 4, none⟩ (.int .i64 y)).setCell ⟨g, 7, none⟩ (.int .i64 k)) g { m with ax := x, ay := y, lf := k } := by
  have h1 := heap_setCell_same w g 3 _ _ (.int .i64 x) h
  have h2 := heap_setCell_same _ g 4 _ _ (.int .i64 y) h1
  have h3 := heap_setCell_same _ g 7 _ _ (.int .i64 k) h2
  exact h3.trans (by kernel_rfl)
theorem Sb.load {w : World} {g : Nat} {m : Sh} (h : Sb w g m) : (loadVar 49 ⟨g, 0, none⟩).run Try.prog w = .ok (sv m) w := by
  obtain ⟨c0, c1, c2, c3, c4, c5, c6, c7, cf⟩ := h.cells
  go_simp
theorem Sb.res {fn : Func} {p : Tmp} {w : World} {g : Nat} {m : Sh} (hb : Sb w g m) (h : fn.results = #[.cell p 49]) (tmps : Array Value) (hp : tmps.getD p undef = .pointer (some ⟨g, 0, none⟩)) :
    (results fn tmps).run Try.prog w = .ok (sv m) w := by
  have hp' : tmps[p]?.getD undef = .pointer (some ⟨g, 0, none⟩) := by simpa using hp
  simp [results, h, hp', asAddr, hb.load]
theorem Sb.rest {fn : Func} {p q : Tmp} {w : World} {g : Nat} {m : Sh} (hb : Sb w g m) (h : fn.results = #[.cell p 49, .tmp q]) (tmps : Array Value) (t : Value) (hp : tmps.getD p undef = .pointer (some ⟨g, 0, none⟩)) (hq : tmps.getD q undef = t) :
    (results fn tmps).run Try.prog w = .ok (.tuple #[sv m, t]) w := by
  rw [results_cell_tmp h, hp, hq]
  simp [asAddr, Result.andThen, hb.load]
theorem Sb.rest3 {fn : Func} {p q r : Tmp} {w : World} {g : Nat} {m : Sh} (hb : Sb w g m) (h : fn.results = #[.cell p 49, .tmp q, .tmp r]) (tmps : Array Value) (t s : Value) (hp : tmps.getD p undef = .pointer (some ⟨g, 0, none⟩)) (hq : tmps.getD q undef = t) (hr : tmps.getD r undef = s) :
    (results fn tmps).run Try.prog w = .ok (.tuple #[sv m, t, s]) w := by
  rw [results3 h, hp, hq, hr]
  simp [asAddr, Result.andThen, hb.load]
/-- are two shots the same -/
def eqS (m n : Sh) : Bool := (m.no == n.no) && (m.ow == n.ow) && (m.pw == n.pw) && (m.ax == n.ax) && (m.ay == n.ay) && (m.sx == n.sx) && (m.sy == n.sy) && (m.lf == n.lf)
theorem eqS_refl (m : Sh) : eqS m m = true := by unfold eqS; simp
theorem eqS_iff {m n : Sh} : eqS m n = true ↔ m = n := by
  constructor
  · intro h
    unfold eqS at h
    simp only [Bool.and_eq_true, beq_iff_eq] at h
    cases m; cases n
    simp_all
  · rintro rfl; exact eqS_refl m
def eqSP (m n : Sh) : Bool := (m.no == n.no) && ((m.ow == n.ow) && ((m.pw == n.pw) && ((m.ax == n.ax && m.ay == n.ay) && ((m.sx == n.sx && m.sy == n.sy) && (m.lf == n.lf)))))
theorem eqSP_eq (m n : Sh) : eqSP m n = eqS m n := by
  unfold eqSP eqS
  simp only [Bool.and_assoc]
theorem spart_pt (m : Sh) (w : World) : (part 33 (scs m) 3).run Try.prog w = .ok (pt m.ax m.ay) w ∧ (part 33 (scs m) 5).run Try.prog w = .ok (pt m.sx m.sy) w := by
  refine ⟨?_, ?_⟩ <;> go_simp
theorem spart_in (m : Sh) (w : World) : (part 3 (scs m) 0).run Try.prog w = .ok (.int .i64 m.no) w ∧ (part 3 (scs m) 1).run Try.prog w = .ok (.int .i64 m.ow) w ∧ (part 3 (scs m) 2).run Try.prog w = .ok (.int .i64 m.pw) w ∧ (part 3 (scs m) 7).run Try.prog w = .ok (.int .i64 m.lf) w := by
  refine ⟨?_, ?_, ?_, ?_⟩ <;> go_simp
theorem equal_sv (m n : Sh) (w : World) : (Op.equalIn 10000 49 (sv m) (sv n)).run Try.prog w = .ok (eqS m n) w := by
  have a1 := fun w => (spart_pt m w).1
  have a2 := fun w => (spart_pt m w).2
  have b1 := fun w => (spart_pt n w).1
  have b2 := fun w => (spart_pt n w).2
  have q1 := fun w => equal_pt 9997 m.ax m.ay n.ax n.ay w
  have q2 := fun w => equal_pt 9997 m.sx m.sy n.sx n.sy w
  have c0 := fun w => (spart_in m w).1
  have d0 := fun w => (spart_in n w).1
  have r0 := fun w => equal_int 9998 m.no n.no w
  have c1 := fun w => (spart_in m w).2.1
  have d1 := fun w => (spart_in n w).2.1
  have r1 := fun w => equal_int 9998 m.ow n.ow w
  have c2 := fun w => (spart_in m w).2.2.1
  have d2 := fun w => (spart_in n w).2.2.1
  have r2 := fun w => equal_int 9998 m.pw n.pw w
  have c3 := fun w => (spart_in m w).2.2.2
  have d3 := fun w => (spart_in n w).2.2.2
  have r3 := fun w => equal_int 9998 m.lf n.lf w
  rw [run_equalIn_struct w 9999 _ _ _ (by kernel_rfl) (by kernel_rfl)]
  have e : (Try.prog.fieldsOf 49) = #[⟨ "No", 3, 0, false, "", "", 0⟩, ⟨ "Owner", 3, 1, false, "", "", 8⟩, ⟨ "Power", 3, 2, false, "", "", 16⟩, ⟨ "At", 33, 3, false, "", "", 24⟩, ⟨ "Speed", 33, 5, false, "", "", 40⟩, ⟨ "Left", 3, 7, false, "", "", 56⟩] := by kernel_rfl
  rw [e, ← eqSP_eq]
  simp only [Op.eqFields, ne_eq, String.reduceEq, not_false_eq_true, if_true, Sem.run_bind, a1, a2, b1, b2, c0, c1, c2, c3, d0, d1, d2, d3, Result.andThen_ok, q1, q2, r0, r1, r2, r3, Sem.run_ite, Sem.run_pure]
  unfold eqSP
  exact st (st (st (st (st (st1 _)))))
theorem eql_sv (m n : Sh) (w : World) : (binOp .eql 49 (sv m) (sv n)).run Try.prog w = .ok (.bool (eqS m n)) w := by
  rw [run_eql_struct, equal_sv]; rfl
theorem eql_sv_t (m : Sh) (w : World) : (binOp .eql 49 (sv m) (sv m)).run Try.prog w = .ok (.bool true) w := by
  rw [eql_sv, eqS_refl]
theorem guard_sv (op : BinOp) (a b : Operand) (xs ys : Array Value) (w : World) : (eqGuard op 49 a b (.agg xs) (.agg ys)).run Try.prog w = .ok () w := run_eqGuard_agg w op _ a b xs ys (by kernel_rfl)
end Go.Proofs.Ytpohikhiekmfgaa
