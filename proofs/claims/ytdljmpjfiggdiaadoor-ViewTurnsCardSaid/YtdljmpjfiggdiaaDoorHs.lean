/- A struct stored into a new variable. -/
import Derived.Test.YtdljmpjfiggdiaaDoorHd
import Derived.Test.YtdljmpjfiggdiaaDoorHn
namespace Go.Proofs.YtdljmpjfiggdiaaDoor
open Go.RowKit
open Pu Gp Ap Vp Np Za Ka Ja Ea Ha
set_option maxRecDepth 100000

theorem st_mv {o : Oper} {ρ : Operand → Value} {x y : Operand} {u : World} {g : Nat} {m : Mv} (ho : o.op = .store 52 x y) (hx : ρ x = .pointer (some ⟨g, 0, none⟩)) (hy : ρ y = mv m) (hh : u.heap[g]? = some (.cells (mcs zM) 52 (0, 0))) :
    ∃ u', (execOp ρ o).run Tryd.prog u = .ok .skip u' ∧ u'.heap[g]? = some (.cells (mcs m) 52 (0, 0)) ∧ Fr (fun i => i = g) u u' := by
  have hb : Mb u g zM := hh
  obtain ⟨d0, d1, d2, d3, d4, d5, d6, d7, d8, d9, d10, d11, d12, df⟩ := hb.cells
  have hput := hb.put m.ax m.ay m.sx m.sy m.px m.py m.fc m.hl m.en m.sh m.co m.ou m.sd
  refine ⟨(((((((((((((u.setCell ⟨g, 0, none⟩ (.int .i64 m.ax)).setCell ⟨g, 1, none⟩ (.int .i64 m.ay)).setCell ⟨g, 2, none⟩ (.int .i64 m.sx)).setCell ⟨g, 3, none⟩ (.int .i64 m.sy)).setCell ⟨g, 4, none⟩ (.int .i64 m.px)).setCell ⟨g, 5, none⟩ (.int .i64 m.py)).setCell ⟨g, 6, none⟩ (.int .i64 m.fc)).setCell ⟨g, 7, none⟩ (.int .i64 m.hl)).setCell ⟨g, 8, none⟩ (.int .i64 m.en)).setCell ⟨g, 9, none⟩ (.bool m.sh)).setCell ⟨g, 10, none⟩ (.int .i64 m.co)).setCell ⟨g, 11, none⟩ (.int .i64 m.ou)).setCell ⟨g, 12, none⟩ (.int .i64 m.sd)), ?_, hput, ((((((((((((((Fr.refl (fun i => i = g) u).setCell ⟨g, 0, none⟩ (.int .i64 m.ax) (.inl rfl)).setCell ⟨g, 1, none⟩ (.int .i64 m.ay) (.inl rfl)).setCell ⟨g, 2, none⟩ (.int .i64 m.sx) (.inl rfl)).setCell ⟨g, 3, none⟩ (.int .i64 m.sy) (.inl rfl)).setCell ⟨g, 4, none⟩ (.int .i64 m.px) (.inl rfl)).setCell ⟨g, 5, none⟩ (.int .i64 m.py) (.inl rfl)).setCell ⟨g, 6, none⟩ (.int .i64 m.fc) (.inl rfl)).setCell ⟨g, 7, none⟩ (.int .i64 m.hl) (.inl rfl)).setCell ⟨g, 8, none⟩ (.int .i64 m.en) (.inl rfl)).setCell ⟨g, 9, none⟩ (.bool m.sh) (.inl rfl)).setCell ⟨g, 10, none⟩ (.int .i64 m.co) (.inl rfl)).setCell ⟨g, 11, none⟩ (.int .i64 m.ou) (.inl rfl)).setCell ⟨g, 12, none⟩ (.int .i64 m.sd) (.inl rfl))⟩
  clear hput hb hh
  unfold execOp
  rw [ho]
  simp only [hx, hy]
  go_simp
theorem nw_mv {o : Oper} {ρ : Operand → Value} (ho : o.op = .alloc 52) (u : World) : (execOp ρ o).run Tryd.prog u = .ok (.value (.pointer (some ⟨u.heap.size, 0, none⟩))) (u.alloc (.cells (mcs zM) 52 (0, 0))) := by
  unfold execOp
  rw [ho]
  go_simp
  try rfl
theorem st_sv {o : Oper} {ρ : Operand → Value} {x y : Operand} {u : World} {g : Nat} {m : Sh} (ho : o.op = .store 153 x y) (hx : ρ x = .pointer (some ⟨g, 0, none⟩)) (hy : ρ y = sv m) (hh : u.heap[g]? = some (.cells (scs zS) 153 (0, 0))) :
    ∃ u', (execOp ρ o).run Tryd.prog u = .ok .skip u' ∧ u'.heap[g]? = some (.cells (scs m) 153 (0, 0)) ∧ Fr (fun i => i = g) u u' := by
  have hb : Sb u g zS := hh
  obtain ⟨d0, d1, d2, d3, d4, d5, d6, d7, df⟩ := hb.cells
  have hput := hb.put m.no m.ow m.pw m.ax m.ay m.sx m.sy m.lf
  refine ⟨((((((((u.setCell ⟨g, 0, none⟩ (.int .i64 m.no)).setCell ⟨g, 1, none⟩ (.int .i64 m.ow)).setCell ⟨g, 2, none⟩ (.int .i64 m.pw)).setCell ⟨g, 3, none⟩ (.int .i64 m.ax)).setCell ⟨g, 4, none⟩ (.int .i64 m.ay)).setCell ⟨g, 5, none⟩ (.int .i64 m.sx)).setCell ⟨g, 6, none⟩ (.int .i64 m.sy)).setCell ⟨g, 7, none⟩ (.int .i64 m.lf)), ?_, hput, (((((((((Fr.refl (fun i => i = g) u).setCell ⟨g, 0, none⟩ (.int .i64 m.no) (.inl rfl)).setCell ⟨g, 1, none⟩ (.int .i64 m.ow) (.inl rfl)).setCell ⟨g, 2, none⟩ (.int .i64 m.pw) (.inl rfl)).setCell ⟨g, 3, none⟩ (.int .i64 m.ax) (.inl rfl)).setCell ⟨g, 4, none⟩ (.int .i64 m.ay) (.inl rfl)).setCell ⟨g, 5, none⟩ (.int .i64 m.sx) (.inl rfl)).setCell ⟨g, 6, none⟩ (.int .i64 m.sy) (.inl rfl)).setCell ⟨g, 7, none⟩ (.int .i64 m.lf) (.inl rfl))⟩
  clear hput hb hh
  unfold execOp
  rw [ho]
  simp only [hx, hy]
  go_simp
theorem nw_sv {o : Oper} {ρ : Operand → Value} (ho : o.op = .alloc 153) (u : World) : (execOp ρ o).run Tryd.prog u = .ok (.value (.pointer (some ⟨u.heap.size, 0, none⟩))) (u.alloc (.cells (scs zS) 153 (0, 0))) := by
  unfold execOp
  rw [ho]
  go_simp
  try rfl
theorem st_cv {o : Oper} {ρ : Operand → Value} {x y : Operand} {u : World} {g : Nat} {m : Scr} (ho : o.op = .store 54 x y) (hx : ρ x = .pointer (some ⟨g, 0, none⟩)) (hy : ρ y = cv m) (hh : u.heap[g]? = some (.cells (ccs zC) 54 (0, 0))) :
    ∃ u', (execOp ρ o).run Tryd.prog u = .ok .skip u' ∧ u'.heap[g]? = some (.cells (ccs m) 54 (0, 0)) ∧ Fr (fun i => i = g) u u' := by
  have hb : Cb u g zC := hh
  obtain ⟨d0, d1, d2, d3, df⟩ := hb.cells
  have hput := hb.put m.p m.h m.o m.k
  refine ⟨((((u.setCell ⟨g, 0, none⟩ (.int .i64 m.p)).setCell ⟨g, 1, none⟩ (.int .i64 m.h)).setCell ⟨g, 2, none⟩ (.int .i64 m.o)).setCell ⟨g, 3, none⟩ (.int .i64 m.k)), ?_, hput, (((((Fr.refl (fun i => i = g) u).setCell ⟨g, 0, none⟩ (.int .i64 m.p) (.inl rfl)).setCell ⟨g, 1, none⟩ (.int .i64 m.h) (.inl rfl)).setCell ⟨g, 2, none⟩ (.int .i64 m.o) (.inl rfl)).setCell ⟨g, 3, none⟩ (.int .i64 m.k) (.inl rfl))⟩
  clear hput hb hh
  unfold execOp
  rw [ho]
  simp only [hx, hy]
  go_simp
theorem nw_cv {o : Oper} {ρ : Operand → Value} (ho : o.op = .alloc 54) (u : World) : (execOp ρ o).run Tryd.prog u = .ok (.value (.pointer (some ⟨u.heap.size, 0, none⟩))) (u.alloc (.cells (ccs zC) 54 (0, 0))) := by
  unfold execOp
  rw [ho]
  go_simp
  try rfl
theorem st_kv {o : Oper} {ρ : Operand → Value} {x y : Operand} {u : World} {g : Nat} {m : Pk} (ho : o.op = .store 155 x y) (hx : ρ x = .pointer (some ⟨g, 0, none⟩)) (hy : ρ y = kv m) (hh : u.heap[g]? = some (.cells (kcs zK) 155 (0, 0))) :
    ∃ u', (execOp ρ o).run Tryd.prog u = .ok .skip u' ∧ u'.heap[g]? = some (.cells (kcs m) 155 (0, 0)) ∧ Fr (fun i => i = g) u u' := by
  have hb : Kb u g zK := hh
  obtain ⟨d0, d1, d2, df⟩ := hb.cells
  have hput := hb.put m.no m.sp m.kd
  refine ⟨(((u.setCell ⟨g, 0, none⟩ (.int .i64 m.no)).setCell ⟨g, 1, none⟩ (.int .i64 m.sp)).setCell ⟨g, 2, none⟩ (.int .i64 m.kd)), ?_, hput, ((((Fr.refl (fun i => i = g) u).setCell ⟨g, 0, none⟩ (.int .i64 m.no) (.inl rfl)).setCell ⟨g, 1, none⟩ (.int .i64 m.sp) (.inl rfl)).setCell ⟨g, 2, none⟩ (.int .i64 m.kd) (.inl rfl))⟩
  clear hput hb hh
  unfold execOp
  rw [ho]
  simp only [hx, hy]
  go_simp
theorem nw_kv {o : Oper} {ρ : Operand → Value} (ho : o.op = .alloc 155) (u : World) : (execOp ρ o).run Tryd.prog u = .ok (.value (.pointer (some ⟨u.heap.size, 0, none⟩))) (u.alloc (.cells (kcs zK) 155 (0, 0))) := by
  unfold execOp
  rw [ho]
  go_simp
  try rfl
end Go.Proofs.YtdljmpjfiggdiaaDoor
